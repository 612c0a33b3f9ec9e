import Derived.Test.YtjhkadffaephmacGreatCutRestStatesCD
namespace Go.Proofs.YtjhkadffaephmacGreat
set_option maxHeartbeats 16000000
set_option maxRecDepth 100000
open Go.RowKit
def Eng.lookTo (n:Net) (e:Eng) (i j:Nat):Eng:={ e with R:=fun r c=>if r=i/\c<j then n.route i c (fun k=>e.has n i k c) else e.R r c }
theorem Eng.lookTo_zero (n:Net)(e:Eng)(i:Nat):e.lookTo n i 0=e:=by
 unfold Eng.lookTo;have:(fun r c=>if r=i/\c<0 then n.route i c (fun k=>e.has n i k c) else e.R r c)=e.R:=by funext r c;rw[if_neg (by omega)]
 rw[this]
theorem Eng.lookTo_succ (n:Net)(e:Eng)(i j:Nat):{ e.lookTo n i j with R:=fun r c=>if r=i/\c=j then n.route i j (fun k=>e.has n i k j) else (e.lookTo n i j).R r c }=e.lookTo n i (j+1):=by
 have hf:(fun r c=>if r=i/\c=j then n.route i j (fun k=>e.has n i k j) else (e.lookTo n i j).R r c)=(e.lookTo n i (j+1)).R:=by
  funext r c;show (if r=i/\c=j then n.route i j (fun k=>e.has n i k j) else (if r=i/\c<j then n.route i c (fun k=>e.has n i k c) else e.R r c))=(if r=i/\c<j+1 then n.route i c (fun k=>e.has n i k c) else e.R r c);by_cases h1:r=i/\c=j
  ·obtain⟨rfl,rfl⟩:=h1;rw[if_pos ⟨rfl,rfl⟩,if_pos ⟨rfl,by omega⟩]
  ·rw[if_neg h1];by_cases h2:r=i/\c<j
   ·rw[if_pos h2,if_pos ⟨h2.1,by omega⟩]
   ·rw[if_neg h2,if_neg (by omega)]
 show Eng.mk (fun r c=>if r=i/\c=j then n.route i j (fun k=>e.has n i k j) else (e.lookTo n i j).R r c) e.told e.D e.bag=e.lookTo n i (j+1);rw[hf];rfl
structure LkI (w:World) (n:dA) (x:iA) (N i P:Nat) (Bv:Value) (y:Lay) (j:Nat) (W:World):Prop where
 below:Below w.heap.size w W
 nb:Blk W w.heap.size n.cells 27
 eb:Blk W (w.heap.size+1) x.cells 31
 rs:Blk W (w.heap.size+2) #[.slice none 0 0,.slice none 0 0] 31
 live:qC (w.heap.size+3) P N (x.eng.lookTo n.net i j) Bv y W
theorem LkI.keep {w:World}{n:dA}{x:iA}{N i P:Nat}{Bv:Value}{y:Lay}{j:Nat}{W W':World}(h:LkI w n x N i P Bv y j W)(hb:Below W.heap.size W W'):LkI w n x N i P Bv y j W' :=
 ⟨h.below.trans (hb.mono h.below.size),h.nb.below hb h.nb.lt,h.eb.below hb h.eb.lt,h.rs.below hb h.rs.lt,h.live.below hb⟩
theorem LkI.next {w:World}{n:dA}{x:iA}{N i P:Nat}{Bv:Value}{y:Lay}{j:Nat}{W:World}(h:LkI w n x N i P Bv y j W)(hi:i<N)(hj:j<N):LkI w n x N i P Bv y (j+1) (W.setCell ⟨y.rb i,j,none⟩ (.int .i64 (n.net.route i j (fun k=>x.eng.has n.net i k j)))):=by
 have hl:=h.live.lr i hi;have hs:=h.live.setRoute hi hj (n.net.route i j (fun k=>x.eng.has n.net i k j));rw[Eng.lookTo_succ]at hs;exact⟨h.below.setCell (p:=⟨y.rb i,j,none⟩) (by show w.heap.size<=y.rb i;omega) _,h.nb.other (by omega) _ _,h.eb.other (by omega) _ _,h.rs.other (by omega) _ _,hs⟩
structure LkG (w:World) (n:dA) (x:iA) (N i P:Nat) (Bv:Value) (y:Lay) (j:Nat) (ha:Nat) (W:World):Prop where
 inv:LkI w n x N i P Bv y j W
 row:Ints (some ⟨ha,0,none⟩) N ha 0 (fun k=>x.eng.has n.net i k j) W
 lt:ha<W.heap.size
theorem LkG.keep {w:World}{n:dA}{x:iA}{N i P:Nat}{Bv:Value}{y:Lay}{j ha:Nat}{W W':World}(h:LkG w n x N i P Bv y j ha W)(hb:Below W.heap.size W W'):LkG w n x N i P Bv y j ha W' :=
 ⟨h.inv.keep hb,h.row.below hb (fun _=>h.lt),Nat.lt_of_lt_of_le h.lt hb.size⟩
theorem fF (n:dA)(x:iA)(N i:Nat)(w:World)(h:n.In w.heap.size w)(hx:x.In w.heap.size w)(hN:n.nodes=N)(hR:x.Right n.net N)(hi:i<N):
 Calls Tryz.prog 54 #[n.val,x.val,.int .i64 i] w fun r w'=>(∃P Bv y,qC w.heap.size P N (x.eng.look n.net i) Bv y w'/\r=.returned (.agg #[.slice (some ⟨y.G,0,none⟩) N y.gc,Bv]))/\Below w.heap.size w w':=by
 obtain⟨G0,g2,G1,h2⟩:=SA hR.check hN;have g:=Net.good_of_check hR.check;have k2:2<=n.a.size:=g.law.good.lo;have l2:n.a.size<=24:=g.law.good.hi;obtain⟨i1,H1,I1,J1,K1⟩:=info_parts Tryz.infoInt;have Q0:n.cells=#[.int .i64 n.a.size,.slice n.a.B.ga n.a.B.t.len n.a.B.cap,.slice n.a.E.ga n.a.E.t.len n.a.E.cap,.int .i64 N,.slice n.la n.ln n.lc]:=by simp only[dA.cells,Mat.val,hN]
 have H0:x.cells=#[.slice x.rs.ga N x.rs.gc,.slice x.bag.ba x.bag.bn x.bag.bc]:=by rw[<-hR.gn];rfl
 obtain⟨W0,w0⟩:∃W0,W0=((w.alloc (.cells n.cells 27)).alloc (.cells x.cells 31)).alloc (.cells #[.slice none 0 0,.slice none 0 0] 31):=⟨_,rfl⟩;have Y0:Below w.heap.size w W0:=by rw[w0];exact(((Below.refl _ w).alloc lR _).alloc (by simp) _).alloc (by simp;omega) _
 have I0:W0.heap.size=w.heap.size+3:=by rw[w0];simp
 have b3:Blk W0 w.heap.size n.cells 27:=by rw[w0];exact((Blk.new w _ _).alloc _).alloc _
 have b4:Blk W0 (w.heap.size+1) x.cells 31:=by rw[w0];exact(show Blk _ (w.heap.size+1) _ _ from Blk.new' (by simp)).alloc _
 have b6:Blk W0 (w.heap.size+2) #[.slice none 0 0,.slice none 0 0] 31:=by rw[w0];exact Blk.new' (by simp)
 have R0:=hide (JC x N W0 (hx.grown Y0) hR.gn G0 g2 hR.bn hR.rl hR.tl hR.ll);have Z0:=hide (fun (j:Nat) (W:World) (hb:Below w.heap.size w W) ga cap b o hf hbl hr=>xI n i j ga cap b o (fun k=>x.eng.has n.net i k j) W (h.grown hb) hR.check hf hbl hr);rw[G1]at Z0;have O1:Hid (∀j,j<N->n.net.Routes (fun k=>x.eng.has n.net i k j)):=hide (fun j hj=>hR.fit.has g (by omega) (by omega));have HR:=hide hR;have Hx:=hide hx;have d1:=hide Y0;have g1:=hide b3;have h1:=hide b4;have j1:=hide b6;have S0:=hide Q0;have P1:=hide H0;have k1:=hide I0;have z0:=b4.cell 0;have z1:=b4.cell 1;rw[H0]at z0 z1;simp at z0 z1;rw[Q0,H0]at w0;simp only[dA.val,iA.val,Q0,H0]at R0 Z0 |-;have A1:=hide w0;have T0:Hid (x.rs.ga=some ⟨x.rs.gb,x.rs.go,none⟩):=hide (hx.rs.ga (by rw[hR.gn];exact G0));clear h hx hR Y0 b3 b4 b6 Q0 H0 I0 w0 hN G1 h2 g;rw[A1.out]at R0 z0 z1;go_enter Tryz.func54,Tryz.ntmps54;go_wp2_with fail;go_at_call 58;refine R0.out.mono ?_;rw[<-A1.out];rintro r W1 ⟨⟨P0,Bv,y,v1,rfl⟩,N0⟩;obtain⟨ba,bc,U0⟩:=QA v1.live.bag;obtain⟨P,hP⟩:∃P,P=W1.heap.size:=⟨_,rfl⟩;obtain⟨W2,O0⟩:∃W2,W2=W1.alloc (.cells #[.slice (some ⟨y.G,0,none⟩) N y.gc,Bv] 31):=⟨_,rfl⟩;have B1:Below W1.heap.size W1 W2:=by rw[O0];exact(Below.refl _ W1).alloc lR _
 have i0:=N0.trans (B1.mono N0.size);have o1:=v1.rebox;rw[<-O0,<-hP,k1.out]at o1;have C1:Hid (LkI w n x N i P Bv y 0 W2):=hide ⟨d1.out.trans (i0.mono d1.out.size),g1.out.below i0 g1.out.lt,h1.out.below i0 h1.out.lt,j1.out.below i0 j1.out.lt,by rw[Eng.lookTo_zero];exact o1⟩;rw[U0]at O0;rw[U0];have Q1:=hide O0;have HP:=hide hP;have R1:=hide U0;clear v1 N0 B1 i0 o1 O0 hP U0 R0 z0 z1 g1 h1 j1 d1;go_wp2_with fail;rw[<-Q1.out,<-HP.out]
 go_loopw [8,9,10] (fun q _ _ wr=>∃j:Nat,j<=N/\q=.int .i64 j/\Hid (LkI w n x N i P Bv y j wr)) (fun q _ _ _=>N-(intOf q).toNat)
 case atStart=>exact⟨0,zL,rfl,C1⟩
 case round =>
  clear C1;obtain⟨j,hj,rfl,HI⟩:=hrel;have x3:=HI.out.nb.cell 3;simp[S0.out]at x3;by_cases V0:j<N
  ·have S1:(j:Int)<(N:Int):=by omega
   obtain⟨Wj,w1⟩:∃Wj,Wj=wr:=⟨wr,rfl⟩;have D1:Hid (LkI w n x N i P Bv y j Wj):=by rw[w1];exact HI
   go_wp2_with fail;rw[<-w1];clear w1 HI x3
   go_loopw [9,10] (fun s q wr=>∃k:Nat,k<=N/\q=.int .i64 k/\Hid (Below Wj.heap.size Wj wr)/\Hid (wr.ownsRow Wj.heap.size 3 1 s k (JA (fun k=>x.eng.has n.net i k j) k))) (fun _ q _=>N-(intOf q).toNat)
   case atStart=>exact⟨0,zL,rfl,hide (Below.refl _ _),hide (World.ownsRow_nil _ _ _ _)⟩
   case round =>
    obtain⟨k,hk,rfl,h0,q0⟩:=hrel;have o0:=D1.out.keep h0.out;have x3:=o0.nb.cell 3;simp[S0.out]at x3;by_cases X0:k<N
    ·have T1:(k:Int)<(N:Int):=by omega
     have o2:(i:Int)<(N:Int):=by omega
     have y0:=Hx.out.below o0.below lR;have J0:i<x.rs.gn:=by rw[HR.out.gn];exact hi
     have e0:=o0.eb.cell 0;simp[P1.out]at e0;rw[T0.out]at e0;have c1:=y0.rs.c1 i J0;have A0:=HR.out.tl i hi;rw[A0]at c1;have j0:=(y0.rs.r i J0).T.ga (by rw[A0];exact G0);rw[j0]at c1;have B0:=(y0.rs.r i J0).T.row k (by rw[A0];exact X0);have u0:=HR.out.ll i hi k X0;have x0:=o0.nb.cell 0;simp[S0.out]at x0;have k0:Hid (x.eng.has n.net i k j=if x.eng.told i k=true then x.eng.D i k j else n.a.size-1):=hide rfl;by_cases ht:x.eng.told i k=true
     ·rw[if_pos ht]at u0 k0;rw[u0]at B0;obtain⟨x1,i2⟩:=(y0.rs.r i J0).T.addr k (by rw[A0];exact X0) (by rw[u0];exact G0);rw[x1]at B0;have v0:=(y0.rs.r i J0).T.cell k (by rw[A0];exact X0) j (by rw[u0];exact V0);have hz:(x.rs.r i).T.t.Z k j=x.eng.D i k j:=rfl;rw[hz]at v0;have p2:((N:Int) == 0)=false:=by simp;omega
      obtain⟨dv,L1⟩:∃dv,dv=x.eng.D i k j:=⟨_,rfl⟩;rw[<-L1]at v0 k0;have q1:=hide x1;have C0:=hide j0;have U1:=hide o0;clear o0 y0 u0 ht x1 i2 hz L1 j0 A0;go_wp2_with (at_builtin;refine wpList_append_lies _ rfl _ _ _ rfl Wj.heap.size 3 i1 _ 1 8 Tryz.underlying32 H1 I1 J1 K1 rfl (by decide) _ k _ rfl (q0.out.alloc _) ⟨wr.heap.size,0,none⟩ 1 1 [.int .i64 dv] rfl rfl ?c1 ?c2 (by decide) ?c3 ?c4 ?c5 _ rfl ?_)
      all_goals try (case c1=>exact World.news_of_block (Blk.new' (by simp)))
      all_goals try (case c2=>simp[Value.oneCell'])
      all_goals try (case c3=>unfold maxLen;omega)
      all_goals try (case c4=>omega)
      all_goals try (case c5=>have:=h0.out.size;simp;omega)
      intro g' D0 w4 d0 g0 E0 F0;have K0:=hide ((h0.out.alloc h0.out.size (.cells #[.int .i64 dv] 3)).trans (nA g0 (fun g hg=>(q0.out.lt g hg).1) (by have:=h0.out.size;simp;omega)));have L0:Hid (w4.ownsRow Wj.heap.size 3 1 (.slice (some ⟨g',0,none⟩) (k+1) D0) (k+1) (JA (fun k=>x.eng.has n.net i k j) (k+1))):=hide (by rw[OA,k0.out];exact d0);clear d0 g0 E0 F0 q0 h0 U1;go_wp2;go_roundw
      case rel =>
       first
       | exact⟨k+1,by omega,by go_num,K0,L0⟩
       | ((try rw[<-q1.out]);(try rw[<-C0.out]);(try rw[<-T0.out]);(repeat apply Exists.intro);refine⟨?_,rfl⟩;exact⟨k+1,by omega,by go_num,K0,L0⟩)
      case measure=>simp[intOf];omega
     ·rw[if_neg ht]at u0 k0;rw[u0]at B0;have C0:=hide j0;clear o0 y0 u0 ht j0 A0;go_wp2_with (at_builtin;refine wpList_append_lies _ rfl _ _ _ rfl Wj.heap.size 3 i1 _ 1 8 Tryz.underlying32 H1 I1 J1 K1 rfl (by decide) _ k _ rfl (q0.out.alloc _) ⟨wr.heap.size,0,none⟩ 1 1 [.int .i64 (n.a.size-1)] rfl rfl ?c1 ?c2 (by decide) ?c3 ?c4 ?c5 _ rfl ?_)
      all_goals try (case c1=>exact World.news_of_block (Blk.new' (by simp)))
      all_goals try (case c2=>simp[Value.oneCell'])
      all_goals try (case c3=>unfold maxLen;omega)
      all_goals try (case c4=>omega)
      all_goals try (case c5=>have:=h0.out.size;simp;omega)
      intro g' D0 w4 d0 g0 E0 F0;have K0:=hide ((h0.out.alloc h0.out.size (.cells #[.int .i64 (n.a.size-1)] 3)).trans (nA g0 (fun g hg=>(q0.out.lt g hg).1) (by have:=h0.out.size;simp;omega)));have L0:Hid (w4.ownsRow Wj.heap.size 3 1 (.slice (some ⟨g',0,none⟩) (k+1) D0) (k+1) (JA (fun k=>x.eng.has n.net i k j) (k+1))):=hide (by rw[OA,k0.out];exact d0);clear d0 g0 E0 F0 q0 h0;go_wp2;go_roundw
      case rel =>
       first
       | exact⟨k+1,by omega,by go_num,K0,L0⟩
       | ((try rw[<-C0.out]);(try rw[<-T0.out]);(repeat apply Exists.intro);refine⟨?_,rfl⟩;exact⟨k+1,by omega,by go_num,K0,L0⟩)
      case measure=>simp[intOf];omega
    ·have V1:k=N:=by omega
     subst V1;have T1:(k:Int)<=(k:Int):=Int.le_refl _;obtain⟨ha,hc,rfl,j2,M1⟩:=q0.out.form G0;have E1:Hid (LkG w n x k i P Bv y j ha wr):=hide ⟨o0,⟨fun _=>rfl,fun q hq=>by have:=q0.out.cellAt q (by omega);rw[NB hq]at this;rw[Nat.zero_add];exact this,by unfold maxLen;omega⟩,M1⟩;have t1:=hide (fun (W:World) (hG:LkG w n x k i P Bv y j ha W)=>Z0.out j W hG.inv.below (some ⟨ha,0,none⟩) hc ha 0 hG.row hG.lt (O1.out j V0));obtain⟨rv,y1⟩:∃rv,rv=n.net.route i j (fun q=>x.eng.has n.net i q j):=⟨_,rfl⟩;rw[<-y1]at t1;have X1:=hide y1;have M0:Hid (i<k):=hide hi;clear o0 q0 h0 D1 j2 M1 y1;go_wp2_with fail;clear x3;refine KA 13 _ (LkG w n x k i P Bv y j ha) (oC [.pointer (some ⟨P,0,none⟩),.slice (some ⟨y.G,0,none⟩) k y.gc,.int .i64 i,.pointer (some ⟨y.G,i*2,none⟩),.pointer (some ⟨y.G,i*2,none⟩),.slice (some ⟨y.rb i,0,none⟩) k (y.rc i),.int .i64 j,.agg #[.int .i64 n.a.size,.slice n.a.B.ga n.a.B.t.len n.a.B.cap,.slice n.a.E.ga n.a.E.t.len n.a.E.cap,.int .i64 k,.slice n.la n.ln n.lc],.int .i64 i,.int .i64 j,.slice (some ⟨ha,0,none⟩) k hc,.int .i64 rv,.pointer (some ⟨y.rb i,j,none⟩)]) (fun _ W=>LkI w n x k i P Bv y (j+1) W) (fun _ _ _=>True) (by kernel_rfl) (by kernel_rfl) (by kernel_rfl) (by kernel_rfl) (by kernel_rfl) rfl (E1.out.keep ⟨rfl,rfl,rfl,lR,fun _ _=>rfl⟩) ⟨?_,?_,?_,?_,?_,?_,?_,?_,?_,?_,?_,?_,?_,trivial⟩ ?_ trivial ?_;rotate_right
     ·intro t W hG _;simp only[fill,Act.put,sX,sY,sU];have HN:=hide hG;clear hG E1 t1;go_wp2;go_roundw
      case rel =>
       first
       | exact⟨j+1,by omega,by go_num,HN⟩
       | ((try rw[<-T0.out]);(repeat apply Exists.intro);refine⟨?_,rfl⟩;exact⟨j+1,by omega,by go_num,HN⟩)
      case measure=>simp[intOf];omega
     rotate_right
     ·intro t W hG hE _ K hK;have Y1:=aA (hE 11 (by omega)) rfl;have Z1:=aA (hE 12 (by omega)) rfl;simp only[fill,Act.put,sX,sY,sU,Y1,Z1]at hK |-;rw[if_pos (by rfl)];have u1:=hG.inv.next M0.out V0;rw[<-X1.out]at u1;obtain⟨cs,N1⟩:=hG.inv.live.blk i M0.out;have cc:=(hG.inv.live.live.routes i M0.out).2 j V0;have fc:=N1.frozen j;have a2:=hide u1;clear u1 N1 hE;go_simp;exact hK undef _ a2.out
     all_goals intro t W hG hp ht K hK
     all_goals clear ht
     all_goals simp only[fill,Act.put,sX,sY,sU]at hK |-
     ·rw[if_pos (by rfl)];go_simp;exact hK _ _ hG rfl (fun _ _ _ h=>h)
     ·have e0:=aA (hp 0 (by decide)) rfl;have cq:=hG.inv.live.live.head.cell 0;simp at cq;simp only[e0]at hK |-;rw[if_pos (by rfl)];go_simp;exact hK _ _ hG rfl (fun _ _ _ h=>h)
     ·rw[if_pos (by rfl)];go_simp;exact hK _ _ hG rfl (fun _ _ _ h=>h)
     ·have e1:=aA (hp 1 (by decide)) rfl;have e2:=aA (hp 2 (by decide)) rfl;have b2:(i:Int)<(k:Int):=by have:=M0.out;omega
      simp only[e1,e2]at hK |-;rw[if_pos (by rfl)];go_simp;exact hK _ _ hG rfl (fun _ _ _ h=>h)
     ·have e3:=aA (hp 3 (by decide)) rfl;simp only[e3]at hK |-;rw[if_pos (by rfl)];go_simp;exact hK _ _ hG rfl (fun _ _ _ h=>h)
     ·have e4:=aA (hp 4 (by decide)) rfl;have cq:=hG.inv.live.live.rtrs.cell (i*2);rw[hG.inv.live.live.r0 i M0.out]at cq;simp only[e4]at hK |-;rw[if_pos (by rfl)];go_simp;exact hK _ _ hG rfl (fun _ _ _ h=>h)
     ·rw[if_pos (by rfl)];go_simp;exact hK _ _ hG rfl (fun _ _ _ h=>h)
     ·have m0:=hG.inv.nb.cell 0;have m1:=hG.inv.nb.cell 1;have m2:=hG.inv.nb.cell 2;have m3:=hG.inv.nb.cell 3;have m4:=hG.inv.nb.cell 4;simp[S0.out]at m0 m1 m2 m3 m4;rw[if_pos (by rfl)];go_simp;exact hK _ _ hG rfl (fun _ _ _ h=>h)
     ·rw[if_pos (by rfl)];go_simp;exact hK _ _ hG rfl (fun _ _ _ h=>h)
     ·rw[if_pos (by rfl)];go_simp;exact hK _ _ hG rfl (fun _ _ _ h=>h)
     ·rw[if_pos (by rfl)];go_simp;exact hK _ _ hG rfl (fun _ _ _ h=>h)
     ·have e7:=aA (hp 7 (by decide)) rfl;have e8:=aA (hp 8 (by decide)) rfl;have e9:=aA (hp 9 (by decide)) rfl;have d2:=aA (hp 10 (by decide)) rfl;simp only[e7,e8,e9,d2]at hK |-;rw[if_pos (by rfl)];have HC:=hide (t1.out W hG);go_simp;go_at_call 50;refine HC.out.mono ?_;rintro r W1 ⟨rfl,N0⟩;go_simp;exact hK _ _ (hG.keep N0) rfl (fun _ _ _ h=>h)
     ·have e5:=aA (hp 5 (by decide)) rfl;have e6:=aA (hp 6 (by decide)) rfl;simp only[e5,e6]at hK |-;rw[if_pos (by rfl)];go_simp;exact hK _ _ hG rfl (fun _ _ _ h=>h)
  ·have f2:j=N:=by omega
   subst f2;have S1:(j:Int)<=(j:Int):=Int.le_refl _;have hl:=HI.out.live.congr (e':=x.eng.look n.net i) (fun r c hr hc=>by
    show (if r=i/\c<j then n.net.route i c (fun k=>x.eng.has n.net i k c) else x.eng.R r c)=(if r=i then n.net.route i c (fun k=>x.eng.has n.net i k c) else x.eng.R r c);by_cases e1:r=i
    ·rw[if_pos ⟨e1,hc⟩,if_pos e1]
    ·rw[if_neg (fun hh=>e1 hh.1),if_neg e1]) (fun _ _ _ _=>rfl) (fun _ _ _ _ _ _ _=>rfl) rfl
   have c6:=HI.out.rs;have p0:=HI.out.live.live.head.cell 0;have p1:=HI.out.live.live.head.cell 1;have s0:=c6.cell 0;have s1:=c6.cell 1;have f0:=c6.frozen 0;have f1:=c6.frozen 1;have c7:=(c6.set 0 (.slice (some ⟨y.G,0,none⟩) j y.gc)).set 1 Bv;have e0:=c7.cell 0;have e1:=c7.cell 1;simp at p0 p1 s0 s1 e0 e1;have F1:=(hl.setRes G0 (by omega) c6 (.slice (some ⟨y.G,0,none⟩) j y.gc) Bv).mono (lo:=w.heap.size) (by omega);have HF:Hid ((∃P Bw z,qC w.heap.size P j (x.eng.look n.net i) Bw z ((wr.setCell ⟨w.heap.size+2,0,none⟩ (.slice (some ⟨y.G,0,none⟩) j y.gc)).setCell ⟨w.heap.size+2,1,none⟩ Bv)/\Ending.returned (.agg #[.slice (some ⟨y.G,0,none⟩) j y.gc,Bv])=.returned (.agg #[.slice (some ⟨z.G,0,none⟩) j z.gc,Bw]))/\Below w.heap.size w ((wr.setCell ⟨w.heap.size+2,0,none⟩ (.slice (some ⟨y.G,0,none⟩) j y.gc)).setCell ⟨w.heap.size+2,1,none⟩ Bv)):=hide ⟨⟨_,_,_,F1,rfl⟩,(HI.out.below.setCell (p:=⟨w.heap.size+2,0,none⟩) (by show w.heap.size<=w.heap.size+2;omega) _).setCell (p:=⟨w.heap.size+2,1,none⟩) (by show w.heap.size<=w.heap.size+2;omega) _⟩;rw[R1.out]at p1 e0 e1 HF;generalize x.eng.bag.length=bl at *;clear hl F1 c6 c7 HI;go_wp2;exact bodyPost_ret (v:=.agg #[.slice (some ⟨y.G,0,none⟩) j y.gc,.slice ba bl bc]) (by simp[results,Tryz.results54,go_sem,e0,e1]) rfl HF.out
theorem Net.row_of {n:Net}{l:Nat}{f:Nat->Int}(h:(l:Int)=n.nodes):n.row l f=if jB l f n.a.size=false then 5 else 0:=by
 unfold Net.row jB;rw[if_neg (by omega)]
theorem WH (n:dA)(a:Option Addr)(l c b o:Nat)(f:Nat->Int)(w:World)(hi:Ints a l b o f w)(hb:0<l->b<w.heap.size)(h2:2<=n.a.size)(h24:n.a.size<=24):
 Calls Tryz.prog 32 #[n.val,.slice a l c] w fun e w'=>e=.returned (.int .i64 (n.net.row l f))/\Below w.heap.size w w':=by
 have k0:=hi.len;unfold maxLen at k0;have m0:Below w.heap.size w (w.alloc (.cells n.cells 27)):=(Below.refl _ w).alloc lR _;have b0:=Blk.new w n.cells 27;have HX:=hide (hi.below m0 hb);have h0:=hide m0;have o0:Hid ((l:Int)≠n.nodes->n.net.row l f=1):=hide (fun h=>by unfold Net.row;rw[if_pos (show (l:Int)≠n.net.nodes from h)]);have p0:Hid ((l:Int)=n.nodes->n.net.row l f=if jB l f n.a.size=false then 5 else 0):=hide (fun h=>Net.row_of h);clear hi m0 hb;simp only[dA.val,dA.cells,Mat.val]at *;by_cases hl:(l:Int)=n.nodes;rotate_left
 ·have u0:((l:Int) != n.nodes)=true:=by simp[hl]
  have d0:=hide (o0.out hl);clear hl o0 p0;go_enter Tryz.func32,Tryz.ntmps32;go_wp2;go_ret;exact⟨by rw[d0.out];rfl,h0.out⟩
 have u0:((l:Int) != n.nodes)=false:=by simp[hl]
 have i0:=hide (p0.out hl);clear hl o0 p0;obtain⟨W0,j0⟩:∃W0,W0=w.alloc (.cells #[.int .i64 n.a.size,.slice n.a.B.ga n.a.B.t.len n.a.B.cap,.slice n.a.E.ga n.a.E.t.len n.a.E.cap,.int .i64 n.nodes,.slice n.la n.ln n.lc] 27):=⟨_,rfl⟩;have x0:W0.cell? ⟨w.heap.size,0,none⟩=some (.int .i64 n.a.size):=by rw[j0];exact b0.cell 0
 rw[<-j0]at HX h0;clear b0;go_enter Tryz.func32,Tryz.ntmps32;go_wp2_with fail;rw[<-j0];clear j0
 go_loopw [5] (fun q wr=>∃k:Nat,k<=l/\q=.int .i64 k/\Hid (∀r,r<k->0<=f r/\f r<n.a.size)/\Hid (∃z,wr=W0.drewN z)) (fun q _=>l-(intOf q).toNat)
 case atStart=>exact⟨0,zL,rfl,hide fun r hr=>absurd hr nZ,hide ⟨0,rfl⟩⟩
 case round =>
  obtain⟨k,hk,rfl,g0,HD⟩:=hrel;by_cases s0:k<l
  ·have v0:(k:Int)<(l:Int):=by omega
   have ha:=HX.out.addr (by omega);have:wr.cell? ⟨b,o+k,none⟩=some (.int .i64 (f k)):=by obtain⟨z,rfl⟩:=HD.out;exact HX.out.cell k s0
   have:wr.cell? ⟨w.heap.size,0,none⟩=some (.int .i64 n.a.size):=by obtain⟨z,rfl⟩:=HD.out;exact x0
   have HQ:=hide (fun W=>qI (f k) 0 (n.a.size-1) W);by_cases q0:0<=f k/\f k<=n.a.size-1
   ·have hb:(decide (0<=f k) && decide (f k<=n.a.size-1))=true:=by simp[q0]
    rw[hb]at HQ;have Hn:Hid (∀r,r<k+1->0<=f r/\f r<n.a.size):=hide (fun r hr=>by
     by_cases e:r=k
     ·subst e;omega
     ·exact g0.out r (by omega))
    clear q0 hb;go_wp2_with fail
    go_quiet ((go_at_call 52;exact Calls.quiet_of (HQ.out _)))
    go_wp2;go_roundw
    case rel =>
     first
     | exact⟨k+1,by omega,by go_num,Hn,hide (by obtain⟨m,rfl⟩:=HD.out;exact⟨_,by rw[World.drewN_drewN]⟩)⟩
     | ((try rw[<-ha]);(repeat apply Exists.intro);refine⟨?_,rfl⟩;exact⟨k+1,by omega,by go_num,Hn,hide (by obtain⟨m,rfl⟩:=HD.out;exact⟨_,by rw[World.drewN_drewN]⟩)⟩)
    case measure=>simp[intOf];omega
   ·have hb:(decide (0<=f k) && decide (f k<=n.a.size-1))=false:=by simp;omega
    rw[hb]at HQ;have f0:jB l f n.a.size=false:=by
     cases hh:jB l f n.a.size with
     | false=>rfl
     | true=>exact absurd (sD.1 hh k s0) (by omega)
    have d0:Hid (n.net.row l f=5):=hide (by rw[i0.out,if_pos f0]);clear q0 hb f0 i0;go_wp2_with fail
    go_quiet ((go_at_call 52;exact Calls.quiet_of (HQ.out _)))
    go_wp2;go_ret;exact⟨by rw[d0.out];rfl,by obtain⟨m,rfl⟩:=HD.out;exact below_drewN (below_drewN h0.out m) _⟩
  ·have v0:(l:Int)<=(k:Int):=by omega
   have f0:jB l f n.a.size=true:=sD.2 (fun r hr=>g0.out r (by omega));have d0:Hid (n.net.row l f=0):=hide (by rw[i0.out,f0];rfl);clear f0 i0;go_wp2;go_ret;exact⟨by rw[d0.out];rfl,by obtain⟨m,rfl⟩:=HD.out;exact below_drewN h0.out m⟩
structure SB (w:World) (n:dA) (x:iA) (v:EvM) (W:World):Prop where
 below:Below w.heap.size w W
 bn:Blk W w.heap.size n.cells 27
 bx:Blk W (w.heap.size+1) x.cells 31
 bv:Blk W (w.heap.size+2) v.cells 34
 br:Blk W (w.heap.size+3) #[.slice none 0 0,.slice none 0 0] 31
theorem SB.keep {w:World}{n:dA}{x:iA}{v:EvM}{W W':World}(h:SB w n x v W)(hb:Below W.heap.size W W'):SB w n x v W' :=
 ⟨h.below.trans (hb.mono h.below.size),h.bn.below hb h.bn.lt,h.bx.below hb h.bx.lt,h.bv.below hb h.bv.lt,h.br.below hb h.br.lt⟩
theorem SB.set {w:World}{n:dA}{x:iA}{v:EvM}{W:World}(h:SB w n x v W){q:Nat}(hq:w.heap.size+3<q)(j:Nat)(u:Value):SB w n x v (W.setCell ⟨q,j,none⟩ u) :=
 ⟨h.below.setCell (p:=⟨q,j,none⟩) (by show w.heap.size<=q;omega) _,h.bn.other (by omega) _ _,h.bx.other (by omega) _ _,h.bv.other (by omega) _ _,h.br.other (by omega) _ _⟩
theorem SB.start (w:World)(n:dA)(x:iA)(v:EvM):SB w n x v ((((w.alloc (.cells n.cells 27)).alloc (.cells x.cells 31)).alloc (.cells v.cells 34)).alloc (.cells #[.slice none 0 0,.slice none 0 0] 31)) :=
 ⟨(((((Below.refl _ w).alloc lR _).alloc (by simp) _).alloc (by simp;omega) _).alloc (by simp;omega) _),((((Blk.new w _ _).alloc _).alloc _).alloc _),((show Blk _ (w.heap.size+1) _ _ from Blk.new' (by simp)).alloc _).alloc _,(show Blk _ (w.heap.size+2) _ _ from Blk.new' (by simp)).alloc _,Blk.new' (by simp)⟩
theorem Live.setOld {base P N:Nat}{e:Eng}{Bv:Value}{y:Lay}{W:World}(h:Live base P N e Bv y W)(hN0:0<N){q:Nat}{t:TypeId}(hq:q<base){a a':Option Addr}{l c l' c':Nat}(hb:Blk W q #[.slice a l c,.slice a' l' c'] t)(u v:Value):
 Live base P N e Bv y ((W.setCell ⟨q,0,none⟩ u).setCell ⟨q,1,none⟩ v):=by
 obtain⟨W2,g0⟩:∃W2,W2=(W.setCell ⟨q,0,none⟩ u).setCell ⟨q,1,none⟩ v:=⟨_,rfl⟩;have k0:W2.heap.size=W.heap.size:=by rw[g0];simp
 have i0:∀b o z,W.cell? ⟨b,o,none⟩=some (.int .i64 z)->b≠q:=fun b o z hc e1=>by
  subst e1;rw[hb.cell o]at hc;rcases o with _ | _ | o
  ·simp at hc
  ·simp at hc
  ·simp at hc
 have d0:∀b o,b≠q->W2.cell? ⟨b,o,none⟩=W.cell? ⟨b,o,none⟩:=fun b o hne=>by rw[g0,qA hne,qA hne]
 have f0:∀b cs t,b≠q->Blk W b cs t->Blk W2 b cs t:=fun b cs t hne hk=>by rw[g0];exact(hk.other hne _ _).other hne _ _
 have h0:∀b,y.Off P N Bv W b->y.Off P N Bv W2 b:=fun b ho=>⟨ho.p,ho.g,ho.t,ho.v,by rw[k0];exact ho.lt,ho.lo⟩;have:=h.lp;have:=h.lg;have j0:Bv.ownBlock≠some q:=fun e1=>by have:=(h.bag.lt q e1).1;omega
 rw[<-g0];refine⟨f0 _ _ _ (by omega) h.head,f0 _ _ _ (by omega) h.rtrs,h.r0,h.r1,fun i hi=>f0 _ _ _ (by have:=h.lt i hi;omega) (h.tolds i hi),h.t0,fun i hi=>?_,fun i hi k hk ht=>?_,?_,h.lp,h.lg,h.lt,h.pg,h.pt,h.gt,h.tt,h.bv,h.ylo,fun r hr=>(by rw[g0];exact((h.sr r hr).set _ _).set _ _),fun r hr k hk ht=>(by rw[g0];exact((h.sd r hr k hk ht).set _ _).set _ _)⟩
 ·obtain⟨h1,h2⟩:=h.routes i hi;exact⟨h0 _ h1,fun j hj=>by rw[d0 _ _ (i0 _ _ _ (h2 0 hN0))];exact h2 j hj⟩
 ·obtain⟨h1,h2,h3⟩:=h.rows i hi k hk ht;exact⟨h1,h0 _ h2,fun j hj=>by rw[d0 _ _ (i0 _ _ _ (h3 0 hN0))];exact h3 j hj⟩
 ·rw[g0];exact ownsRow_setCell_other (ownsRow_setCell_other h.bag j0 _) j0 _
def EC (n:Net) (x:iA) (v:Ev) (w:World) (r:Ending) (w':World):Prop :=
 Below w.heap.size w w' /\
 ((x.eng.stepErr n v≠0/\r=.returned (.tuple #[YI,.int .i64 (x.eng.stepErr n v)])) \/
  (x.eng.stepErr n v=0/\∃m:iA,r=.returned (.tuple #[m.val,.int .i64 0])/\m.In w'.heap.size w'/\m.eng=x.eng.step n v/\m.err n=0/\m.bag.bn<=m.bag.bc/\m.Apart w'))
theorem step_fin {n:dA}{x:iA}{v:EvM}{w W:World}{base P N:Nat}{e:Eng}{Bv:Value}{y:Lay}(hL:Live base P N e Bv y W)(hs:SB w n x v W)(hlo:w.heap.size+3<base)(hck:n.net.check=0)(hN:n.nodes=N)(hfit:e.Fit n.net)(he:e=x.eng.step n.net v.ev)(h0:x.eng.stepErr n.net v.ev=0):
 EC n.net x v.ev w (.returned (.tuple #[.agg #[.slice (some ⟨y.G,0,none⟩) N y.gc,Bv],.int .i64 0])) ((W.setCell ⟨w.heap.size+3,0,none⟩ (.slice (some ⟨y.G,0,none⟩) N y.gc)).setCell ⟨w.heap.size+3,1,none⟩ Bv):=by
 obtain⟨g0,k0,y0,m0⟩:=SA hck hN;have i0:=hL.setOld g0 hlo hs.br (.slice (some ⟨y.G,0,none⟩) N y.gc) Bv;obtain⟨m,o0,d0,f0,p0,q0,s0,u0,v0,w0,x0,_⟩:=i0.outF g0 k0 hfit.many (fun m hm=>(hfit.mail m hm).2.2);have j0:m.err n.net=0:=iA.of_right ⟨hck,p0,q0,s0,fun i hi q hq=>by rw[f0];exact u0 i hi q hq,by rw[v0];exact hfit.many,by rw[f0];exact hfit⟩ m0;exact⟨(hs.below.setCell (p:=⟨w.heap.size+3,0,none⟩) (by show w.heap.size<=w.heap.size+3;omega) _).setCell (p:=⟨w.heap.size+3,1,none⟩) (by show w.heap.size<=w.heap.size+3;omega) _,Or.inr ⟨h0,m,by rw[iA.val,o0],d0,by rw[f0];exact he,j0,w0.cap,x0⟩⟩
theorem jE {n:dA}{x:iA}{v:EvM}{w W:World}{er:Int}(hs:SB w n x v W)(he:x.eng.stepErr n.net v.ev=er)(h0:er≠0):
 EC n.net x v.ev w (.returned (.tuple #[.agg #[.slice none 0 0,.slice none 0 0],.int .i64 er])) ((W.setCell ⟨w.heap.size+3,0,none⟩ (.slice none 0 0)).setCell ⟨w.heap.size+3,1,none⟩ (.slice none 0 0)) :=
 ⟨(hs.below.setCell (p:=⟨w.heap.size+3,0,none⟩) (by show w.heap.size<=w.heap.size+3;omega) _).setCell (p:=⟨w.heap.size+3,1,none⟩) (by show w.heap.size<=w.heap.size+3;omega) _,Or.inl ⟨by rw[he];exact h0,by rw[he];rfl⟩⟩
end Go.Proofs.YtjhkadffaephmacGreat

namespace Go.Proofs.YtjhkadffaephmacGreat
set_option maxHeartbeats 16000000
set_option maxRecDepth 100000
section
variable {n:Net} {e:Eng} {v:Ev}
theorem Eng.err_kind (h:v.kind<1\/7<v.kind):e.stepErr n v=7:=by unfold Eng.stepErr;rw[if_pos h]
theorem Eng.err_place (h2:2<=v.kind)(h5:v.kind<=5)(h:v.loc<0\/(e.bag.length:Int)<=v.loc):e.stepErr n v=5:=by unfold Eng.stepErr;rw[if_neg (by omega),if_pos (by omega),if_pos h]
theorem Eng.err_node (hk:v.kind=1\/v.kind=6\/v.kind=7)(h:v.loc<0\/n.nodes<=v.loc):e.stepErr n v=5:=by unfold Eng.stepErr;rw[if_neg (by omega),if_neg (by omega),if_pos h]
theorem Eng.err_tick (hk:v.kind=1)(h0:0<=v.loc)(h1:v.loc<n.nodes):e.stepErr n v=if 120<e.bag.length+(n.hearers v.loc.toNat).length then 2 else 0:=by unfold Eng.stepErr;rw[if_neg (by omega),if_neg (by omega),if_neg (by omega),if_pos hk]
theorem Eng.err_deliver (hk:v.kind=2)(h0:0<=v.loc)(h1:v.loc<e.bag.length):e.stepErr n v=0:=by unfold Eng.stepErr;rw[if_neg (by omega),if_pos (by omega),if_neg (by omega),if_neg (by omega),if_neg (by omega)]
theorem Eng.err_twice (hk:v.kind=3)(h0:0<=v.loc)(h1:v.loc<e.bag.length):e.stepErr n v=if 120<=e.bag.length then 2 else 0:=by unfold Eng.stepErr;rw[if_neg (by omega),if_pos (by omega),if_neg (by omega),if_pos hk]
theorem Eng.err_lose (hk:v.kind=4)(h0:0<=v.loc)(h1:v.loc<e.bag.length):e.stepErr n v=0:=by unfold Eng.stepErr;rw[if_neg (by omega),if_pos (by omega),if_neg (by omega),if_neg (by omega),if_neg (by omega)]
theorem Eng.err_spoil (hk:v.kind=5)(h0:0<=v.loc)(h1:v.loc<e.bag.length):e.stepErr n v=if (v.b<0\/((e.bag.getD v.loc.toNat zA).b.length:Int)<=v.b)\/(v.c<1\/255<v.c) then 3 else 0:=by unfold Eng.stepErr;rw[if_neg (by omega),if_pos (by omega),if_neg (by omega),if_neg (by omega),if_pos hk]
theorem Eng.err_expire (hk:v.kind=6)(h0:0<=v.loc)(h1:v.loc<n.nodes):e.stepErr n v=if v.b<0\/n.nodes<=v.b then 5 else 0:=by unfold Eng.stepErr;rw[if_neg (by omega),if_neg (by omega),if_neg (by omega),if_neg (by omega),if_pos hk]
theorem Eng.err_restart (hk:v.kind=7)(h0:0<=v.loc)(h1:v.loc<n.nodes):e.stepErr n v=n.row v.n v.R:=by unfold Eng.stepErr;rw[if_neg (by omega),if_neg (by omega),if_neg (by omega),if_neg (by omega),if_neg (by omega)]
theorem Eng.does_tick (hk:v.kind=1):e.step n v=e.tick n v.loc.toNat:=by unfold Eng.step;rw[if_pos hk]
theorem Eng.does_deliver (hk:v.kind=2):e.step n v=e.deliver n v.loc.toNat:=by unfold Eng.step;rw[if_neg (by omega),if_pos hk]
theorem Eng.does_twice (hk:v.kind=3):e.step n v=e.twice v.loc.toNat:=by unfold Eng.step;rw[if_neg (by omega),if_neg (by omega),if_pos hk]
theorem Eng.does_lose (hk:v.kind=4):e.step n v=e.without v.loc.toNat:=by unfold Eng.step;rw[if_neg (by omega),if_neg (by omega),if_neg (by omega),if_pos hk]
theorem Eng.does_spoil (hk:v.kind=5):e.step n v=e.spoil v.loc.toNat v.b.toNat (u8 v.c):=by unfold Eng.step;rw[if_neg (by omega),if_neg (by omega),if_neg (by omega),if_neg (by omega),if_pos hk]
theorem Eng.does_expire (hk:v.kind=6):e.step n v=e.expire n v.loc.toNat v.b.toNat:=by unfold Eng.step;rw[if_neg (by omega),if_neg (by omega),if_neg (by omega),if_neg (by omega),if_neg (by omega),if_pos hk]
theorem Eng.does_restart (hk:v.kind=7):e.step n v=e.restart v.loc.toNat v.R:=by unfold Eng.step;rw[if_neg (by omega),if_neg (by omega),if_neg (by omega),if_neg (by omega),if_neg (by omega),if_neg (by omega)]
end
end Go.Proofs.YtjhkadffaephmacGreat

namespace Go.Proofs.YtjhkadffaephmacGreat
set_option maxHeartbeats 16000000
set_option maxRecDepth 100000
open Go.RowKit
theorem NM (n:dA)(x:iA)(v:EvM)(N:Nat)(w:World)(h:n.In w.heap.size w)(hx:x.In w.heap.size w)(hv:v.In w.heap.size w)(hN:n.nodes=N)(hR:x.Right n.net N)(_hcap:x.bag.bn<=x.bag.bc)(hkd:v.kind<1\/7<v.kind):
 Calls Tryz.prog 19 #[n.val,x.val,v.val] w fun r w'=>EC n.net x v.ev w r w':=by
 obtain⟨D0,E0,q0,s0⟩:=SA hR.check hN;have k0:n.net.nodes=n.nodes:=rfl;have f0:x.eng.bag.length=x.bag.bn:=by show ((List.range x.bag.bn).map x.bag.M).length=_;simp
 have:=hR.bn;have w0:Hid (x.eng.stepErr n.net v.ev=7):=hide (Eng.err_kind (v:=v.ev) hkd);obtain⟨W0,h0⟩:∃W0,W0=(((w.alloc (.cells n.cells 27)).alloc (.cells x.cells 31)).alloc (.cells v.cells 34)).alloc (.cells #[.slice none 0 0,.slice none 0 0] 31):=⟨_,rfl⟩;have m0:SB w n x v W0:=by rw[h0];exact SB.start w n x v
 have o0:W0.heap.size=w.heap.size+4:=by rw[h0];simp
 have g0:n.cells=#[.int .i64 n.a.size,.slice n.a.B.ga n.a.B.t.len n.a.B.cap,.slice n.a.E.ga n.a.E.t.len n.a.E.cap,.int .i64 N,.slice n.la n.ln n.lc]:=by simp only[dA.cells,Mat.val,hN]
 have i0:v.cells=#[.int .i64 v.kind,.int .i64 v.loc,.int .i64 v.b,.int .i64 v.c,.slice v.ra v.rl v.rc]:=rfl;have j0:x.cells=#[.slice x.rs.ga x.rs.gn x.rs.gc,.slice x.bag.ba x.bag.bn x.bag.bc]:=rfl;have:=hide h;have:=hide hx;have:=hide hv;have:=hide hR;have d0:=hide m0;have:=hide o0;have y0:=hide g0;have z0:=hide i0;have A0:=hide j0;have:=hide hN;have:=hide f0;have:=hide s0;have:=hide q0;have B0:=hide (fun (i:Int) (W:World)=>aC n i W (by omega) (by omega));simp only[dA.val,g0,hN]at B0;rw[g0,i0,j0]at h0;simp only[dA.val,iA.val,EvM.val,g0,i0,j0];have C0:=hide h0;have v0:=d0.out.bv.cell 0;have v1:=d0.out.bv.cell 1;have v2:=d0.out.bv.cell 2;have v3:=d0.out.bv.cell 3;have v4:=d0.out.bv.cell 4;rw[z0.out]at v0 v1 v2 v3 v4;simp at v0 v1 v2 v3 v4;have n0:=d0.out.bn.cell 0;have n1:=d0.out.bn.cell 1;have n2:=d0.out.bn.cell 2;have n3:=d0.out.bn.cell 3;have n4:=d0.out.bn.cell 4;rw[y0.out]at n0 n1 n2 n3 n4;simp at n0 n1 n2 n3 n4;have x0:=d0.out.bx.cell 0;have x1:=d0.out.bx.cell 1;rw[A0.out]at x0 x1;simp at x0 x1;clear h hx hv hR m0 o0 g0 i0 j0 hN h0 f0 s0 q0 k0;go_enter Tryz.func19,Tryz.ntmps19;go_wp2_with fail;rw[<-C0.out];go_at_call 52;refine(jA _ _ _ _).mono ?_;rintro e w1 ⟨rfl,u0⟩;rw[u0];clear u0;have p0:(decide ((1:Int)<=v.kind) && decide (v.kind<=7))=false:=by simp;omega
 rw[p0];clear p0;have HF:=hide (jE (er:=7) d0.out (w0.out) (by decide));have c7:=(d0.out.br.set 0 (.slice none 0 0)).set 1 (.slice none 0 0);have e0:=c7.cell 0;have e1:=c7.cell 1;simp at e0 e1;have r0:=d0.out.br.cell 0;have r1:=d0.out.br.cell 1;have:=d0.out.br.frozen 0;have:=d0.out.br.frozen 1;simp at r0 r1;clear c7;go_wp2;exact bodyPost_ret (v:=.tuple #[.agg #[.slice none 0 0,.slice none 0 0],.int .i64 7]) (by simp[results,Tryz.results19,go_sem,e0,e1]) rfl HF.out
theorem OL (n:dA)(x:iA)(v:EvM)(N:Nat)(w:World)(h:n.In w.heap.size w)(hx:x.In w.heap.size w)(hv:v.In w.heap.size w)(hN:n.nodes=N)(hR:x.Right n.net N)(_hcap:x.bag.bn<=x.bag.bc)(h2:2<=v.kind)(h5:v.kind<=5)(hpl:v.loc<0\/(x.bag.bn:Int)<=v.loc):
 Calls Tryz.prog 19 #[n.val,x.val,v.val] w fun r w'=>EC n.net x v.ev w r w':=by
 obtain⟨F0,G0,w0,y0⟩:=SA hR.check hN;have m0:n.net.nodes=n.nodes:=rfl;have g0:x.eng.bag.length=x.bag.bn:=by show ((List.range x.bag.bn).map x.bag.M).length=_;simp
 have:=hR.bn;have z0:Hid (x.eng.stepErr n.net v.ev=5):=hide (Eng.err_place (v:=v.ev) h2 h5 (by rw[g0];exact hpl));obtain⟨W0,i0⟩:∃W0,W0=(((w.alloc (.cells n.cells 27)).alloc (.cells x.cells 31)).alloc (.cells v.cells 34)).alloc (.cells #[.slice none 0 0,.slice none 0 0] 31):=⟨_,rfl⟩;have o0:SB w n x v W0:=by rw[i0];exact SB.start w n x v
 have p0:W0.heap.size=w.heap.size+4:=by rw[i0];simp
 have h0:n.cells=#[.int .i64 n.a.size,.slice n.a.B.ga n.a.B.t.len n.a.B.cap,.slice n.a.E.ga n.a.E.t.len n.a.E.cap,.int .i64 N,.slice n.la n.ln n.lc]:=by simp only[dA.cells,Mat.val,hN]
 have j0:v.cells=#[.int .i64 v.kind,.int .i64 v.loc,.int .i64 v.b,.int .i64 v.c,.slice v.ra v.rl v.rc]:=rfl;have k0:x.cells=#[.slice x.rs.ga x.rs.gn x.rs.gc,.slice x.bag.ba x.bag.bn x.bag.bc]:=rfl;have:=hide h;have:=hide hx;have:=hide hv;have:=hide hR;have d0:=hide o0;have:=hide p0;have A0:=hide h0;have B0:=hide j0;have C0:=hide k0;have:=hide hN;have:=hide g0;have:=hide y0;have:=hide w0;have D0:=hide (fun (i:Int) (W:World)=>aC n i W (by omega) (by omega));simp only[dA.val,h0,hN]at D0;rw[h0,j0,k0]at i0;simp only[dA.val,iA.val,EvM.val,h0,j0,k0];have E0:=hide i0;have v0:=d0.out.bv.cell 0;have v1:=d0.out.bv.cell 1;have v2:=d0.out.bv.cell 2;have v3:=d0.out.bv.cell 3;have v4:=d0.out.bv.cell 4;rw[B0.out]at v0 v1 v2 v3 v4;simp at v0 v1 v2 v3 v4;have n0:=d0.out.bn.cell 0;have n1:=d0.out.bn.cell 1;have n2:=d0.out.bn.cell 2;have n3:=d0.out.bn.cell 3;have n4:=d0.out.bn.cell 4;rw[A0.out]at n0 n1 n2 n3 n4;simp at n0 n1 n2 n3 n4;have x0:=d0.out.bx.cell 0;have x1:=d0.out.bx.cell 1;rw[C0.out]at x0 x1;simp at x0 x1;clear h hx hv hR o0 p0 h0 j0 k0 hN i0 g0 y0 w0 m0;go_enter Tryz.func19,Tryz.ntmps19;go_wp2_with fail;rw[<-E0.out];go_at_call 52;refine(jA _ _ _ _).mono ?_;rintro e w1 ⟨rfl,f0⟩;rw[f0];clear f0;have q0:(decide ((1:Int)<=v.kind) && decide (v.kind<=7))=true:=by simp;omega
 rw[q0];clear q0;go_wp2_with fail;go_at_call 52;refine(jA _ _ _ _).mono ?_;rintro e w1 ⟨rfl,f0⟩;rw[f0];clear f0;have s0:(decide ((2:Int)<=v.kind) && decide (v.kind<=5))=true:=by simp;omega
 rw[s0];clear s0;go_wp2_with fail;go_at_call 52;refine(jA _ _ _ _).mono ?_;rintro e w1 ⟨rfl,f0⟩;rw[f0];clear f0;have u0:(decide (0<=v.loc) && decide (v.loc<=(x.bag.bn:Int)-1))=false:=by simp;omega
 rw[u0];clear u0;have HF:=hide (jE (er:=5) d0.out (z0.out) (by decide));have c7:=(d0.out.br.set 0 (.slice none 0 0)).set 1 (.slice none 0 0);have e0:=c7.cell 0;have e1:=c7.cell 1;simp at e0 e1;have r0:=d0.out.br.cell 0;have r1:=d0.out.br.cell 1;have:=d0.out.br.frozen 0;have:=d0.out.br.frozen 1;simp at r0 r1;clear c7;go_wp2;exact bodyPost_ret (v:=.tuple #[.agg #[.slice none 0 0,.slice none 0 0],.int .i64 5]) (by simp[results,Tryz.results19,go_sem,e0,e1]) rfl HF.out
theorem LM (n:dA)(x:iA)(v:EvM)(N:Nat)(w:World)(h:n.In w.heap.size w)(hx:x.In w.heap.size w)(hv:v.In w.heap.size w)(hN:n.nodes=N)(hR:x.Right n.net N)(_hcap:x.bag.bn<=x.bag.bc)(hkd:v.kind=1\/v.kind=6\/v.kind=7)(hpl:v.loc<0\/(N:Int)<=v.loc):
 Calls Tryz.prog 19 #[n.val,x.val,v.val] w fun r w'=>EC n.net x v.ev w r w':=by
 obtain⟨I0,J0,B0,q0⟩:=SA hR.check hN;have o0:n.net.nodes=n.nodes:=rfl;have g0:x.eng.bag.length=x.bag.bn:=by show ((List.range x.bag.bn).map x.bag.M).length=_;simp
 have:=hR.bn;have D0:Hid (x.eng.stepErr n.net v.ev=5):=hide (Eng.err_node (v:=v.ev) hkd (by rw[q0];exact hpl));obtain⟨W0,i0⟩:∃W0,W0=(((w.alloc (.cells n.cells 27)).alloc (.cells x.cells 31)).alloc (.cells v.cells 34)).alloc (.cells #[.slice none 0 0,.slice none 0 0] 31):=⟨_,rfl⟩;have s0:SB w n x v W0:=by rw[i0];exact SB.start w n x v
 have u0:W0.heap.size=w.heap.size+4:=by rw[i0];simp
 have h0:n.cells=#[.int .i64 n.a.size,.slice n.a.B.ga n.a.B.t.len n.a.B.cap,.slice n.a.E.ga n.a.E.t.len n.a.E.cap,.int .i64 N,.slice n.la n.ln n.lc]:=by simp only[dA.cells,Mat.val,hN]
 have k0:v.cells=#[.int .i64 v.kind,.int .i64 v.loc,.int .i64 v.b,.int .i64 v.c,.slice v.ra v.rl v.rc]:=rfl;have m0:x.cells=#[.slice x.rs.ga x.rs.gn x.rs.gc,.slice x.bag.ba x.bag.bn x.bag.bc]:=rfl;have:=hide h;have:=hide hx;have:=hide hv;have:=hide hR;have d0:=hide s0;have:=hide u0;have E0:=hide h0;have F0:=hide k0;have G0:=hide m0;have:=hide hN;have:=hide g0;have:=hide q0;have:=hide B0;have w0:=hide (fun (i:Int) (W:World)=>aC n i W (by omega) (by omega));simp only[dA.val,h0,hN]at w0;rw[h0,k0,m0]at i0;simp only[dA.val,iA.val,EvM.val,h0,k0,m0];have H0:=hide i0;have v0:=d0.out.bv.cell 0;have v1:=d0.out.bv.cell 1;have v2:=d0.out.bv.cell 2;have v3:=d0.out.bv.cell 3;have v4:=d0.out.bv.cell 4;rw[F0.out]at v0 v1 v2 v3 v4;simp at v0 v1 v2 v3 v4;have n0:=d0.out.bn.cell 0;have n1:=d0.out.bn.cell 1;have n2:=d0.out.bn.cell 2;have n3:=d0.out.bn.cell 3;have n4:=d0.out.bn.cell 4;rw[E0.out]at n0 n1 n2 n3 n4;simp at n0 n1 n2 n3 n4;have x0:=d0.out.bx.cell 0;have x1:=d0.out.bx.cell 1;rw[G0.out]at x0 x1;simp at x0 x1;clear h hx hv hR s0 u0 h0 k0 m0 hN i0 g0 q0 B0 o0;go_enter Tryz.func19,Tryz.ntmps19;go_wp2_with fail;rw[<-H0.out];go_at_call 52;refine(jA _ _ _ _).mono ?_;rintro e w1 ⟨rfl,j0⟩;rw[j0];clear j0;have y0:(decide ((1:Int)<=v.kind) && decide (v.kind<=7))=true:=by simp;omega
 rw[y0];clear y0;go_wp2_with fail;go_at_call 52;refine(jA _ _ _ _).mono ?_;rintro e w1 ⟨rfl,j0⟩;rw[j0];clear j0;have z0:(decide ((2:Int)<=v.kind) && decide (v.kind<=5))=false:=by simp;omega
 rw[z0];clear z0;go_wp2_with fail;go_at_call 33;refine(w0.out _ _).mono ?_;rintro e W1 ⟨rfl,C0⟩;have p0:Hid (Below W0.heap.size W0 W1):=hide (by rw[C0];exact(Below.refl _ _).alloc lR _);have f0:=hide (d0.out.keep p0.out);clear C0  v0 v1 v2 v3 v4 n0 n1 n2 n3 n4 x0 x1;have A0:(decide (0<=v.loc) && decide (v.loc<=(N:Int)-1))=false:=by simp;omega
 rw[A0];clear A0;have HF:=hide (jE (er:=5) f0.out (D0.out) (by decide));have c7:=(f0.out.br.set 0 (.slice none 0 0)).set 1 (.slice none 0 0);have e0:=c7.cell 0;have e1:=c7.cell 1;simp at e0 e1;have r0:=f0.out.br.cell 0;have r1:=f0.out.br.cell 1;have:=f0.out.br.frozen 0;have:=f0.out.br.frozen 1;simp at r0 r1;clear c7;go_wp2;exact bodyPost_ret (v:=.tuple #[.agg #[.slice none 0 0,.slice none 0 0],.int .i64 5]) (by simp[results,Tryz.results19,go_sem,e0,e1]) rfl HF.out
end Go.Proofs.YtjhkadffaephmacGreat
