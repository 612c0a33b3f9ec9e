import Derived.Test.YtjhkadffaephmacGreatCutRestStatesCF
namespace Go.Proofs.YtjhkadffaephmacGreat
set_option maxHeartbeats 16000000
set_option maxRecDepth 100000
open Go.RowKit
theorem SB.belowLo {w:World}{n:dA}{x:iA}{v:EvM}{Wl W:World}(h1:SB w n x v Wl)(h2:SB w n x v W)(hs:Wl.heap.size<=W.heap.size)(hb:∀b,b<Wl.heap.size->W.heap[b]? = Wl.heap[b]?):Below Wl.heap.size Wl W :=
 ⟨h2.below.os.trans h1.below.os.symm,h2.below.tape.trans h1.below.tape.symm,h2.below.output.trans h1.below.output.symm,hs,hb⟩
def Eng.toldTo (n:Net) (e:Eng) (i:Nat) (K:List Nat) (j:Nat):Eng:={ e with bag:=e.bag ++ (K.take j).map fun q=>e.mail n i q }
theorem Eng.toldTo_zero (n:Net)(e:Eng)(i:Nat)(K:List Nat):e.toldTo n i K 0=e:=by simp[Eng.toldTo]
theorem Eng.toldTo_succ (n:Net)(e:Eng)(i:Nat)(K:List Nat)(j:Nat)(hj:j<K.length):{ e.toldTo n i K j with bag:=(e.toldTo n i K j).bag ++ [e.mail n i (K.getD j 0)] }=e.toldTo n i K (j+1):=by
 unfold Eng.toldTo;simp only[kL K _ j hj,List.append_assoc]
theorem Eng.toldTo_len (n:Net)(e:Eng)(i:Nat)(K:List Nat)(j:Nat)(hj:j<=K.length):(e.toldTo n i K j).bag.length=e.bag.length+j:=by
 unfold Eng.toldTo;simp only[List.length_append,List.length_map,List.length_take];omega
theorem Eng.toldTo_end (n:Net)(e:Eng)(i:Nat):(e.look n i).toldTo n i (n.hearers i) (n.hearers i).length=e.tick n i:=by
 unfold Eng.toldTo Eng.tick;rw[List.take_length];rfl
theorem KM (n:dA)(x:iA)(v:EvM)(N:Nat)(w:World)(h:n.In w.heap.size w)(hx:x.In w.heap.size w)(hv:v.In w.heap.size w)(hN:n.nodes=N)(hR:x.Right n.net N)(_hcap:x.bag.bn<=x.bag.bc)(k:Nat)(hk:v.loc=(k:Int))(hkd:v.kind=1)(hkN:k<N):
 Calls Tryz.prog 19 #[n.val,x.val,v.val] w fun r w'=>EC n.net x v.ev w r w':=by
 obtain⟨A3,B3,J1,r2⟩:=SA hR.check hN;have y1:n.net.nodes=n.nodes:=rfl;have q0:x.eng.bag.length=x.bag.bn:=by show ((List.range x.bag.bn).map x.bag.M).length=_;simp
 have t3:=hR.bn;obtain⟨K,hK⟩:∃K,K=n.net.hearers k:=⟨_,rfl⟩;obtain⟨e1,s1⟩:∃e1,e1=x.eng.look n.net k:=⟨_,rfl⟩;have I0:Hid (x.eng.stepErr n.net v.ev=if 120<x.bag.bn+K.length then 2 else 0):=hide (by rw[Eng.err_tick (v:=v.ev) hkd (show 0<=v.loc by omega) (show v.loc<n.net.nodes by omega),q0,hK];show (if 120<x.bag.bn+(n.net.hearers v.loc.toNat).length then _ else _)=_;rw[hk];rfl);have J0:Hid (x.eng.step n.net v.ev=e1.toldTo n.net k K K.length):=hide (by rw[Eng.does_tick (v:=v.ev) hkd,hK,s1,Eng.toldTo_end];show x.eng.tick n.net v.loc.toNat=_;rw[hk];rfl);have I2:=hide s1;have HK:=hide hK;have J2:Hid (K.length<=6):=hide (by have:=n.net.hearers_le k;rw[hK];omega);have S1:=hide (fun (i j:Int) (W:World) (hb:Below w.heap.size w W)=>nH n i j W (h.grown hb));have f1:=hide (fun W (hb:Below w.heap.size w W)=>fF n x N k W (h.grown hb) (hx.grown hb) hN hR hkN);obtain⟨i1,t2,u2,x2,y2⟩:=info_parts Tryz.infoInt;have z1:Hid (n.net.hearTo k N=K):=hide (by rw[hK];unfold Net.hearTo Net.hearers;rw[J1]);have K2:Hid (e1.bag.length=x.bag.bn):=hide (by rw[s1];exact q0);clear hK s1;have K0:n.cells=#[.int .i64 n.a.size,.slice n.a.B.ga n.a.B.t.len n.a.B.cap,.slice n.a.E.ga n.a.E.t.len n.a.E.cap,.int .i64 N,.slice n.la n.ln n.lc]:=by simp only[dA.cells,Mat.val,hN]
 simp only[iA.val,iA.cells,dA.val,K0]at S1 f1;clear K0;rw[<-I2.out]at f1;obtain⟨W0,V0⟩:∃W0,W0=(((w.alloc (.cells n.cells 27)).alloc (.cells x.cells 31)).alloc (.cells v.cells 34)).alloc (.cells #[.slice none 0 0,.slice none 0 0] 31):=⟨_,rfl⟩;have T1:SB w n x v W0:=by rw[V0];exact SB.start w n x v
 have U1:W0.heap.size=w.heap.size+4:=by rw[V0];simp
 have L0:n.cells=#[.int .i64 n.a.size,.slice n.a.B.ga n.a.B.t.len n.a.B.cap,.slice n.a.E.ga n.a.E.t.len n.a.E.cap,.int .i64 N,.slice n.la n.ln n.lc]:=by simp only[dA.cells,Mat.val,hN]
 have g1:v.cells=#[.int .i64 1,.int .i64 (k:Int),.int .i64 v.b,.int .i64 v.c,.slice v.ra v.rl v.rc]:=by rw[<-hkd,<-hk];rfl
 have h1:x.cells=#[.slice x.rs.ga x.rs.gn x.rs.gc,.slice x.bag.ba x.bag.bn x.bag.bc]:=rfl;have H:=hide h;have Hx:=hide hx;have Hv:=hide hv;have HR:=hide hR;have k0:=hide T1;have L2:=hide U1;have A1:=hide L0;have C0:=hide g1;have B1:=hide h1;have HN:=hide hN;have M2:=hide q0;have u3:=hide r2;have N2:=hide J1;have w3:=hide hkd;have Hk:=hide hk;have V1:=hide (fun (i:Int) (W:World)=>aC n i W (by omega) (by omega));simp only[dA.val,L0,hN]at V1;rw[L0,g1,h1]at V0;simp only[dA.val,iA.val,EvM.val,L0,g1,h1];have O2:=hide V0;have v0:=k0.out.bv.cell 0;have v1:=k0.out.bv.cell 1;have v2:=k0.out.bv.cell 2;have v3:=k0.out.bv.cell 3;have v4:=k0.out.bv.cell 4;rw[C0.out]at v0 v1 v2 v3 v4;simp at v0 v1 v2 v3 v4;have n0:=k0.out.bn.cell 0;have n1:=k0.out.bn.cell 1;have n2:=k0.out.bn.cell 2;have n3:=k0.out.bn.cell 3;have n4:=k0.out.bn.cell 4;rw[A1.out]at n0 n1 n2 n3 n4;simp at n0 n1 n2 n3 n4;have x0:=k0.out.bx.cell 0;have x1:=k0.out.bx.cell 1;rw[B1.out]at x0 x1;simp at x0 x1;clear h hx hv hR T1 U1 L0 g1 h1 hN V0 q0 r2 J1 y1 hkd hk;go_enter Tryz.func19,Tryz.ntmps19;go_wp2_with fail;rw[<-O2.out];go_at_call 52;refine(jA _ _ _ _).mono ?_;rintro e w1 ⟨rfl,X0⟩;rw[X0];clear X0;have X1:(decide ((1:Int)<=1) && decide ((1:Int)<=7))=true:=by decide
 rw[X1];clear X1;go_wp2_with fail;go_at_call 52;refine(jA _ _ _ _).mono ?_;rintro e w1 ⟨rfl,X0⟩;rw[X0];clear X0;have D0:(decide ((2:Int)<=1) && decide ((1:Int)<=5))=false:=by decide
 rw[D0];clear D0;go_wp2_with fail;go_at_call 33;refine(V1.out _ _).mono ?_;rintro e W1 ⟨rfl,z2⟩;have M0:Hid (Below W0.heap.size W0 W1):=hide (by rw[z2];exact(Below.refl _ _).alloc lR _);have m0:=hide (k0.out.keep M0.out);have P2:Hid (w.heap.size+4<=W1.heap.size):=hide (by have:=M0.out.size;have:=L2.out;omega);clear z2  v0 v1 v2 v3 v4 n0 n1 n2 n3 n4 x0 x1;have v0:=m0.out.bv.cell 0;have v1:=m0.out.bv.cell 1;have v2:=m0.out.bv.cell 2;have v3:=m0.out.bv.cell 3;have v4:=m0.out.bv.cell 4;rw[C0.out]at v0 v1 v2 v3 v4;simp at v0 v1 v2 v3 v4;have n0:=m0.out.bn.cell 0;have n1:=m0.out.bn.cell 1;have n2:=m0.out.bn.cell 2;have n3:=m0.out.bn.cell 3;have n4:=m0.out.bn.cell 4;rw[A1.out]at n0 n1 n2 n3 n4;simp at n0 n1 n2 n3 n4;have x0:=m0.out.bx.cell 0;have x1:=m0.out.bx.cell 1;rw[B1.out]at x0 x1;simp at x0 x1;have E0:(decide (0<=(k:Int)) && decide ((k:Int)<=(N:Int)-1))=true:=by simp;omega
 rw[E0];clear E0;go_wp2_with fail
 go_loopw [8,9] (fun u q wr=>∃j:Nat,j<=N/\q=.int .i64 j/\Hid (wr.ownsRow W1.heap.size 3 1 u (n.net.hearTo k j).length (WE (n.net.hearTo k j)))/\Hid (Below W1.heap.size W1 wr)) (fun _ q _=>N-(intOf q).toNat)
 case atStart=>exact⟨0,zL,rfl,hide (World.ownsRow_nil _ _ _ _),hide (Below.refl _ _)⟩
 case round =>
  obtain⟨j,hj,rfl,HO,i0⟩:=hrel;have d0:=hide (m0.out.keep i0.out);clear v0 v1 v2 v3 v4 n0 n1 n2 n3 n4 x0 x1;have v0:=d0.out.bv.cell 0;have v1:=d0.out.bv.cell 1;have v2:=d0.out.bv.cell 2;have v3:=d0.out.bv.cell 3;have v4:=d0.out.bv.cell 4;rw[C0.out]at v0 v1 v2 v3 v4;simp at v0 v1 v2 v3 v4;have n0:=d0.out.bn.cell 0;have n1:=d0.out.bn.cell 1;have n2:=d0.out.bn.cell 2;have n3:=d0.out.bn.cell 3;have n4:=d0.out.bn.cell 4;rw[A1.out]at n0 n1 n2 n3 n4;simp at n0 n1 n2 n3 n4;have x0:=d0.out.bx.cell 0;have x1:=d0.out.bx.cell 1;rw[B1.out]at x0 x1;simp at x0 x1;by_cases C3:j<N
  ·have j1:(j:Int)<(N:Int):=by omega
   have HC:=hide (S1.out j k wr d0.out.below);have x3:=n.net.hearTo_le k j;go_wp2_with fail;go_at_call 53;refine HC.out.mono ?_;rintro e w2 ⟨rfl,A2⟩;have D0:Below wr.heap.size wr w2:=by rw[A2];exact(Below.refl _ wr).alloc lR _
   have A0:=hide (i0.out.trans (D0.mono i0.out.size));have F0:=hide (ZA HO.out D0);clear A2 D0 HC HO v0 v1 v2 v3 v4 n0 n1 n2 n3 n4 x0 x1;by_cases he:0<=n.net.edge j k
   ·have hs:n.net.hearTo k (j+1)=n.net.hearTo k j ++ [j]:=by rw[Net.hearTo_succ,if_pos he]
    have Hs:Hid ((n.net.hearTo k (j+1)).length=(n.net.hearTo k j).length+1/\WE (n.net.hearTo k (j+1))=WE (n.net.hearTo k j) ++ [.int .i64 (j:Int)]):=hide (by rw[hs];simp[WE]);generalize n.net.edge j k=ed at *;generalize (n.net.hearTo k j).length=len at *;clear hs;go_wp2_with (at_builtin;refine wpList_append_lies _ rfl _ _ _ rfl W1.heap.size 3 i1 _ 1 8 Tryz.underlying32 t2 u2 x2 y2 rfl (by decide) _ len _ rfl (F0.out.alloc _) ⟨w2.heap.size,0,none⟩ 1 1 [.int .i64 (j:Int)] rfl rfl ?c1 ?c2 (by decide) ?c3 ?c4 ?c5 _ rfl ?_)
    all_goals try (case c1=>exact World.news_of_block (Blk.new' (by simp)))
    all_goals try (case c2=>simp[Value.oneCell'])
    all_goals try (case c3=>unfold maxLen;omega)
    all_goals try (case c4=>omega)
    all_goals try (case c5=>have:=A0.out.size;simp;omega)
    intro g' Q1 w4 y0 z0 R1 u0;have N0:=hide ((A0.out.alloc A0.out.size (.cells #[.int .i64 (j:Int)] 3)).trans (nA z0 (fun g hg=>(F0.out.lt g hg).1) (by have:=A0.out.size;simp;omega)));have Y1:Hid (w4.ownsRow W1.heap.size 3 1 (.slice (some ⟨g',0,none⟩) (len+1) Q1) (n.net.hearTo k (j+1)).length (WE (n.net.hearTo k (j+1)))):=hide (by rw[Hs.out.1,Hs.out.2];exact y0);clear y0 z0 R1 u0 A0 F0 Hs;go_wp2;go_roundw
    case rel =>
     first
     | exact⟨j+1,by omega,by go_num,Y1,N0⟩
     | ((repeat apply Exists.intro);refine⟨?_,rfl⟩;exact⟨j+1,by omega,by go_num,Y1,N0⟩)
    case measure=>simp[intOf];omega
   ·have hs:n.net.hearTo k (j+1)=n.net.hearTo k j:=by rw[Net.hearTo_succ,if_neg he,List.append_nil]
    rw[<-hs]at F0;generalize n.net.edge j k=ed at *;clear hs;go_wp2;go_roundw
    case rel =>
     first
     | exact⟨j+1,by omega,by go_num,F0,A0⟩
     | ((repeat apply Exists.intro);refine⟨?_,rfl⟩;exact⟨j+1,by omega,by go_num,F0,A0⟩)
    case measure=>simp[intOf];omega
  ·have O0:j=N:=by omega
   rw[O0,z1.out]at HO;obtain⟨ta,tc,gt,hu,K1⟩:=FJ HO.out;subst hu;have j1:¬ (j:Int)<(N:Int):=by omega
   obtain⟨kl,L1⟩:∃kl,kl=K.length:=⟨_,rfl⟩;rw[<-L1]at K1 |-;have Z1:=hide K1;have Q0:=hide L1;have y3:kl<=6:=by have:=J2.out;omega
   clear O0 HO K1 L1;by_cases j0:120<x.bag.bn+kl
   ·have Q2:(120:Int)<(x.bag.bn:Int)+(kl:Int):=by omega
    have k1:Hid (x.eng.stepErr n.net v.ev=2):=hide (by rw[I0.out,<-Q0.out,if_pos j0]);have HF:=hide (jE (er:=2) d0.out (k1.out) (by decide));have c7:=(d0.out.br.set 0 (.slice none 0 0)).set 1 (.slice none 0 0);have e0:=c7.cell 0;have e1:=c7.cell 1;simp at e0 e1;have r0:=d0.out.br.cell 0;have r1:=d0.out.br.cell 1;have R2:=d0.out.br.frozen 0;have S2:=d0.out.br.frozen 1;simp at r0 r1;clear c7;go_wp2;exact bodyPost_ret (v:=.tuple #[.agg #[.slice none 0 0,.slice none 0 0],.int .i64 2]) (by simp[results,Tryz.results19,go_sem,e0,e1]) rfl HF.out
   have Q2:¬ (120:Int)<(x.bag.bn:Int)+(kl:Int):=by omega
   have k1:Hid (x.eng.stepErr n.net v.ev=0):=hide (by rw[I0.out,<-Q0.out,if_neg j0]);have HC:=hide (f1.out wr d0.out.below);have C1:Hid (w.heap.size+4<=wr.heap.size):=hide (by have:=i0.out.size;have:=P2.out;omega);have R0:=hide j0;clear j0 f1 t2 u2 x2 y2;go_wp2_with fail;go_at_call 54;refine HC.out.mono ?_;rintro r W3 ⟨⟨P0,Bv,y,M1,rfl⟩,E0⟩;obtain⟨ba,bc,w0⟩:=QA M1.live.bag;obtain⟨bl,N1⟩:∃bl,bl=(e1).bag.length:=⟨_,rfl⟩;rw[<-N1]at w0;subst w0;have T2:=hide N1;obtain⟨P,hP⟩:∃P,P=W3.heap.size:=⟨_,rfl⟩;obtain⟨W4,t1⟩:∃W4,W4=W3.alloc (.cells #[.slice (some ⟨y.G,0,none⟩) N y.gc,.slice ba bl bc] 31):=⟨_,rfl⟩;have S0:Below W3.heap.size W3 W4:=by rw[t1];exact(Below.refl _ W3).alloc lR _
   have B0:=E0.trans (S0.mono E0.size);have D1:=M1.rebox;rw[<-t1,<-hP]at D1;have E1:=hide D1.live;have U2:=hide (d0.out.keep B0);have F1:=hide B0;have a2:=hide t1;have HP:=hide hP;clear M1 E0 S0 B0 D1 t1 hP HC N1  v0 v1 v2 v3 v4 n0 n1 n2 n3 n4 x0 x1;obtain⟨Wl,B2⟩:∃Wl,Wl=wr:=⟨_,rfl⟩;rw[<-B2]at E1 F1 C1 d0 Z1;clear B2;have G1:=hide i0;clear i0 G1;go_wp2_with fail;rw[<-a2.out,<-HP.out]
   go_loopw [11,12,13] (fun q _ _ wr=>∃j:Nat,j<=kl/\q=.int .i64 j/\Hid (∃Bv,Live Wl.heap.size P N (e1.toldTo n.net k K j) Bv y wr)/\Hid (Below Wl.heap.size Wl wr)) (fun q _ _ _=>kl-(intOf q).toNat)
   case atStart=>exact⟨0,zL,rfl,hide ⟨_,by rw[Eng.toldTo_zero];exact E1.out⟩,F1⟩
   case round =>
    clear E1 F1 hj j1 a2 HP T2 U2;obtain⟨j2,j3,rfl,HI,i0⟩:=hrel;by_cases u0:j2<kl
    ·have j1:(j2:Int)<(kl:Int):=by omega
     obtain⟨Bv,hl⟩:=HI.out;obtain⟨g0,h0,w0⟩:=QA hl.bag;obtain⟨f0,Y0⟩:∃f0,f0=(e1.toldTo n.net k K j2).bag.length:=⟨_,rfl⟩;rw[<-Y0]at w0;subst w0;obtain⟨k3,l3,C2,D2⟩:=Z1.out (by omega);subst k3;obtain⟨q,hq⟩:∃q,q=K.getD j2 0:=⟨_,rfl⟩;have H1:=D2 j2 u0;rw[<-hq]at H1;obtain⟨ej,Z0⟩:∃ej,ej=e1.toldTo n.net k K j2:=⟨_,rfl⟩;have b2:ej.R k=e1.R k:=by rw[Z0];rfl
     rw[<-Z0]at hl;have G0:=hide hl;have o1:=hide (d0.out.keep i0.out);have d2:=hide H1;have q1:Hid (gt<Wl.heap.size):=hide C2;have Hq:=hide hq;have V2:=hide Z0;have W2:=hide b2;have X2:Hid (ej.bag.length<=200):=hide (by rw[Z0,Eng.toldTo_len n.net e1 k K j2 (by rw[<-Q0.out];exact j3),K2.out];have:=R0.out;omega);obtain⟨tx,O1⟩:∃tx,tx=(Pkt.mk k q N (e1.R k)).text:=⟨_,rfl⟩;obtain⟨er,E2⟩:∃er,er=(Pkt.mk k q N (e1.R k)).err:=⟨_,rfl⟩;have f2:Hid (∀W,Below wr.heap.size wr W->Calls Tryz.prog 55 #[.agg #[.int .i64 (k:Int),.int .i64 (q:Int),.slice (some ⟨y.rb k,0,none⟩) N (y.rc k)]] W fun e w'=>e=.returned (.tuple #[.string ⟨tx.toArray⟩,.int .i64 er])/\Below W.heap.size W w'):=hide (fun W hb=>by
      have Y2:=G0.out.below hb;obtain⟨m3,o3⟩:=Y2.routes k hkN;have:=BM ⟨k,q,some ⟨y.rb k,0,none⟩,N,y.rc k,y.rb k,0,e1.R k⟩ W ⟨⟨fun _=>rfl,fun j hj=>by rw[Nat.zero_add];exact(by rw[<-W2.out];exact o3 j hj),by show N<=_;unfold maxLen;omega⟩,fun _=>m3.lt,by show N<=_;omega⟩;rw[O1,E2];exact this)
     have Z2:=hide O1;clear hl l3 C2 D2 H1 hq Z0 b2 O1 E2 HI Y0;have z3:(k:Int)<(N:Int):=by omega
     have a3:=hide hkN;go_wp2_with fail;refine EA (fun W=>Below wr.heap.size wr W) (oC [.pointer (some ⟨w.heap.size+1+1,1,none⟩),.int .i64 (k:Int),.slice (some ⟨gt,0,none⟩) kl tc,.int .i64 (j2:Int),.pointer (some ⟨gt,j2,none⟩),.int .i64 (q:Int),.pointer (some ⟨P,0,none⟩),.slice (some ⟨y.G,0,none⟩) N y.gc,.pointer (some ⟨w.heap.size+1+1,1,none⟩),.int .i64 (k:Int),.pointer (some ⟨y.G,k*2,none⟩),.pointer (some ⟨y.G,k*2,none⟩),.slice (some ⟨y.rb k,0,none⟩) N (y.rc k),.agg #[.int .i64 (k:Int),.int .i64 (q:Int),.slice (some ⟨y.rb k,0,none⟩) N (y.rc k)],.tuple #[.string ⟨tx.toArray⟩,.int .i64 er],.tuple #[.string ⟨tx.toArray⟩,.int .i64 er],.string ⟨tx.toArray⟩,.int .i64 er,.string ⟨tx.toArray⟩,.int .i64 er]) (by kernel_rfl) (by kernel_rfl) (by kernel_rfl) (⟨rfl,rfl,rfl,lR,fun _ _=>rfl⟩) ⟨?_,?_,?_,?_,?_,?_,?_,?_,?_,?_,?_,?_,?_,?_,?_,?_,?_,?_,?_,?_,trivial⟩ ?_;rotate_right
     ·intro t W hG hE;have g2:=aA (hE 18 (by decide)) rfl;have i2:=aA (hE 19 (by decide)) rfl;have T0:=hide hG;clear hE hG;simp only[fill,Act.put,sX,sY,sU,g2,i2];clear g2 i2;obtain⟨W5,F2⟩:∃W5,W5=W:=⟨_,rfl⟩;rw[<-F2]at T0 |-;clear F2;have U0:=hide (i0.out.trans (T0.out.mono i0.out.size));have H0:=hide (G0.out.below T0.out);have k2:=hide (o1.out.keep T0.out);clear T0 G0 o1 i0 f2;go_wp2_with fail;refine vD (fun d W=>ED w n x v Wl.heap.size P N ej (xB.mk (k:Int) (q:Int) tx) (.slice g0 f0 h0) y W5 (d 11) (d 13) W) (fun d=>oD [.pointer (some ⟨P,1,none⟩),.slice g0 f0 h0,.pointer (some ⟨w.heap.size+1+1,1,none⟩),.int .i64 (k:Int),.slice (some ⟨gt,0,none⟩) kl tc,.int .i64 (j2:Int),.pointer (some ⟨gt,j2,none⟩),.int .i64 (q:Int),.string ⟨tx.toArray⟩,.agg #[.int .i64 (k:Int),.int .i64 (q:Int),.string ⟨tx.toArray⟩],undef,undef,.pointer (some ⟨P,1,none⟩),undef] 10 11 13 Wl.heap.size (ej).bag (xB.mk (k:Int) (q:Int) tx) (.slice g0 f0 h0) W5 (d 11) (d 13)) (by kernel_rfl) (by kernel_rfl) (by kernel_rfl) (ED.start ⟨rfl,rfl,rfl,lR,fun _ _=>rfl⟩) ⟨?_,?_,?_,?_,?_,?_,?_,?_,?_,?_,?_,?_,?_,?_,trivial⟩ ?_;rotate_right
      ·intro d t W d1 hG _;simp only[fill,Act.put,sX,sY,sU];have I1:=hG.fin (d1 13 (by decide));clear hG d1;obtain⟨Bw,hL,hS,G2,H2,p3⟩:=I1;have l2:e1.mail n.net k (K.getD j2 0)=xB.mk (k:Int) (q:Int) tx:=by unfold Eng.mail;rw[N2.out,<-Hq.out,Z2.out]
       have m2:Live Wl.heap.size P N (e1.toldTo n.net k K (j2+1)) Bw y W:=by rw[<-Eng.toldTo_succ n.net e1 k K j2 (by rw[<-Q0.out];exact u0),l2,<-V2.out];exact hL
       have o2:Hid (∃Bv,Live Wl.heap.size P N (e1.toldTo n.net k K (j2+1)) Bv y W):=hide ⟨Bw,m2⟩;have N0:Hid (Below Wl.heap.size Wl W):=hide (d0.out.belowLo hS (Nat.le_trans U0.out.size G2) (fun b hb=>(H2 b (Nat.lt_of_lt_of_le hb U0.out.size) (fun e2=>by have:=(H0.out.bag.lt b e2).1;omega) (fun e2=>by have:=H0.out.lp;omega)).trans (U0.out.block b hb)));clear hL m2 hS G2 H2 p3 l2;go_wp2;go_roundw
       case rel =>
        first
        | exact⟨j2+1,by omega,by go_num,o2,N0⟩
        | ((repeat apply Exists.intro);refine⟨?_,rfl⟩;exact⟨j2+1,by omega,by go_num,o2,N0⟩)
       case measure=>simp[intOf];omega
      all_goals intro d t W hs ho hd hw hG hp K hK
      all_goals simp only[fill,Act.put,sX,sY,sU]at hK |-
      ·rw[if_pos (by rfl)];go_simp;exact hK _ _ hG (uB (by decide) (by decide) (by decide) rfl) (fun j _ _ h=>h)
      ·have e0:=vB (hp 0 (hw 0 (by decide))) (by decide) (by decide) (by decide) rfl;have ha:=wB (F:=15) (S:=11) hs hd (by kernel_rfl);have o0:=hG.old ha;have cx:=(H0.out.below o0).head.cell 1;simp at cx;simp only[e0]at hK |-;rw[if_pos (by rfl)];go_simp;exact hK _ _ hG (uB (by decide) (by decide) (by decide) rfl) (fun j _ _ h=>h)
      ·rw[if_pos (by rfl)];go_simp;exact hK _ _ hG (uB (by decide) (by decide) (by decide) rfl) (fun j _ _ h=>h)
      ·have e2:=vB (hp 2 (hw 2 (by decide))) (by decide) (by decide) (by decide) rfl;have ha:=wB (F:=15) (S:=11) hs hd (by kernel_rfl);have o0:=hG.old ha;have cx:=(k2.out.keep o0).bv.cell 1;rw[C0.out]at cx;simp at cx;simp only[e2]at hK |-;rw[if_pos (by rfl)];go_simp;exact hK _ _ hG (uB (by decide) (by decide) (by decide) rfl) (fun j _ _ h=>h)
      ·rw[if_pos (by rfl)];go_simp;exact hK _ _ hG (uB (by decide) (by decide) (by decide) rfl) (fun j _ _ h=>h)
      ·rw[if_pos (by rfl)];go_simp;exact hK _ _ hG (uB (by decide) (by decide) (by decide) rfl) (fun j _ _ h=>h)
      ·have e4:=vB (hp 4 (hw 4 (by decide))) (by decide) (by decide) (by decide) rfl;have e5:=vB (hp 5 (hw 5 (by decide))) (by decide) (by decide) (by decide) rfl;simp only[e4,e5]at hK |-;rw[if_pos (by rfl)];go_simp;exact hK _ _ hG (uB (by decide) (by decide) (by decide) rfl) (fun j _ _ h=>h)
      ·have e6:=vB (hp 6 (hw 6 (by decide))) (by decide) (by decide) (by decide) rfl;have ha:=wB (F:=15) (S:=11) hs hd (by kernel_rfl);have o0:=hG.old ha;have cx:W.cell? ⟨gt,j2,none⟩=some (.int .i64 (q:Int)):=by rw[o0.cell (p:=⟨gt,j2,none⟩) (Nat.lt_of_lt_of_le q1.out U0.out.size),U0.out.cell (p:=⟨gt,j2,none⟩) q1.out];exact d2.out
       simp only[e6]at hK |-;rw[if_pos (by rfl)];go_simp;exact hK _ _ hG (uB (by decide) (by decide) (by decide) rfl) (fun j _ _ h=>h)
      ·rw[if_pos (by rfl)];go_simp;exact hK _ _ hG (uB (by decide) (by decide) (by decide) rfl) (fun j _ _ h=>h)
      ·have e3:=vB (hp 3 (hw 3 (by decide))) (by decide) (by decide) (by decide) rfl;have e7:=vB (hp 7 (hw 7 (by decide))) (by decide) (by decide) (by decide) rfl;have e8:=vB (hp 8 (hw 8 (by decide))) (by decide) (by decide) (by decide) rfl;simp only[e3,e7,e8]at hK |-;rw[if_pos (by rfl)];go_simp;exact hK _ _ hG (uB (by decide) (by decide) (by decide) rfl) (fun j _ _ h=>h)
      ·have ha:=wB (F:=15) (S:=11) hs hd (by kernel_rfl);have o0:=hG.old ha;have hS:=wB (F:=15) (S:=13) hs hd (by kernel_rfl);have e9:=vB (hp 9 (hw 9 (by decide))) (by decide) (by decide) (by decide) rfl;have h2:ED w n x v Wl.heap.size P N ej (xB.mk (k:Int) (q:Int) tx) (.slice g0 f0 h0) y W5 false false W:=by have h3:=hG;rw[ha,hS]at h3;exact h3
       simp only[e9]at hK |-;rw[if_pos (by rfl)];go_simp;have p2:Below W.heap.size W (W.alloc (.cells #[.int .i64 (xB.mk (k:Int) (q:Int) tx).F,.int .i64 (xB.mk (k:Int) (q:Int) tx).T,.string ⟨(xB.mk (k:Int) (q:Int) tx).b.toArray⟩] 59)):=(Below.refl _ W).alloc lR _;refine hK _ _ (by show ED w n x v Wl.heap.size P N ej (xB.mk (k:Int) (q:Int) tx) (.slice g0 f0 h0) y W5 (d 11) (d 13) _;rw[ha,hS];exact h2.keep p2) (wM.2 (fun _=>⟨_,rfl,Blk.new W _ _⟩)) (fun j _ _ h=>EL p2 h)
      ·have hS:=wB (F:=15) (S:=13) hs hd (by kernel_rfl);have h8:=wM.1 (hp 10 (hw 10 (by decide))) hd;obtain⟨g8,e8,q3⟩:=h8;have e1:=vB (hp 1 (hw 1 (by decide))) (by decide) (by decide) (by decide) rfl;have h2:ED w n x v Wl.heap.size P N ej (xB.mk (k:Int) (q:Int) tx) (.slice g0 f0 h0) y W5 false false W:=by have h3:=hG;rw[hd,hS]at h3;exact h3
       obtain⟨g9,c9,W9,P1,r3,u1,s0⟩:=h2.append H0.out (X2.out) q3 29;simp only[e1]at hK |-;simp only[e8]at hK |-;rw[if_pos (by rfl)];refine wp_append_run (by rfl) _ _ 29 (by rfl) _ _ (by rfl) (by rfl) _ W9 P1 ?_;refine hK _ W9 (by show ED w n x v Wl.heap.size P N ej (xB.mk (k:Int) (q:Int) tx) (.slice g0 f0 h0) y W5 (NA d 11 11) (d 13) W9;rw[hS,show NA d 11 11=true by simp[NA]];exact r3) ((vM (by decide)).2 (fun _=>⟨g9,c9,rfl,u1,s0⟩)) (fun jj hj hdj h=>?_);have h':oD [.pointer (some ⟨P,1,none⟩),.slice g0 f0 h0,.pointer (some ⟨w.heap.size+1+1,1,none⟩),.int .i64 (k:Int),.slice (some ⟨gt,0,none⟩) kl tc,.int .i64 (j2:Int),.pointer (some ⟨gt,j2,none⟩),.int .i64 (q:Int),.string ⟨tx.toArray⟩,.agg #[.int .i64 (k:Int),.int .i64 (q:Int),.string ⟨tx.toArray⟩],undef,undef,.pointer (some ⟨P,1,none⟩),undef] 10 11 13 Wl.heap.size (ej).bag (xB.mk (k:Int) (q:Int) tx) (.slice g0 f0 h0) W5 false false jj (t jj) W:=by have h2:=h;rw[hd,hS]at h2;exact h2
       show oD [.pointer (some ⟨P,1,none⟩),.slice g0 f0 h0,.pointer (some ⟨w.heap.size+1+1,1,none⟩),.int .i64 (k:Int),.slice (some ⟨gt,0,none⟩) kl tc,.int .i64 (j2:Int),.pointer (some ⟨gt,j2,none⟩),.int .i64 (q:Int),.string ⟨tx.toArray⟩,.agg #[.int .i64 (k:Int),.int .i64 (q:Int),.string ⟨tx.toArray⟩],undef,undef,.pointer (some ⟨P,1,none⟩),undef] 10 11 13 Wl.heap.size (ej).bag (xB.mk (k:Int) (q:Int) tx) (.slice g0 f0 h0) W5 (NA d 11 11) (NA d 11 13) jj (t jj) W9;rw[show NA d 11 11=true by simp[NA],show NA d 11 13=false from hS];exact uT W9 hj h'
      ·rw[if_pos (by rfl)];go_simp;exact hK _ _ hG (uB (by decide) (by decide) (by decide) rfl) (fun j _ _ h=>h)
      ·have h9:=wE (F:=15) hs ho hw (S:=11) (by kernel_rfl) (by decide);have b3:=(vM (by decide)).1 (hp 11 (hw 11 (by decide))) hd;obtain⟨g9,c9,e9,u1,s0⟩:=b3;have d3:=vB (hp 12 (hw 12 (by decide))) (by decide) (by decide) (by decide) rfl;have h2:ED w n x v Wl.heap.size P N ej (xB.mk (k:Int) (q:Int) tx) (.slice g0 f0 h0) y W5 true false W:=by have h3:=hG;rw[h9,hd]at h3;exact h3
       have hh:=h2.head H0.out;have cq:=hh.cell 1;have fq:=hh.frozen 1;simp at cq;have hN:=h2.store H0.out k2.out (by have:=C1.out;omega) u1 s0;have f3:Hid (∀jj,oD [.pointer (some ⟨P,1,none⟩),.slice g0 f0 h0,.pointer (some ⟨w.heap.size+1+1,1,none⟩),.int .i64 (k:Int),.slice (some ⟨gt,0,none⟩) kl tc,.int .i64 (j2:Int),.pointer (some ⟨gt,j2,none⟩),.int .i64 (q:Int),.string ⟨tx.toArray⟩,.agg #[.int .i64 (k:Int),.int .i64 (q:Int),.string ⟨tx.toArray⟩],undef,undef,.pointer (some ⟨P,1,none⟩),undef] 10 11 13 Wl.heap.size (ej).bag (xB.mk (k:Int) (q:Int) tx) (.slice g0 f0 h0) W5 (d 11) (d 13) jj (t jj) W->oD [.pointer (some ⟨P,1,none⟩),.slice g0 f0 h0,.pointer (some ⟨w.heap.size+1+1,1,none⟩),.int .i64 (k:Int),.slice (some ⟨gt,0,none⟩) kl tc,.int .i64 (j2:Int),.pointer (some ⟨gt,j2,none⟩),.int .i64 (q:Int),.string ⟨tx.toArray⟩,.agg #[.int .i64 (k:Int),.int .i64 (q:Int),.string ⟨tx.toArray⟩],undef,undef,.pointer (some ⟨P,1,none⟩),undef] 10 11 13 Wl.heap.size (ej).bag (xB.mk (k:Int) (q:Int) tx) (.slice g0 f0 h0) W5 true true jj (t jj) (W.setCell ⟨P,1,none⟩ (.slice (some ⟨g9,0,none⟩) ((ej).bag.length+1) c9))):=hide (fun jj h=>by rw[h9,hd]at h;exact tT _ h);have HN:=hide hN;simp only[d3]at hK |-;simp only[e9]at hK |-;rw[if_pos (by rfl)];clear hN hh u1 s0;go_simp;refine hK undef _ (by show ED w n x v Wl.heap.size P N ej (xB.mk (k:Int) (q:Int) tx) (.slice g0 f0 h0) y W5 (d 11) (NA d 13 13) _;rw[h9,show NA d 13 13=true by simp[NA]];exact HN.out) (vT (by decide) (by decide)) (fun jj hj hdj h=>?_);show oD [.pointer (some ⟨P,1,none⟩),.slice g0 f0 h0,.pointer (some ⟨w.heap.size+1+1,1,none⟩),.int .i64 (k:Int),.slice (some ⟨gt,0,none⟩) kl tc,.int .i64 (j2:Int),.pointer (some ⟨gt,j2,none⟩),.int .i64 (q:Int),.string ⟨tx.toArray⟩,.agg #[.int .i64 (k:Int),.int .i64 (q:Int),.string ⟨tx.toArray⟩],undef,undef,.pointer (some ⟨P,1,none⟩),undef] 10 11 13 Wl.heap.size (ej).bag (xB.mk (k:Int) (q:Int) tx) (.slice g0 f0 h0) W5 (d 11) (NA d 13 13) jj (t jj) _;rw[h9,show NA d 13 13=true by simp[NA]];exact f3.out jj h
     all_goals intro t W hG hp K hK
     all_goals simp only[fill,Act.put,sX,sY,sU]at hK |-
     rotate_left
     ·have e0:=aA (hp 0 (by decide)) rfl;have cx:=(o1.out.keep hG).bv.cell 1;rw[C0.out]at cx;simp at cx;simp only[e0]at hK |-;rw[if_pos (by rfl)];go_simp;exact hK _ _ hG rfl (fun _ _ _ h=>h)
     rotate_left 3
     ·have e4:=aA (hp 4 (by decide)) rfl;have cx:W.cell? ⟨gt,j2,none⟩=some (.int .i64 (q:Int)):=by rw[hG.cell (p:=⟨gt,j2,none⟩) (Nat.lt_of_lt_of_le q1.out i0.out.size),i0.out.cell (p:=⟨gt,j2,none⟩) q1.out];exact d2.out
      simp only[e4]at hK |-;rw[if_pos (by rfl)];go_simp;exact hK _ _ hG rfl (fun _ _ _ h=>h)
     rotate_left
     ·have e6:=aA (hp 6 (by decide)) rfl;have cx:=(G0.out.below hG).head.cell 0;simp at cx;simp only[e6]at hK |-;rw[if_pos (by rfl)];go_simp;exact hK _ _ hG rfl (fun _ _ _ h=>h)
     rotate_left
     ·have e8:=aA (hp 8 (by decide)) rfl;have cx:=(o1.out.keep hG).bv.cell 1;rw[C0.out]at cx;simp at cx;simp only[e8]at hK |-;rw[if_pos (by rfl)];go_simp;exact hK _ _ hG rfl (fun _ _ _ h=>h)
     rotate_left 2
     ·have g3:=aA (hp 11 (by decide)) rfl;have cx:=(G0.out.below hG).rtrs.cell (k*2);rw[(G0.out.below hG).r0 k a3.out]at cx;simp only[g3]at hK |-;rw[if_pos (by rfl)];go_simp;exact hK _ _ hG rfl (fun _ _ _ h=>h)
     rotate_left
     ·have i3:=aA (hp 13 (by decide)) rfl;simp only[i3]at hK |-;rw[if_pos (by rfl)];go_simp;go_at_call 55;refine(f2.out W hG).mono ?_;rintro r W' ⟨rfl,s3⟩;go_simp;exact hK _ W' (hG.trans (s3.mono hG.size)) rfl (fun _ _ _ h=>h)
     all_goals try simp(disch:=first | rfl | decide) only[vat hp,List.getD_cons_succ,List.getD_cons_zero]at hK |-
     all_goals (rw[if_pos (by rfl)];go_simp;exact hK _ _ hG rfl (fun _ _ _ h=>h))
    ·have O0:j2=kl:=by omega
     have j1:¬ (j2:Int)<(kl:Int):=by omega
     obtain⟨Bv,hL⟩:=HI.out;rw[O0,Q0.out,<-J0.out]at hL;obtain⟨g0,h0,w0⟩:=QA hL.bag;generalize (x.eng.step n.net v.ev).bag.length=f0 at w0;subst w0;have HS:=hide (d0.out.keep i0.out);have p0:=hL.head.cell 0;have p1:=hL.head.cell 1;simp at p0 p1;have q2:Hid (x.eng.step n.net v.ev=x.eng.step n.net v.ev):=hide rfl;clear HI O0;have HF:=hide (step_fin hL HS.out (by have:=C1.out;omega) HR.out.check HN.out (by rw[<-q2.out];exact HR.out.fit.step (Net.good_of_check HR.out.check) k1.out) q2.out.symm k1.out);have c7:=(HS.out.br.set 0 (.slice (some ⟨y.G,0,none⟩) N y.gc)).set 1 (.slice g0 f0 h0);have e0:=c7.cell 0;have e1:=c7.cell 1;simp at e0 e1;have r0:=HS.out.br.cell 0;have r1:=HS.out.br.cell 1;have R2:=HS.out.br.frozen 0;have S2:=HS.out.br.frozen 1;simp at r0 r1;clear c7 hL;go_wp2;exact bodyPost_ret (v:=.tuple #[.agg #[.slice (some ⟨y.G,0,none⟩) N y.gc,.slice g0 f0 h0],.int .i64 0]) (by simp[results,Tryz.results19,go_sem,e0,e1]) rfl HF.out
theorem zK {a b c d:UInt8}{r:List UInt8}{x y:UInt8}(h:r.length<=54):
 UA ([a,b,c,d] ++ r ++ [x,y])=if a.toNat=83/\d.toNat=r.length/\b.toNat<=250/\c.toNat<=250/\(∀i,i<r.length->(r.getD i 0).toNat<=250)/\sumOf ([a,b,c,d] ++ r)=256*x.toNat+y.toNat then 0 else 1:=by
 have g0:([a,b,c,d] ++ r ++ [x,y]).length=r.length+6:=by simp
 unfold UA;rw[if_neg (by omega),if_neg (by omega)];have f0:=ER (a:=a) (b:=b) (c:=c) (d:=d) (x:=x) (y:=y) h;have hs:=XC a b c d r x y;have d0:(LA ([a,b,c,d] ++ r ++ [x,y])).err=0↔b.toNat<=250/\c.toNat<=250/\∀i,i<r.length->(r.getD i 0).toNat<=250:=by
  rw[Pkt.same_err hs];constructor
  ·intro e;have:=(Pkt.err_ok e).1;unfold Pkt.inRange inB at this;simp only[Bool.and_eq_true,decide_eq_true_eq]at this;refine⟨by omega,by omega,fun i hi=>?_⟩;have:=(Pkt.routesIn_iff.1 this.2 i hi).2;simp only at this;omega
  ·rintro⟨h1,h2,h3⟩;apply Pkt.err_of
   ·unfold Pkt.inRange inB;simp only[Bool.and_eq_true,decide_eq_true_eq];exact⟨⟨⟨by omega,by omega⟩,⟨by omega,by omega⟩⟩,Pkt.routesIn_iff.2 fun i hi=>by have:=h3 i hi;simp only;omega⟩
   ·show r.length+6<=60;omega
 have ha:a=83↔a.toNat=83:=⟨fun e=>by rw[e];rfl,fun e=>UInt8.toNat_inj.1 (by rw[e];rfl)⟩;by_cases hc:a.toNat=83/\d.toNat=r.length/\b.toNat<=250/\c.toNat<=250/\(∀i,i<r.length->(r.getD i 0).toNat<=250)/\sumOf ([a,b,c,d] ++ r)=256*x.toNat+y.toNat
 ·rw[if_pos hc,if_pos ⟨d0.2 ⟨hc.2.2.1,hc.2.2.2.1,hc.2.2.2.2.1⟩,f0.2 ⟨ha.2 hc.1,hc.2.1,hc.2.2.2.2.2⟩⟩]
 ·rw[if_neg hc,if_neg];rintro⟨e1,e5⟩;obtain⟨e2,e3,e4⟩:=f0.1 e5;have:=d0.1 e1;exact hc ⟨ha.1 e2,e3,this.1,this.2.1,this.2.2,e4⟩
theorem EE (l:List UInt8)(w:World)(h60:l.length<=60)(hx:UA l=1)
 (hbad:l.length<6\/(6<=l.length/\(l.getD 0 0).toNat≠83)\/(6<=l.length/\(l.getD 0 0).toNat=83/\(l.getD 3 0).toNat≠l.length-6) \/
  (6<=l.length/\(l.getD 0 0).toNat=83/\(l.getD 3 0).toNat=l.length-6/\250<(l.getD 1 0).toNat) \/
  (6<=l.length/\(l.getD 0 0).toNat=83/\(l.getD 3 0).toNat=l.length-6/\¬ 250<(l.getD 1 0).toNat/\250<(l.getD 2 0).toNat)) :
 Calls Tryz.prog 57 #[txt l] w fun e w'=>qE l w.heap.size e w'/\Below w.heap.size w w':=by
 have:(ByteArray.mk l.toArray).size=l.length:=by simp[ByteArray.size]
 have b0:=Blk.new w #[.int .i64 0,.int .i64 0,.slice none 0 0] 92;have f0:Hid (Below w.heap.size w (w.alloc (.cells #[.int .i64 0,.int .i64 0,.slice none 0 0] 92))):=hide ((Below.refl _ w).alloc lR _);have d0:=b0.cell 0;have d1:=b0.cell 1;have d2:=b0.cell 2;have:=b0.frozen;simp at d0 d1 d2;have Hx:=hide hx;have hg:∀ (i:Nat) (h:i<(ByteArray.mk l.toArray).size),((ByteArray.mk l.toArray)[i]).toNat=(l.getD i 0).toNat:=fun i h=>by rw[eG h]
 have g0:=hg 0;have g1:=hg 1;have g2:=hg 2;have g3:=hg 3;have:=(l.getD 0 0).toNat_lt;have:=(l.getD 1 0).toNat_lt;have:=(l.getD 2 0).toNat_lt;have:=(l.getD 3 0).toNat_lt;clear hx hg b0;unfold txt;generalize (l.getD 0 0).toNat=c0 at *;generalize (l.getD 1 0).toNat=c1 at *;generalize (l.getD 2 0).toNat=c2 at *;generalize (l.getD 3 0).toNat=c3 at *;generalize ByteArray.mk l.toArray=s at *;have:¬ (60:Int)<(s.size:Int):=by omega
 rcases hbad with h | ⟨h,h0⟩ | ⟨h,h0,h3⟩ | ⟨h,h0,h3,h1⟩ | ⟨h,h0,h3,h1,h2⟩
 ·have i0:(s.size:Int)<6:=by omega
  clear h g0 g1 g2 g3;go_enter Tryz.func57,Tryz.ntmps57;go_wp2;exact bodyPost_ret (v:=.tuple #[.agg #[.int .i64 0,.int .i64 0,.slice none 0 0],.int .i64 1]) (by simp[results,Tryz.results57,go_sem]) rfl ⟨EB Hx.out (by decide),f0.out⟩
 ·have i0:¬ (s.size:Int)<6:=by omega
  have:((c0:Int) != 83)=true:=by simp;omega
  clear h0;go_enter Tryz.func57,Tryz.ntmps57;go_wp2;exact bodyPost_ret (v:=.tuple #[.agg #[.int .i64 0,.int .i64 0,.slice none 0 0],.int .i64 1]) (by simp[results,Tryz.results57,go_sem]) rfl ⟨EB Hx.out (by decide),f0.out⟩
 ·have i0:¬ (s.size:Int)<6:=by omega
  subst h0;have q3:((c3:Int) != (l.length:Int)-6)=true:=by simp;omega
  clear h3;go_enter Tryz.func57,Tryz.ntmps57;go_wp2;exact bodyPost_ret (v:=.tuple #[.agg #[.int .i64 0,.int .i64 0,.slice none 0 0],.int .i64 1]) (by simp[results,Tryz.results57,go_sem]) rfl ⟨EB Hx.out (by decide),f0.out⟩
 ·have i0:¬ (s.size:Int)<6:=by omega
  subst h0;have q3:((c3:Int) != (l.length:Int)-6)=false:=by simp;omega
  have q1:(250:Int)<(c1:Int):=by omega
  clear h3 h1;go_enter Tryz.func57,Tryz.ntmps57;go_wp2;exact bodyPost_ret (v:=.tuple #[.agg #[.int .i64 0,.int .i64 0,.slice none 0 0],.int .i64 1]) (by simp[results,Tryz.results57,go_sem]) rfl ⟨EB Hx.out (by decide),f0.out⟩
 ·have i0:¬ (s.size:Int)<6:=by omega
  subst h0;have q3:((c3:Int) != (l.length:Int)-6)=false:=by simp;omega
  have q1:¬ (250:Int)<(c1:Int):=by omega
  have:(250:Int)<(c2:Int):=by omega
  clear h3 h1 h2;go_enter Tryz.func57,Tryz.ntmps57;go_wp2;exact bodyPost_ret (v:=.tuple #[.agg #[.int .i64 0,.int .i64 0,.slice none 0 0],.int .i64 1]) (by simp[results,Tryz.results57,go_sem]) rfl ⟨EB Hx.out (by decide),f0.out⟩
theorem QP (W:World)(C:Nat)(V:Value)(k:Nat)(f:Nat->Int)(x:Int)(ho:W.ownsRow C 3 1 V k (JA f k))(hk:k<=100)(hC:C<=W.heap.size)(ty:TypeId):
 ∃g cap W4,(Builtin.append_ #[32,32] ty #[V,.slice (some ⟨W.heap.size,0,none⟩) 1 1]).run Tryz.prog (W.alloc (.cells #[.int .i64 x] 3)).drew=.ok (.slice (some ⟨g,0,none⟩) (k+1) cap) W4 /\
  W4.ownsRow C 3 1 (.slice (some ⟨g,0,none⟩) (k+1) cap) (k+1) (JA f k ++ [.int .i64 x])/\Below C W W4:=by
 obtain⟨i1,f0,g0,h0,i0⟩:=info_parts Tryz.infoInt;have hb:Below C W (W.alloc (.cells #[.int .i64 x] 3)).drew:=((Below.refl C W).alloc hC _).trans ⟨rfl,rfl,rfl,lR,fun _ _=>rfl⟩;have d0:(W.alloc (.cells #[.int .i64 x] 3)).drew.ownsRow C 3 1 V k (JA f k):=(ho.alloc _).drew;obtain⟨g,cap,w',hr,h2,h3,h4,h5⟩:=run_append_lies (P:=Tryz.prog) (W.alloc (.cells #[.int .i64 x] 3)).drew 32 ty C 3 i1 _ 1 8 Tryz.underlying32 f0 g0 h0 i0 rfl (by decide) V k _ d0 ⟨W.heap.size,0,none⟩ 1 1 [.int .i64 x] rfl (World.news_of_block (cs:=#[.int .i64 x]) (show (W.alloc (.cells #[.int .i64 x] 3)).drew.heap[W.heap.size]? = _ from heap_alloc_new W _)) (by simp[Value.oneCell']) (by decide) (by unfold maxLen;omega) (by omega) (Nat.le_trans hC hb.size) _ rfl;exact⟨g,cap,w',hr,h2,hb.trans (nA h3 (fun g hg=>(ho.lt g hg).1) (Nat.le_trans hC hb.size))⟩
end Go.Proofs.YtjhkadffaephmacGreat
