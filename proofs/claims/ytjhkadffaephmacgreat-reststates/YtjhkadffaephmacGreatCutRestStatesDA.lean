import Derived.Test.YtjhkadffaephmacGreatCutRestStatesCH
import Derived.Test.YtjhkadffaephmacGreatCutRestStatesCJ
namespace Go.Proofs.YtjhkadffaephmacGreat
set_option maxHeartbeats 16000000
set_option maxRecDepth 100000
open Go.RowKit
def rsE (vs:List Value) (N:Nat) (f:Nat->Int) (w1:World) (q:Nat) (v:Value) (W:World):Prop :=
 match q with
 | 4=>∃g,v=.slice (some ⟨g,0,none⟩) 0 0
 | 7=>∃b c cs,v=.slice (some ⟨b,0,none⟩) N c/\w1.heap.size<=b/\Ints (some ⟨b,0,none⟩) N b 0 f W/\Blk W b cs 3
 | 10=>∃T,v=.slice (some ⟨T,0,none⟩) N N/\w1.heap.size<=T/\Blk W T (madeCells #[.slice none 0 0] N) 32
 | 11=>∃b c cs T,v=.agg #[.slice (some ⟨b,0,none⟩) N c,.slice (some ⟨T,0,none⟩) N N]/\w1.heap.size<=b/\Ints (some ⟨b,0,none⟩) N b 0 f W/\Blk W b cs 3/\w1.heap.size<=T/\Blk W T (madeCells #[.slice none 0 0] N) 32
 | q=>vs[q]? = some v
theorem AJ {vs:List Value}{N:Nat}{f:Nat->Int}{w1:World}{q:Nat}{v:Value}{W W':World}(hb:Below W.heap.size W W')(h:rsE vs N f w1 q v W):rsE vs N f w1 q v W':=by
 unfold rsE at h |-;split at h
 ·exact h
 ·obtain⟨b,c,cs,h1,h2,h3,h4⟩:=h;exact⟨b,c,cs,h1,h2,h3.below hb (fun _=>h4.lt),h4.below hb h4.lt⟩
 ·obtain⟨T,h1,h2,h3⟩:=h;exact⟨T,h1,h2,h3.below hb h3.lt⟩
 ·obtain⟨b,c,cs,T,h1,h2,h3,h4,h5,h6⟩:=h;exact⟨b,c,cs,T,h1,h2,h3.below hb (fun _=>h4.lt),h4.below hb h4.lt,h5,h6.below hb h6.lt⟩
 ·exact h
theorem kE {vs:List Value}{N:Nat}{f:Nat->Int}{w1:World}{q:Nat}{v:Value}{W:World}(h4:q≠4)(h7:q≠7)(h10:q≠10)(h11:q≠11)(h:vs[q]? = some v):rsE vs N f w1 q v W:=by
 unfold rsE;split <;> first | contradiction | exact h
theorem mE {vs:List Value}{N:Nat}{f:Nat->Int}{w1:World}{q:Nat}{v u:Value}{W:World}(h:rsE vs N f w1 q v W)(h4:q≠4)(h7:q≠7)(h10:q≠10)(h11:q≠11)(hu:vs[q]? = some u):v=u:=by
 unfold rsE at h;split at h <;> first | contradiction | (rw[hu]at h;exact(Option.some.inj h).symm)
theorem BU {vs:List Value}{N:Nat}{f:Nat->Int}{w1:World}{v:Value}{W:World}:rsE vs N f w1 4 v W↔∃g,v=.slice (some ⟨g,0,none⟩) 0 0:=Iff.rfl
theorem AU {vs:List Value}{N:Nat}{f:Nat->Int}{w1:World}{v:Value}{W:World}:rsE vs N f w1 7 v W↔∃b c cs,v=.slice (some ⟨b,0,none⟩) N c/\w1.heap.size<=b/\Ints (some ⟨b,0,none⟩) N b 0 f W/\Blk W b cs 3:=Iff.rfl
theorem uS {vs:List Value}{N:Nat}{f:Nat->Int}{w1:World}{v:Value}{W:World}:rsE vs N f w1 10 v W↔∃T,v=.slice (some ⟨T,0,none⟩) N N/\w1.heap.size<=T/\Blk W T (madeCells #[.slice none 0 0] N) 32:=Iff.rfl
theorem sS {vs:List Value}{N:Nat}{f:Nat->Int}{w1:World}{v:Value}{W:World}:rsE vs N f w1 11 v W↔∃b c cs T,v=.agg #[.slice (some ⟨b,0,none⟩) N c,.slice (some ⟨T,0,none⟩) N N]/\w1.heap.size<=b/\Ints (some ⟨b,0,none⟩) N b 0 f W/\Blk W b cs 3/\w1.heap.size<=T/\Blk W T (madeCells #[.slice none 0 0] N) 32:=Iff.rfl
theorem uJ (n:dA)(x:iA)(v:EvM)(N:Nat)(w:World)(h:n.In w.heap.size w)(hx:x.In w.heap.size w)(hv:v.In w.heap.size w)(hN:n.nodes=N)(hR:x.Right n.net N)(_hcap:x.bag.bn<=x.bag.bc)(k:Nat)(hk:v.loc=(k:Int))(hkd:v.kind=7)(hkN:k<N):
 Calls Tryz.prog 19 #[n.val,x.val,v.val] w fun r w'=>EC n.net x v.ev w r w':=by
 obtain⟨Z0,k2,D1,E1⟩:=SA hR.check hN;have O0:n.net.nodes=n.nodes:=rfl;have y0:x.eng.bag.length=x.bag.bn:=by show ((List.range x.bag.bn).map x.bag.M).length=_;simp
 have q2:=hR.bn;have z0:Hid (x.eng.stepErr n.net v.ev=n.net.row v.rl v.R):=hide (Eng.err_restart (n:=n.net) (e:=x.eng) (v:=v.ev) hkd (show 0<=v.loc by omega) (show v.loc<n.net.nodes by omega));have k0:Hid (x.eng.step n.net v.ev=x.eng.restart k v.R):=hide (by rw[Eng.does_restart (v:=v.ev) hkd];show x.eng.restart v.loc.toNat v.R=_;rw[hk];rfl);obtain⟨i2,F1,G1,H1,I1⟩:=info_parts Tryz.infoInts;have P1:Hid (∀u:World,(Instr.makeSlice 22 (.int .i64 (N:Int)) (.int .i64 (N:Int))).run Tryz.prog u=.ok (.slice (some ⟨u.heap.size,0,none⟩) N N) (u.alloc (.cells (madeCells #[.slice none 0 0] N) 32))):=hide (fun u=>by
  have h:=run_make (P:=Tryz.prog) u 22 32 i2 (.slice none 0 0) Tryz.underlying22 F1 G1 .i64 .i64 (N:Int) (N:Int) (by omega) (Int.le_refl _) (by rw[I1];omega) (by omega);simpa [H1,Value.cells] using h)
 have Q0:=hide (fun W (hb:Below w.heap.size w W)=>JC x N W (hx.grown hb) hR.gn Z0 k2 hR.bn hR.rl hR.tl hR.ll);have Q1:2<=n.a.size:=(Net.good_of_check hR.check).law.good.lo;have R0:n.a.size<=24:=(Net.good_of_check hR.check).law.good.hi;have k1:=hide (fun a l c b o f (W:World) hi hb=>WH n a l c b o f W hi hb Q1 R0);have A0:n.cells=#[.int .i64 n.a.size,.slice n.a.B.ga n.a.B.t.len n.a.B.cap,.slice n.a.E.ga n.a.E.t.len n.a.E.cap,.int .i64 N,.slice n.la n.ln n.lc]:=by simp only[dA.cells,Mat.val,hN]
 simp only[iA.val,iA.cells,dA.val,A0]at Q0 k1;clear A0;obtain⟨W0,G0⟩:∃W0,W0=(((w.alloc (.cells n.cells 27)).alloc (.cells x.cells 31)).alloc (.cells v.cells 34)).alloc (.cells #[.slice none 0 0,.slice none 0 0] 31):=⟨_,rfl⟩;have o1:SB w n x v W0:=by rw[G0];exact SB.start w n x v
 have q1:W0.heap.size=w.heap.size+4:=by rw[G0];simp
 have B0:n.cells=#[.int .i64 n.a.size,.slice n.a.B.ga n.a.B.t.len n.a.B.cap,.slice n.a.E.ga n.a.E.t.len n.a.E.cap,.int .i64 N,.slice n.la n.ln n.lc]:=by simp only[dA.cells,Mat.val,hN]
 have I0:v.cells=#[.int .i64 7,.int .i64 (k:Int),.int .i64 v.b,.int .i64 v.c,.slice v.ra v.rl v.rc]:=by rw[<-hkd,<-hk];rfl
 have J0:x.cells=#[.slice x.rs.ga x.rs.gn x.rs.gc,.slice x.bag.ba x.bag.bn x.bag.bc]:=rfl;have H:=hide h;have Hx:=hide hx;have Hv:=hide hv;have HR:=hide hR;have i0:=hide o1;have R1:=hide q1;have C0:=hide B0;have D0:=hide I0;have S0:=hide J0;have HN:=hide hN;have S1:=hide y0;have T1:=hide E1;have r2:=hide D1;have t2:=hide hkd;have Hk:=hide hk;have s1:=hide (fun (i:Int) (W:World)=>aC n i W (by omega) (by omega));simp only[dA.val,B0,hN]at s1;rw[B0,I0,J0]at G0;simp only[dA.val,iA.val,EvM.val,B0,I0,J0];have U1:=hide G0;have v0:=i0.out.bv.cell 0;have v1:=i0.out.bv.cell 1;have v2:=i0.out.bv.cell 2;have v3:=i0.out.bv.cell 3;have v4:=i0.out.bv.cell 4;rw[D0.out]at v0 v1 v2 v3 v4;simp at v0 v1 v2 v3 v4;have n0:=i0.out.bn.cell 0;have n1:=i0.out.bn.cell 1;have n2:=i0.out.bn.cell 2;have n3:=i0.out.bn.cell 3;have n4:=i0.out.bn.cell 4;rw[C0.out]at n0 n1 n2 n3 n4;simp at n0 n1 n2 n3 n4;have x0:=i0.out.bx.cell 0;have x1:=i0.out.bx.cell 1;rw[S0.out]at x0 x1;simp at x0 x1;clear h hx hv hR o1 q1 B0 I0 J0 hN G0 y0 E1 D1 hkd O0 hk F1 G1 H1 I1;go_enter Tryz.func19,Tryz.ntmps19;go_wp2_with fail;rw[<-U1.out];go_at_call 52;refine(jA _ _ _ _).mono ?_;rintro e w1 ⟨rfl,H0⟩;rw[H0];clear H0;have K0:(decide ((1:Int)<=7) && decide ((7:Int)<=7))=true:=by decide
 rw[K0];clear K0;go_wp2_with fail;go_at_call 52;refine(jA _ _ _ _).mono ?_;rintro e w1 ⟨rfl,H0⟩;rw[H0];clear H0;have L0:(decide ((2:Int)<=7) && decide ((7:Int)<=5))=false:=by decide
 rw[L0];clear L0;go_wp2_with fail;go_at_call 33;refine(s1.out _ _).mono ?_;rintro e W1 ⟨rfl,J1⟩;have E0:Hid (Below W0.heap.size W0 W1):=hide (by rw[J1];exact(Below.refl _ _).alloc lR _);have g0:=hide (i0.out.keep E0.out);have V1:Hid (w.heap.size+4<=W1.heap.size):=hide (by have:=E0.out.size;have:=R1.out;omega);clear J1  v0 v1 v2 v3 v4 n0 n1 n2 n3 n4 x0 x1;have v0:=g0.out.bv.cell 0;have v1:=g0.out.bv.cell 1;have v2:=g0.out.bv.cell 2;have v3:=g0.out.bv.cell 3;have v4:=g0.out.bv.cell 4;rw[D0.out]at v0 v1 v2 v3 v4;simp at v0 v1 v2 v3 v4;have n0:=g0.out.bn.cell 0;have n1:=g0.out.bn.cell 1;have n2:=g0.out.bn.cell 2;have n3:=g0.out.bn.cell 3;have n4:=g0.out.bn.cell 4;rw[C0.out]at n0 n1 n2 n3 n4;simp at n0 n1 n2 n3 n4;have x0:=g0.out.bx.cell 0;have x1:=g0.out.bx.cell 1;rw[S0.out]at x0 x1;simp at x0 x1;have w0:(decide (0<=(k:Int)) && decide ((k:Int)<=(N:Int)-1))=true:=by simp;omega
 rw[w0];clear w0;have HC:=hide (k1.out v.ra v.rl v.rc v.rb v.ro v.R W1 (Hv.out.below g0.out.below lR).ints (fun h0=>Nat.lt_of_lt_of_le (Hv.out.lt h0) g0.out.below.size));go_wp2_with fail;go_at_call 32;refine HC.out.mono ?_;rintro r W2 ⟨rfl,u0⟩;have d0:=hide (g0.out.keep u0);have T0:Hid (w.heap.size+4<=W2.heap.size):=hide (by have:=u0.size;have:=V1.out;omega);clear u0 HC  v0 v1 v2 v3 v4 n0 n1 n2 n3 n4 x0 x1;have v0:=d0.out.bv.cell 0;have v1:=d0.out.bv.cell 1;have v2:=d0.out.bv.cell 2;have v3:=d0.out.bv.cell 3;have v4:=d0.out.bv.cell 4;rw[D0.out]at v0 v1 v2 v3 v4;simp at v0 v1 v2 v3 v4;have n0:=d0.out.bn.cell 0;have n1:=d0.out.bn.cell 1;have n2:=d0.out.bn.cell 2;have n3:=d0.out.bn.cell 3;have n4:=d0.out.bn.cell 4;rw[C0.out]at n0 n1 n2 n3 n4;simp at n0 n1 n2 n3 n4;have x0:=d0.out.bx.cell 0;have x1:=d0.out.bx.cell 1;rw[S0.out]at x0 x1;simp at x0 x1;by_cases k4:n.net.row v.rl v.R=0;rotate_left
 ·have u2:(n.net.row v.rl v.R == 0)=false:=by simpa using k4
  have HF:=hide (jE d0.out z0.out k4);have c7:=(d0.out.br.set 0 (.slice none 0 0)).set 1 (.slice none 0 0);have e0:=c7.cell 0;have e1:=c7.cell 1;simp at e0 e1;have r0:=d0.out.br.cell 0;have r1:=d0.out.br.cell 1;have X1:=d0.out.br.frozen 0;have Y1:=d0.out.br.frozen 1;simp at r0 r1;clear c7;generalize n.net.row v.rl v.R=er at *;go_wp2;exact bodyPost_ret (v:=.tuple #[.agg #[.slice none 0 0,.slice none 0 0],.int .i64 er]) (by simp[results,Tryz.results19,go_sem,e0,e1]) rfl HF.out
 have t1:Hid (x.eng.stepErr n.net v.ev=0):=hide (by rw[z0.out,k4]);have U0:Hid (v.rl=N):=hide (by have h1:=(Net.row_zero.1 k4).1;have h2:=T1.out;omega);rw[k4];have HC:=hide (Q0.out W2 d0.out.below);clear k4 Q0;go_wp2_with fail;go_at_call 58;refine HC.out.mono ?_;rintro r W3 ⟨⟨P0,Bv,y,d1,rfl⟩,w0⟩;obtain⟨ba,bc,K1⟩:=QA d1.live.bag;obtain⟨bl,f1⟩:∃bl,bl=x.eng.bag.length:=⟨_,rfl⟩;rw[<-f1]at K1;subst K1;have w2:=hide f1;obtain⟨P,hP⟩:∃P,P=W3.heap.size:=⟨_,rfl⟩;obtain⟨W4,M0⟩:∃W4,W4=W3.alloc (.cells #[.slice (some ⟨y.G,0,none⟩) N y.gc,.slice ba bl bc] 31):=⟨_,rfl⟩;have F0:Below W3.heap.size W3 W4:=by rw[M0];exact(Below.refl _ W3).alloc lR _
 have o0:=w0.trans (F0.mono w0.size);have V0:=d1.rebox;rw[<-M0,<-hP]at V0;have u1:=hide V0.live;have f0:=hide (d0.out.keep o0);have Z1:=hide o0;have y1:=hide M0;have HP:=hide hP;clear d1 w0 F0 o0 V0 M0 hP HC f1  v0 v1 v2 v3 v4 n0 n1 n2 n3 n4 x0 x1;have v0:=f0.out.bv.cell 0;have v1:=f0.out.bv.cell 1;have v2:=f0.out.bv.cell 2;have v3:=f0.out.bv.cell 3;have v4:=f0.out.bv.cell 4;rw[D0.out]at v0 v1 v2 v3 v4;simp at v0 v1 v2 v3 v4;have n0:=f0.out.bn.cell 0;have n1:=f0.out.bn.cell 1;have n2:=f0.out.bn.cell 2;have n3:=f0.out.bn.cell 3;have n4:=f0.out.bn.cell 4;rw[C0.out]at n0 n1 n2 n3 n4;simp at n0 n1 n2 n3 n4;rw[y1.out]at v0 v1 v2 v3 v4 n0 n1 n2 n3 n4;go_wp2_with fail;rw[<-y1.out,<-HP.out];have d2:=hide (Hv.out.below f0.out.below lR);have x2:Hid (v.rb<w.heap.size):=hide (Hv.out.lt (by have:=U0.out;omega));have q0:=D0;rw[U0.out]at q0;have X0:=hide hkN;have y2:(k:Int)<(N:Int):=by omega
 clear v0 v1 v2 v3 v4 n0 n1 n2 n3 n4;refine KA 13 _ (fun W=>Below W4.heap.size W4 W) (rsE [.pointer (some ⟨P,0,none⟩),.slice (some ⟨y.G,0,none⟩) N y.gc,.pointer (some ⟨w.heap.size+1+1,1,none⟩),.int .i64 (k:Int),undef,.pointer (some ⟨w.heap.size+1+1,4,none⟩),.slice v.ra N v.rc,undef,.pointer (some ⟨w.heap.size,3,none⟩),.int .i64 (N:Int),undef,undef,.pointer (some ⟨y.G,k*2,none⟩)] N v.R W4) (fun _ W=>∃y',Live W2.heap.size P N (x.eng.restart k v.R) (.slice ba bl bc) y' W/\SB w n x v W) (fun _ _ _=>True) (by kernel_rfl) (by kernel_rfl) (by kernel_rfl) (by kernel_rfl) (by kernel_rfl) rfl (show Below W4.heap.size W4 W4.drew from ⟨rfl,rfl,rfl,lR,fun _ _=>rfl⟩) ⟨?_,?_,?_,?_,?_,?_,?_,?_,?_,?_,?_,?_,?_,trivial⟩ ?_ trivial ?_;rotate_right
 ·intro t W hG _;simp only[fill,Act.put,sX,sY,sU];obtain⟨y',hL,hS⟩:=hG;have HS:=hide hS;have p0:=hL.head.cell 0;have p1:=hL.head.cell 1;simp at p0 p1;have HF:=hide (step_fin hL HS.out (by have:=T0.out;omega) HR.out.check HN.out (by rw[<-k0.out];exact HR.out.fit.step (Net.good_of_check HR.out.check) t1.out) k0.out.symm t1.out);have c7:=(HS.out.br.set 0 (.slice (some ⟨y'.G,0,none⟩) N y'.gc)).set 1 (.slice ba bl bc);have e0:=c7.cell 0;have e1:=c7.cell 1;simp at e0 e1;have r0:=HS.out.br.cell 0;have r1:=HS.out.br.cell 1;have X1:=HS.out.br.frozen 0;have Y1:=HS.out.br.frozen 1;simp at r0 r1;clear c7 hL hS;go_wp2;exact bodyPost_ret (v:=.tuple #[.agg #[.slice (some ⟨y'.G,0,none⟩) N y'.gc,.slice ba bl bc],.int .i64 0]) (by simp[results,Tryz.results19,go_sem,e0,e1]) rfl HF.out
 rotate_right
 ·intro t W hG hE _ K hK;have z1:=mE (hE 12 (by omega)) (by decide) (by decide) (by decide) (by decide) rfl;have f2:=sS.1 (hE 11 (by omega));simp only[fill,Act.put,sX,sY,sU,z1]at hK |-;rw[if_pos (by rfl)];obtain⟨b,c,cs,T,L1,K0,hI,N0,l2,hT⟩:=f2;have j0:=u1.out;have m0:=j0.below hG;have s0:∀q,W4.heap.size<=q->q<W.heap.size->y.Off P N (.slice ba bl bc) W q:=fun q h1 h2=>⟨by have:=j0.head.lt;omega,by have:=j0.rtrs.lt;omega,fun k hk=>by have:=(j0.tolds k hk).lt;omega,fun hv=>by have:=(j0.bag.lt _ hv).2;omega,h2,by have:=j0.ylo;have:=j0.head.lt;omega⟩;have A1:b≠T:=fun e=>by subst e;have h1:=N0.symm.trans hT;simp at h1
  have Y0:=m0.setRouter (c:=c) (tc:=N) X0.out v.R (s0 b K0 N0.lt) ⟨_,N0⟩ (fun j hj=>by have:=hI.cell j hj;simpa using this) hT (fun k hk=>KJ hk) (s0 T l2 hT.lt) A1 (by have:=Z1.out.size;omega) (fun r hr=>by have:=(j0.routes r hr).1.lt;omega) (fun r k hr hk ht=>by have:=(j0.rows r hr k hk ht).2.1.lt;omega);have c1:=m0.rtrs.cell (k*2);rw[m0.r0 k X0.out]at c1;have cf:=m0.rtrs.frozen (k*2);have c2:=m0.rtrs.cell (k*2+1);rw[m0.r1 k X0.out]at c2;have cg:=m0.rtrs.frozen (k*2+1);have B1:SB w n x v ((W.setCell ⟨y.G,k*2,none⟩ (.slice (some ⟨b,0,none⟩) N c)).setCell ⟨y.G,k*2+1,none⟩ (.slice (some ⟨T,0,none⟩) N N)):=((f0.out.keep hG).set (by have:=j0.lg;have:=T0.out;omega) _ _).set (by have:=j0.lg;have:=T0.out;omega) _ _;obtain⟨y',M1⟩:=Y0;have j2:=hide (And.intro M1 B1);simp only[L1]at hK |-;clear M1 B1 s0 hT N0 A1 L1 z1 hE hI j0 m0;go_simp;exact hK undef _ ⟨y',j2.out⟩
 all_goals intro t W hG hp ht K hK
 all_goals clear ht
 all_goals simp only[fill,Act.put,sX,sY,sU]at hK |-
 ·rw[if_pos (by rfl)];go_simp;exact hK _ _ hG (kE (by decide) (by decide) (by decide) (by decide) rfl) (fun _ _ _ h=>h)
 ·have e0:=mE (hp 0 (by decide)) (by decide) (by decide) (by decide) (by decide) rfl;have cx:=(u1.out.below hG).head.cell 0;simp at cx;simp only[e0]at hK |-;rw[if_pos (by rfl)];go_simp;exact hK _ _ hG (kE (by decide) (by decide) (by decide) (by decide) rfl) (fun _ _ _ h=>h)
 ·rw[if_pos (by rfl)];go_simp;exact hK _ _ hG (kE (by decide) (by decide) (by decide) (by decide) rfl) (fun _ _ _ h=>h)
 ·have e2:=mE (hp 2 (by decide)) (by decide) (by decide) (by decide) (by decide) rfl;have cx:=(f0.out.keep hG).bv.cell 1;rw[q0.out]at cx;simp at cx;simp only[e2]at hK |-;rw[if_pos (by rfl)];go_simp;exact hK _ _ hG (kE (by decide) (by decide) (by decide) (by decide) rfl) (fun _ _ _ h=>h)
 ·rw[if_pos (by rfl)];go_simp;exact hK _ _ (hG.alloc hG.size _) (BU.2 ⟨_,rfl⟩) (fun _ _ _ h=>AJ ((Below.refl _ W).alloc lR _) h)
 ·rw[if_pos (by rfl)];go_simp;exact hK _ _ hG (kE (by decide) (by decide) (by decide) (by decide) rfl) (fun _ _ _ h=>h)
 ·have e5:=mE (hp 5 (by decide)) (by decide) (by decide) (by decide) (by decide) rfl;have cx:=(f0.out.keep hG).bv.cell 4;rw[q0.out]at cx;simp at cx;simp only[e5]at hK |-;rw[if_pos (by rfl)];go_simp;exact hK _ _ hG (kE (by decide) (by decide) (by decide) (by decide) rfl) (fun _ _ _ h=>h)
 ·have e6:=mE (hp 6 (by decide)) (by decide) (by decide) (by decide) (by decide) rfl;obtain⟨g,e4⟩:=BU.1 (hp 4 (by decide));simp only[e4]at hK |-;simp only[e6]at hK |-;rw[if_pos (by rfl)];have C1:=(d2.out.below hG f0.out.below.size).ints;rw[U0.out]at C1;obtain⟨a2,c2,b2,W9,i1,N1,L0,O1⟩:=xG W g v.ra N v.rc v.rb v.ro v.R C1 (by omega) 32;obtain⟨⟨m2,o2⟩,j1⟩:=L0 Z0;obtain rfl:=N1.addr Z0;refine wp_append_run (by rfl) _ _ 32 (by rfl) _ _ (by rfl) (by rfl) _ W9 i1 ?_;exact hK _ W9 (hG.trans (O1.mono hG.size)) (AU.2 ⟨b2,c2,m2,rfl,Nat.le_trans hG.size j1,N1,o2⟩) (fun _ _ _ h=>AJ O1 h)
 ·rw[if_pos (by rfl)];go_simp;exact hK _ _ hG (kE (by decide) (by decide) (by decide) (by decide) rfl) (fun _ _ _ h=>h)
 ·have e8:=mE (hp 8 (by decide)) (by decide) (by decide) (by decide) (by decide) rfl;have cx:=(f0.out.keep hG).bn.cell 3;rw[C0.out]at cx;simp at cx;simp only[e8]at hK |-;rw[if_pos (by rfl)];go_simp;exact hK _ _ hG (kE (by decide) (by decide) (by decide) (by decide) rfl) (fun _ _ _ h=>h)
 ·have e9:=mE (hp 9 (by decide)) (by decide) (by decide) (by decide) (by decide) rfl;simp only[e9]at hK |-;rw[if_pos (by rfl)];have z2:=P1.out W;go_simp;exact hK _ _ (hG.alloc hG.size _) (uS.2 ⟨W.heap.size,rfl,hG.size,Blk.new W _ _⟩) (fun _ _ _ h=>AJ ((Below.refl _ W).alloc lR _) h)
 ·obtain⟨b,c,cs,e7,g1,g2,g3⟩:=AU.1 (hp 7 (by decide));obtain⟨T,p2,g4,g5⟩:=uS.1 (hp 10 (by decide));simp only[e7,p2]at hK |-;rw[if_pos (by rfl)];go_simp;exact hK _ _ hG (sS.2 ⟨b,c,cs,T,rfl,g1,g2,g3,g4,g5⟩) (fun _ _ _ h=>h)
 ·have e1:=mE (hp 1 (by decide)) (by decide) (by decide) (by decide) (by decide) rfl;have e3:=mE (hp 3 (by decide)) (by decide) (by decide) (by decide) (by decide) rfl;simp only[e1,e3]at hK |-;rw[if_pos (by rfl)];go_simp;exact hK _ _ hG (kE (by decide) (by decide) (by decide) (by decide) rfl) (fun _ _ _ h=>h)
end Go.Proofs.YtjhkadffaephmacGreat

namespace Go.Proofs.YtjhkadffaephmacGreat
set_option maxHeartbeats 16000000
set_option maxRecDepth 100000
theorem AO (n:dA)(x:iA)(v:EvM)(w:World)(h:n.In w.heap.size w)(hx:x.In w.heap.size w)(hv:v.In w.heap.size w)(hR:x.err n.net=0)(hcap:x.bag.bn<=x.bag.bc):
 Calls Tryz.prog 19 #[n.val,x.val,v.val] w fun r w'=>EC n.net x v.ev w r w':=by
 have h0:n.net.check=0:=by
  unfold iA.err at hR;split at hR
  ·next h1=>exact absurd hR h1
  ·next h1=>omega
 obtain⟨N,hN⟩:∃N:Nat,n.nodes=N:=⟨n.nodes.toNat,by have:=(Net.good_of_check h0).lo;have:n.net.nodes=n.nodes:=rfl;omega⟩;have hr:x.Right n.net N:=iA.right hR hN;by_cases h7:v.kind<1\/7<v.kind
 ·exact NM n x v N w h hx hv hN hr hcap h7
 by_cases g0:2<=v.kind/\v.kind<=5
 ·by_cases hp:v.loc<0\/(x.bag.bn:Int)<=v.loc
  ·exact OL n x v N w h hx hv hN hr hcap g0.1 g0.2 hp
  obtain⟨k,hk⟩:∃k:Nat,v.loc=k:=⟨v.loc.toNat,by omega⟩;have d0:k<x.bag.bn:=by omega
  rcases (show v.kind=2\/v.kind=3\/v.kind=4\/v.kind=5 by omega) with e | e | e | e
  ·exact vJ n x v N w h hx hv hN hr hcap k hk e d0
  ·exact ML n x v N w h hx hv hN hr hcap k hk e d0
  ·exact MM n x v N w h hx hv hN hr hcap k hk e d0
  ·by_cases hb:(v.b<0\/((x.bag.M k).b.length:Int)<=v.b)\/(v.c<1\/255<v.c)
   ·exact tJ n x v N w h hx hv hN hr hcap k hk e d0 hb
   ·obtain⟨pl,i0⟩:∃pl:Nat,v.b=pl:=⟨v.b.toNat,by omega⟩;obtain⟨cv,j0⟩:∃cv:Nat,v.c=cv:=⟨v.c.toNat,by omega⟩;exact NL n x v N w h hx hv hN hr hcap k hk e d0 pl cv i0 j0 (by omega) (by omega) (by omega)
 ·by_cases hp:v.loc<0\/(N:Int)<=v.loc
  ·exact LM n x v N w h hx hv hN hr hcap (by omega) hp
  obtain⟨k,hk⟩:∃k:Nat,v.loc=k:=⟨v.loc.toNat,by omega⟩;have f0:k<N:=by omega
  rcases (show v.kind=1\/v.kind=6\/v.kind=7 by omega) with e | e | e
  ·exact KM n x v N w h hx hv hN hr hcap k hk e f0
  ·exact wK n x v N w h hx hv hN hr hcap k hk e f0
  ·exact uJ n x v N w h hx hv hN hr hcap k hk e f0
end Go.Proofs.YtjhkadffaephmacGreat

namespace Go.Proofs.YtjhkadffaephmacGreat
set_option maxHeartbeats 16000000
set_option maxRecDepth 100000
open Go.RowKit
theorem AP (x:Mat)(N j:Nat)(w:World)(h:x.In w.heap.size w)(hl:x.t.len=N)(hw:∀r,r<N->x.t.L r=N)(hN:0<N)(hN6:N<=6)(hj:j<N):
 Calls Tryz.prog 51 #[x.val,.int .i64 j] w fun e w'=>∃g c:Nat,e=.returned (.slice (some ⟨g,0,none⟩) N c)/\Below w.heap.size w w'/\g<w'.heap.size/\Ints (some ⟨g,0,none⟩) N g 0 (fun k=>x.t.Z k j) w':=by
 obtain⟨i1,q0,s0,u0,v0⟩:=info_parts Tryz.infoInt;have H:=hide h;have HW:=hide hw;have HL:=hide hl;simp only[Mat.val,hl];clear h hw hl;go_enter Tryz.func51,Tryz.ntmps51;go_wp2_with fail
 go_loopw [5,6] (fun s q wr=>∃k:Nat,k<=N/\q=.int .i64 k/\Hid (wr.ownsRow w.heap.size 3 1 s k (JA (fun k=>x.t.Z k j) k))/\Hid (Below w.heap.size w wr)) (fun _ q _=>N-(intOf q).toNat)
 case atStart=>exact⟨0,zL,rfl,hide (World.ownsRow_nil w _ _ 1),hide (Below.refl _ _)⟩
 case round =>
  obtain⟨k,hk,rfl,HO,HB⟩:=hrel;by_cases i0:k<N
  ·have m0:(k:Int)<(N:Int):=by omega
   have o0:k<x.t.len:=by rw[HL.out];exact i0
   obtain⟨a1,a2,a3⟩:=(H.out.below HB.out lR).at o0 (show j<x.t.L k by rw[HW.out k i0];exact hj);rw[HW.out k i0]at a2;have:(j:Int)<(N:Int):=by omega
   go_wp2_with (at_builtin;refine wpList_append_lies _ rfl _ _ _ rfl w.heap.size 3 i1 _ 1 8 Tryz.underlying32 q0 s0 u0 v0 rfl (by decide) _ k _ rfl (HO.out.alloc _) ⟨wr.heap.size,0,none⟩ 1 1 [.int .i64 (x.t.Z k j)] rfl rfl ?c1 ?c2 (by decide) ?c3 ?c4 ?c5 _ rfl ?_)
   all_goals try (case c1=>exact World.news_of_block (Blk.new' (by simp)))
   all_goals try (case c2=>simp[Value.oneCell'])
   all_goals try (case c3=>unfold maxLen;omega)
   all_goals try (case c4=>omega)
   all_goals try (case c5=>have:=HB.out.size;simp;omega)
   intro g' w0 w2 d0 f0 h0 g0;have j0:=hide (show w2.ownsRow w.heap.size 3 1 _ (k+1) (JA (fun k=>x.t.Z k j) (k+1)) by rw[OA];exact d0);have k0:=hide ((HB.out.alloc HB.out.size _).trans (nA f0 (fun g hg=>(HO.out.lt g hg).1) (by have:=HB.out.size;simp;omega)));clear d0 f0 h0 g0;go_wp2;go_roundw
   case rel =>
    first
    | exact⟨k+1,by omega,by go_num,j0,k0⟩
    | ((try rw[<-a1]);(repeat apply Exists.intro);refine⟨?_,rfl⟩;exact⟨k+1,by omega,by go_num,j0,k0⟩)
   case measure=>simp[intOf];omega
  ·have p0:k=N:=by omega
   subst p0;have m0:(k:Int)<=(k:Int):=Int.le_refl _;obtain⟨g,c,rfl,_,g0⟩:=HO.out.form (by omega);have HI:Hid (Ints (some ⟨g,0,none⟩) k g 0 (fun r=>x.t.Z r j) wr):=hide ⟨fun _=>rfl,fun r hr=>by rw[Nat.zero_add,HO.out.cellAt r (by omega),NB hr],by unfold maxLen;omega⟩;go_wp2;go_ret;exact⟨g,c,rfl,HB.out,g0,HI.out⟩
structure aL (w1:World) (N:Nat) (Z:Nat->Nat->Int) (Vo:Value) (i H:Nat) (Vr:Value) (j:Nat) (W:World):Prop where
 below:Below w1.heap.size w1 W
 tab:BA w1.heap.size H Vo i N Z W
 lo:w1.heap.size<=H
 hi:H<=W.heap.size
 row:W.ownsRow H 3 1 Vr j (JA (Z i) j)
theorem aL.keep {w1:World}{N:Nat}{Z:Nat->Nat->Int}{Vo:Value}{i H:Nat}{Vr:Value}{j:Nat}{W W':World}(h:aL w1 N Z Vo i H Vr j W)(hb:Below W.heap.size W W'):aL w1 N Z Vo i H Vr j W' :=
 ⟨h.below.trans (hb.mono h.below.size),h.tab.below hb,h.lo,Nat.le_trans h.hi hb.size,ZA h.row hb⟩
theorem aL.push {w1:World}{N:Nat}{Z:Nat->Nat->Int}{Vo:Value}{i H:Nat}{Vr V':Value}{j:Nat}{W W':World}(h:aL w1 N Z Vo i H Vr j W)(hg:W.grownBy W' Vr.ownBlock)
 (ho:W'.ownsRow H 3 1 V' (j+1) (JA (Z i) j ++ [.int .i64 (Z i j)])):aL w1 N Z Vo i H V' (j+1) W' :=
 ⟨h.below.trans (nA hg (fun g hg=>by have:=(h.row.lt g hg).1;have:=h.lo;omega) h.below.size),h.tab.kept hg (fun k hk=>Or.inr (h.row.lt k hk).1),h.lo,Nat.le_trans h.hi hg.size,by rw[OA];exact ho⟩
def pO (n:dA) (x:Mat) (N:Nat) (Vr:Value) (i j:Nat) (k:Nat) (v:Value) (W:World):Prop :=
 match k with
 | 0=>v=Vr
 | 1=>v=n.val
 | 2=>v=.int .i64 i
 | 3=>v=.int .i64 j
 | 4=>v=x.val
 | 5=>v=.int .i64 j
 | 6=>∃g c:Nat,v=.slice (some ⟨g,0,none⟩) N c/\g<W.heap.size/\Ints (some ⟨g,0,none⟩) N g 0 (fun r=>x.t.Z r j) W
 | 7=>v=.int .i64 (n.net.round x.t.Z i j)
 | _=>∃b:Nat,v=.slice (some ⟨b,0,none⟩) 1 1/\Blk W b #[.int .i64 (n.net.round x.t.Z i j)] 3
theorem pO.keep {n:dA}{x:Mat}{N:Nat}{Vr:Value}{i j:Nat}{W W':World}(hb:Below W.heap.size W W')(k:Nat)(v:Value)(h:pO n x N Vr i j k v W):pO n x N Vr i j k v W':=by
 unfold pO at *;split at h
 all_goals first | exact h | skip
 ·obtain⟨g,c,h1,h2,h3⟩:=h;exact⟨g,c,h1,Nat.lt_of_lt_of_le h2 hb.size,h3.below hb (fun _=>h2)⟩
 ·obtain⟨b,h1,h2⟩:=h;exact⟨b,h1,h2.below hb h2.lt⟩
theorem YM (n:dA)(x:Mat)(w:World)(h:n.In w.heap.size w)(hx:x.In w.heap.size w)(hck:n.net.check=0)(his:n.net.Is x.t):
 Calls Tryz.prog 17 #[n.val,x.val] w fun e w'=>(∃m:Mat,e=.returned m.val/\nC n.net.N w.heap.size (n.net.round x.t.Z) m w')/\Below w.heap.size w w':=by
 have g:=Net.good_of_check hck;have lo:=g.lo;have L0:=g.hi;obtain⟨N,hN⟩:∃N:Nat,n.nodes=N:=⟨n.nodes.toNat,by have:n.net.nodes=n.nodes:=rfl;omega⟩;have g0:n.net.N=N:=by show n.nodes.toNat=N;omega
 have M0:N<=6:=by have:n.net.nodes=n.nodes:=rfl;omega
 have N0:0<N:=by have:n.net.nodes=n.nodes:=rfl;omega
 obtain⟨i1,V0,X0,Y0,Z0⟩:=info_parts Tryz.infoInt;obtain⟨i2,d1,f1,g1,h1⟩:=info_parts Tryz.infoInts;have f0:n.cells=#[.int .i64 n.a.size,.slice n.a.B.ga n.a.B.t.len n.a.B.cap,.slice n.a.E.ga n.a.E.t.len n.a.E.cap,.int .i64 N,.slice n.la n.ln n.lc]:=by simp only[dA.cells,Mat.val,hN]
 have m0:=hide (fun (j:Nat) (hj:j<N) W (hb:Below w.heap.size w W)=>AP x N j W (hx.grown hb) (by rw[<-g0];exact his.len) (fun r hr=>by rw[<-g0];exact his.wide r (by rw[g0];exact hr)) N0 M0 hj);have z0:=hide (fun (i j g c:Nat) (hj:j<N) W (hb:Below w.heap.size w W) (k0:g<W.heap.size) (hI:Ints (some ⟨g,0,none⟩) N g 0 (fun r=>x.t.Z r j) W) =>
  xI n i j (some ⟨g,0,none⟩) c g 0 (fun r=>x.t.Z r j) W (h.grown hb) hck (by rw[g0];exact hI) k0 (fun r hr=>his.state r j hr (by rw[g0];exact hj)))
 rw[g0]at z0;have O0:=hide g0;have i0:n.val=.agg #[.int .i64 n.a.size,.slice n.a.B.ga n.a.B.t.len n.a.B.cap,.slice n.a.E.ga n.a.E.t.len n.a.E.cap,.int .i64 N,.slice n.la n.ln n.lc]:=by rw[dA.val,f0]
 have o0:=hide i0;simp only[Mat.val]at m0 |-;rw[i0]at z0 |-;obtain⟨W0,w0⟩:∃W0,W0=w.alloc (.cells #[.int .i64 n.a.size,.slice n.a.B.ga n.a.B.t.len n.a.B.cap,.slice n.a.E.ga n.a.E.t.len n.a.E.cap,.int .i64 N,.slice n.la n.ln n.lc] 27):=⟨_,rfl⟩;have B0:Hid (Below w.heap.size w W0):=hide (by rw[w0];exact(Below.refl _ w).alloc lR _);have j0:Hid (Blk W0 w.heap.size #[.int .i64 n.a.size,.slice n.a.B.ga n.a.B.t.len n.a.B.cap,.slice n.a.E.ga n.a.E.t.len n.a.E.cap,.int .i64 N,.slice n.la n.ln n.lc] 27):=hide (by rw[w0];exact Blk.new w _ _);clear hN f0 i0 h hck g0 lo L0 g hx his;go_enter Tryz.func17,Tryz.ntmps17;go_wp2_with fail;rw[<-w0];clear w0
 go_loopw [5,6,7,8] (fun s q _ _ wr=>∃i:Nat,i<=N/\q=.int .i64 i/\Hid (BA W0.heap.size wr.heap.size s i N (n.net.round x.t.Z) wr)/\Hid (Below W0.heap.size W0 wr)) (fun _ q _ _ _=>N-(intOf q).toNat)
 case atStart=>exact⟨0,zL,rfl,hide (BA.nil _ _ _ _ _),hide (Below.refl _ _)⟩
 case round =>
  obtain⟨i,hi,rfl,HT,HB⟩:=hrel;have bN:=j0.out.below HB.out j0.out.lt;have x3:=bN.cell 3;simp at x3;by_cases q1:i<N
  ·have P0:(i:Int)<(N:Int):=by omega
   obtain⟨Vo,D0⟩:∃Vo,Vo=u5:=⟨_,rfl⟩;obtain⟨H,hH⟩:∃H,H=wr.heap.size:=⟨_,rfl⟩;have G0:Hid (aL W0 N (n.net.round x.t.Z) Vo i H (.slice none 0 0) 0 wr):=hide (by
    rw[D0,hH];exact⟨HB.out,HT.out,HB.out.size,lR,World.ownsRow_nil wr _ _ 1⟩)
   clear HT HB bN;go_wp2_with fail;rw[<-D0];clear D0 hH x3
   go_loopw [7,8] (fun s q wr=>∃j:Nat,j<=N/\q=.int .i64 j/\Hid (aL W0 N (n.net.round x.t.Z) Vo i H s j wr)) (fun _ q _=>N-(intOf q).toNat)
   case atStart=>exact⟨0,zL,rfl,G0⟩
   case round =>
    clear G0;obtain⟨j,hj,rfl,HJ⟩:=hrel;obtain⟨Vr,y0⟩:∃Vr,Vr=u7:=⟨_,rfl⟩;have bN:=j0.out.below HJ.out.below j0.out.lt;have x3:=bN.cell 3;simp at x3;by_cases K0:j<N
    ·have Q0:(j:Int)<(N:Int):=by omega
     rw[<-y0]at HJ;go_wp2_with fail;rw[<-y0];clear y0 x3 bN;refine KA 9 _ (aL W0 N (n.net.round x.t.Z) Vo i H Vr j) (pO n x N Vr i j) (fun v W=>aL W0 N (n.net.round x.t.Z) Vo i H v (j+1) W) (fun _ v u=>v=u)
      (by kernel_rfl) (by kernel_rfl) (by kernel_rfl) (by kernel_rfl) (by kernel_rfl) rfl (HJ.out.keep ⟨rfl,rfl,rfl,lR,fun _ _=>rfl⟩) ⟨?_,?_,?_,?_,?_,?_,?_,?_,?_,trivial⟩ ?_ ⟨?_,trivial⟩ ?_
     rotate_right
     ·intro t W hG J0;have u0:t 10=t 9:=J0 10 (by omega) (by decide);have HG:=hide hG;clear hG J0;simp only[fill,Act.put,sX,sY,sU,u0];generalize t 9=V9 at *;go_wp2;go_roundw
      case rel =>
       first
       | exact⟨j+1,by omega,by go_num,HG⟩
       | ((repeat apply Exists.intro);refine⟨?_,rfl⟩;exact⟨j+1,by omega,by go_num,HG⟩)
      case measure=>simp[intOf];omega
     rotate_right
     ·intro t W hG K hK;simp only[fill,Act.put,sX,sY,sU]at hK |-;rw[if_pos (by rfl)];go_simp;exact hK _ rfl
     rotate_right
     ·intro t W hG hE _ K hK;have e0:t 0=Vr:=hE 0 (by omega);obtain⟨b,e8,j1⟩:=hE 8 (by omega);simp only[fill,Act.put,sX,sY,sU,e0,e8]at hK |-;rw[if_pos (by rfl)];refine wp_append_lies W _ _ _ (by rfl) H 3 i1 _ 1 8 Tryz.underlying32 V0 X0 Y0 Z0 rfl (by decide) Vr j _ (by rfl) hG.row ⟨b,0,none⟩ 1 1 [.int .i64 (n.net.round x.t.Z i j)] (by rfl) rfl (World.news_of_block j1) (by simp[Value.oneCell']) (by decide) (by unfold maxLen;omega) (by omega) hG.hi _ rfl ?_;intro g c w1 E0 d0 p1 _;exact hK _ w1 (hG.push d0 E0)
     all_goals intro t W hG hp ht K hK
     all_goals have u0:t 10=Vr:=ht 10 (by omega)
     all_goals clear ht
     all_goals simp only[fill,Act.put,sX,sY,sU,u0]at hK |-
     all_goals clear u0
     all_goals rw[if_pos (by rfl)]
     ·go_simp;exact hK _ W hG rfl (fun _ _ _ h=>h)
     ·have bN:=j0.out.below hG.below j0.out.lt;have x0:=bN.cell 0;have x1:=bN.cell 1;have x2:=bN.cell 2;have x3:=bN.cell 3;have x4:=bN.cell 4;simp at x0 x1 x2 x3 x4;go_simp;exact hK _ W hG (by show _=n.val;rw[o0.out]) (fun _ _ _ h=>h)
     ·go_simp;exact hK _ W hG rfl (fun _ _ _ h=>h)
     ·go_simp;exact hK _ W hG rfl (fun _ _ _ h=>h)
     ·go_simp;exact hK _ W hG rfl (fun _ _ _ h=>h)
     ·go_simp;exact hK _ W hG rfl (fun _ _ _ h=>h)
     ·have e4:t 4=x.val:=hp 4 (by decide);have e5:t 5=.int .i64 j:=hp 5 (by decide);rw[Mat.val]at e4;simp only[e4,e5]at hK |-;go_simp;go_at_call 51;refine(m0.out j K0 W (B0.out.trans (hG.below.mono B0.out.size))).mono ?_;rintro e W' ⟨g,c,rfl,hb,k0,hI⟩;go_simp;exact hK _ W' (hG.keep hb) ⟨g,c,rfl,k0,hI⟩ (fun k u _=>pO.keep hb k u)
     ·have e1:t 1=n.val:=hp 1 (by decide);have e2:t 2=.int .i64 i:=hp 2 (by decide);have e3:t 3=.int .i64 j:=hp 3 (by decide);obtain⟨g,c,e6,k0,hI⟩:=hp 6 (by decide);rw[o0.out]at e1;simp only[e1,e2,e3,e6]at hK |-;go_simp;go_at_call 50;refine(z0.out i j g c K0 W (B0.out.trans (hG.below.mono B0.out.size)) k0 hI).mono ?_;rintro e W' ⟨rfl,hb⟩;go_simp;exact hK _ W' (hG.keep hb) rfl (fun k u _=>pO.keep hb k u)
     ·have e7:t 7=.int .i64 (n.net.round x.t.Z i j):=hp 7 (by decide);have hb:Below W.heap.size W (W.alloc (.cells #[.int .i64 (n.net.round x.t.Z i j)] 3)):=(Below.refl _ W).alloc lR _;simp only[e7]at hK |-;go_simp;exact hK _ _ (hG.keep hb) ⟨W.heap.size,rfl,Blk.new W _ _⟩ (fun k u _=>pO.keep hb k u)
    ·have R0:j=N:=by omega
     have Q0:(N:Int)<=(j:Int):=by omega
     subst R0;clear y0 Vr;obtain⟨gn,cn,rfl,_,k0⟩:=HJ.out.row.form (by omega);obtain⟨g,c,k1,k2,k3,k4⟩:=HJ.out.tab;have:=HJ.out.hi;have S0:=HJ.out.lo;have p0:=hide HJ.out.row;have A0:=hide HJ.out.below;have:=HJ.out.below.size;have v0:=hide k1;have C0:=hide k3;clear HJ k1 k3;go_wp2_with (at_builtin;refine wpList_append_lies _ rfl _ _ _ rfl W0.heap.size 32 i2 _ 1 24 Tryz.underlying22 d1 f1 g1 h1 rfl (by decide) _ i _ rfl (v0.out.alloc _) ⟨wr.heap.size,0,none⟩ 1 1 [.slice (some ⟨gn,0,none⟩) j cn] rfl rfl ?c1 ?c2 (by decide) ?c3 ?c4 ?c5 _ rfl ?_)
     all_goals try (case c1=>exact World.news_of_block (Blk.new' (by simp)))
     all_goals try (case c2=>simp[Value.oneCell'])
     all_goals try (case c3=>unfold maxLen;omega)
     all_goals try (case c4=>omega)
     all_goals try (case c5=>simp;omega)
     intro g' o1 w2 h0 d0 s0 F0;have q0:=BA.push (v0.out.alloc (.cells #[.slice (some ⟨gn,0,none⟩) j cn] 32)) k2 (fun r hr=>⟨(C0.out r hr).1.alloc _,(C0.out r hr).2⟩) k4 S0 (p0.out.alloc _) h0 d0 (by simpa using s0);have H0:=hide q0;have I0:=hide ((A0.out.alloc A0.out.size _).trans (nA d0 (fun q hq=>(v0.out.lt q hq).1) (by simp;omega)));clear h0 d0 s0 F0 q0 v0 C0 k2 k4 p0 A0;go_wp2;go_roundw
     case rel =>
      first
      | exact⟨i+1,by omega,by go_num,H0,I0⟩
      | ((repeat apply Exists.intro);refine⟨?_,rfl⟩;exact⟨i+1,by omega,by go_num,H0,I0⟩)
     case measure=>simp[intOf];omega
  ·have T0:i=N:=by omega
   subst T0;have P0:(i:Int)<=(i:Int):=Int.le_refl _;obtain⟨m,e1,e2,e3,e4⟩:=HT.out.mat (by omega) (by omega);have He:=hide e1;have HF:Hid (nC n.net.N w.heap.size (n.net.round x.t.Z) m wr):=hide ⟨by rw[O0.out];exact e2,e3,e4.1.mono (by have:=B0.out.size;omega),e4.2⟩;have U0:=hide (B0.out.trans (HB.out.mono B0.out.size));clear e1 e2 e3 e4 HT;go_wp2;go_ret;exact⟨⟨m,congrArg Ending.returned He.out,HF.out⟩,U0.out⟩
theorem qJ (n:dA)(x:Mat)(w:World)(h:n.In w.heap.size w)(hx:x.In w.heap.size w):
 Calls Tryz.prog 15 #[n.val,x.val] w fun e w'=>(∃y:Mat,e=.returned (.tuple #[y.val,.int .i64 (n.net.fit x.t)])/\OE n.net.N w.heap.size (n.net.next x.t.Z) (n.net.fit x.t) y w')/\Below w.heap.size w w':=by
 by_cases hf:n.net.fit x.t=0
 ·refine(vK n x w h hx hf).mono ?_;rintro e w' ⟨⟨y,rfl,hy⟩,hb⟩;exact⟨⟨y,by rw[hf],⟨hy.2.1,hy.2.2.1,fun _=>hy.1,fun h=>absurd hf h,hy.2.2.2⟩⟩,hb⟩
 ·refine(pJ n x w h hx hf).mono ?_;rintro e w' ⟨rfl,hb⟩;exact⟨⟨nP,rfl,⟨aJ _ _,IG _,fun h=>absurd h hf,fun _=>rfl,GG _⟩⟩,hb⟩
end Go.Proofs.YtjhkadffaephmacGreat
