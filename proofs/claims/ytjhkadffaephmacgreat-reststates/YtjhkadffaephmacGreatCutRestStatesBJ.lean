import Derived.Test.YtjhkadffaephmacGreatCutRestStatesBI
namespace Go.Proofs.YtjhkadffaephmacGreat
set_option maxHeartbeats 16000000
set_option maxRecDepth 100000
open Go.RowKit
theorem UN {n:Net}{e:Eng}{i:Nat}(h:¬ n.heeds (e.bag.getD i zA)):e.deliver n i=e.without i:=by
 unfold Eng.deliver Eng.take;rw[if_neg h]
theorem TN {n:Net}{e:Eng}{i:Nat}(h:n.heeds (e.bag.getD i zA)):e.deliver n i=((e.without i).tell (e.bag.getD i zA).T.toNat (e.bag.getD i zA).F.toNat (LA (e.bag.getD i zA).b).R).look n (e.bag.getD i zA).T.toNat:=by
 unfold Eng.deliver Eng.take;rw[if_pos h]
def ET (y y':Lay) (P N:Nat) (Bv Bv':Value) (w w':World):Prop:=∀b,y.Off P N Bv w b->w'.heap[b]? = w.heap[b]?/\y'.Off P N Bv' w' b
theorem WN (n:dA)(base P N i:Nat)(e:Eng)(Bv:Value)(y:Lay)(w:World)(h:n.In base w)(hck:n.net.check=0)(hN:n.nodes=N)(hL:Live base P N e Bv y w)(hfit:e.Fit n.net)(hi:i<e.bag.length):
 Calls Tryz.prog 113 #[n.val,.pointer (some ⟨P,0,none⟩),.int .i64 i] w fun r w'=>r=.returned (.tuple #[])/\(∃Bv' y',Live base P N (e.deliver n.net i) Bv' y' w'/\ET y y' P N Bv Bv' w w')/\Below base w w':=by
 have g:=Net.good_of_check hck;have V2:2<=n.a.size:=g.law.good.lo;have X2:n.a.size<=24:=g.law.good.hi;have Y2:=g.hi;have Z2:n.net.N=N:=by show n.nodes.toNat=N;omega
 have a3:N<=6:=by have:n.net.nodes=n.nodes:=rfl;omega
 have S1:base<=w.heap.size:=Nat.le_of_lt (Nat.lt_of_le_of_lt hL.lp hL.head.lt);obtain⟨m,hm⟩:∃m,m=e.bag.getD i zA:=⟨_,rfl⟩;have M0:=hfit.mail m (by rw[hm];exact UD hi);obtain⟨⟨p3,Q2⟩,⟨r3,R2⟩,s3⟩:=M0;have A2:m.F<(N:Int):=by rw[<-hN];exact Q2
 have B2:m.T<(N:Int):=by rw[<-hN];exact R2
 obtain⟨W2,K0⟩:∃W2,W2=(w.alloc (.cells n.cells 27)).alloc (.cells #[.int .i64 m.F,.int .i64 m.T,.string ⟨m.b.toArray⟩] 59):=⟨_,rfl⟩;have u1:Below w.heap.size w W2:=by rw[K0];exact((Below.refl _ w).alloc lR _).alloc (by simp) _
 have b3:Blk W2 w.heap.size n.cells 27:=by rw[K0];exact(Blk.new w _ _).alloc _
 have b6:Blk W2 (w.heap.size+1) #[.int .i64 m.F,.int .i64 m.T,.string ⟨m.b.toArray⟩] 59:=by rw[K0];exact Blk.new' (by simp)
 have T1:=hL.below u1;have N0:∀b,w.heap.size<=b->b<W2.heap.size->y.Off P N Bv W2 b:=fun b h1 h2=>⟨by have:=hL.head.lt;omega,by have:=hL.rtrs.lt;omega,fun k hk=>by have:=(hL.tolds k hk).lt;omega,fun hv=>by have:=(hL.bag.lt _ hv).2;omega,h2,by have:=hL.ylo;have:=hL.head.lt;omega⟩;have v1:=hide (yN base P N i e Bv y W2 T1 hi (by have:=hfit.many;omega));obtain⟨gB,cap,o1,m0,m1,m2⟩:=hL.mail hi;rw[<-hm]at m0 m1 m2;have O0:gB<w.heap.size:=(hL.bag.lt gB (by rw[o1];rfl)).2;have U1:∀o,(w.alloc o).cell? ⟨P,1,none⟩=some Bv:=fun o=>by have:=(hL.head.alloc o).cell 1;simpa using this
 have n0:∀o q,(w.alloc o).cell? ⟨gB,q,none⟩=w.cell? ⟨gB,q,none⟩:=fun o q=>by rw[((Below.refl w.heap.size w).alloc lR o).cell (p:=⟨gB,q,none⟩) O0]
 have q0:∀o,(w.alloc o).cell? ⟨gB,i*3,none⟩=some (.int .i64 m.F):=fun o=>by rw[n0];exact m0
 have q1:∀o,(w.alloc o).cell? ⟨gB,i*3+1,none⟩=some (.int .i64 m.T):=fun o=>by rw[n0];exact m1
 have q2:∀o,(w.alloc o).cell? ⟨gB,i*3+2,none⟩=some (.string ⟨m.b.toArray⟩):=fun o=>by rw[n0];exact m2
 rw[o1]at U1;have d3:(i:Int)<(e.bag.length:Int):=by omega
 have g0:n.cells=#[.int .i64 n.a.size,.slice n.a.B.ga n.a.B.t.len n.a.B.cap,.slice n.a.E.ga n.a.E.t.len n.a.E.cap,.int .i64 N,.slice n.la n.ln n.lc]:=by simp only[dA.cells,Mat.val,hN]
 have H:=hide h;have P0:=hide N0;have C2:=hide o1;have d1:=hide u1;have V1:=hide b3;have W1:=hide b6;have w1:=hide hfit;have Hm:=hide hm;have D2:=hide S1;have X1:=hide hL;rw[K0,g0]at v1;rw[g0]at K0;have Y1:=hide K0;have f0:=hide g0;have x1:=hide (fun W=>vS m.b W (by unfold maxLen;omega));unfold txt at x1;have HN:=hide hN;generalize e.bag.length=len at *;simp only[dA.val,g0];clear h hL T1 N0 o1 u1 b3 b6 hfit hm S1 K0 m0 m1 m2 n0 O0 g0 hN;go_enter Tryz.func113,Tryz.ntmps113;go_wp2_with fail;go_at_call 115;refine v1.out.mono ?_;rintro r W3 ⟨rfl,⟨w0,w2,W0⟩,p1,X0⟩;rw[<-Y1.out]at p1 X0;have y1:Hid (∀b,y.Off P N Bv w b->W3.heap[b]? = w.heap[b]?/\y.Off P N w0 W3 b):=hide (fun b hb=>⟨(X0 b (hb.grown d1.out.size)).trans (d1.out.block b hb.lt),⟨hb.p,hb.g,hb.t,fun hv=>hb.v (by rw[<-W0];exact hv),Nat.lt_of_lt_of_le hb.lt (Nat.le_trans d1.out.size p1.size),hb.lo⟩⟩);have c3:=X0.blk (P0.out _ lR V1.out.lt) V1.out;have c6:=X0.blk (P0.out _ (by omega) W1.out.lt) W1.out;have Z1:=(d1.out.mono D2.out).trans p1;have d2:=c6.cell 2;simp at d2;have Q0:=hide w2;have a2:=hide Z1;have R0:=hide c3;have S0:=hide c6;clear w2 p1 X0 W0 c3 c6 Z1 v1 U1 q0 q1 q2;go_wp2_with fail;go_at_call 137;refine(x1.out _).mono ?_;rintro r W4 ⟨⟨p,rfl,D0,N1,O1⟩,Y0⟩;obtain⟨W5,v0⟩:∃W5,W5=W4.alloc (.cells p.cells 92):=⟨_,rfl⟩;have y0:Below W3.heap.size W3 W5:=by rw[v0];exact Y0.alloc Y0.size _
 have c7:Blk W5 W4.heap.size p.cells 92:=by rw[v0];exact Blk.new W4 _ _
 have T0:p.In W5.heap.size W5:=by rw[v0];exact N1.grown ((Below.refl _ W4).alloc lR _)
 have z1:=Q0.out.below y0;have c3:=R0.out.below y0 R0.out.lt;have c6:=S0.out.below y0 S0.out.lt;have F0:base<=W3.heap.size:=Nat.le_of_lt (Nat.lt_of_le_of_lt Q0.out.lp Q0.out.head.lt);have G0:Below base w W5:=a2.out.trans (y0.mono F0);have f1:Hid (∀b,y.Off P N Bv w b->W5.heap[b]? = w.heap[b]?/\y.Off P N w0 W5 b):=hide (fun b hb=>⟨(y0.block b (y1.out b hb).2.lt).trans (y1.out b hb).1,(y1.out b hb).2.grown y0.size⟩);have HX:Hid (∀W,Below W5.heap.size W5 W->¬ n.net.heeds m->(∃Bv' y',Live base P N (e.deliver n.net i) Bv' y' W/\ET y y' P N Bv Bv' w W)/\Below base w W):=hide (fun W hb hn=>by
  rw[Hm.out]at hn;rw[UN hn];exact⟨⟨w0,y,z1.below hb,fun b hb'=>⟨(hb.block b (f1.out b hb').2.lt).trans (f1.out b hb').1,(f1.out b hb').2.grown hb.size⟩⟩,G0.trans (hb.mono (Nat.le_trans F0 y0.size))⟩)
 have HS:=hide D0;have H0:=hide T0;have A1:=hide z1;have b2:=hide G0;have e2:=hide c7;have g1:=hide c3;have i1:=hide c6;have E2:Hid (0<p.n->W3.heap.size<=p.rb):=hide (fun h0=>(O1 h0).1);have F2:Hid (0<p.n->yB W5 p.rb):=hide (fun h0=>by rw[v0];exact(O1 h0).2.grown ((Below.refl _ W4).alloc lR _));have L0:=hide v0;have k6:=S0.out.below Y0 S0.out.lt;have k3:=R0.out.below Y0 R0.out.lt;have G2:∀o,(W4.alloc o).cell? ⟨w.heap.size+1,0,none⟩=some (.int .i64 m.F):=fun o=>by have:=(k6.alloc o).cell 0;simpa using this
 have H2:∀o,(W4.alloc o).cell? ⟨w.heap.size+1,1,none⟩=some (.int .i64 m.T):=fun o=>by have:=(k6.alloc o).cell 1;simpa using this
 have I2:∀o,(W4.alloc o).cell? ⟨w.heap.size,0,none⟩=some (.int .i64 n.a.size):=fun o=>by have:=(k3.alloc o).cell 0;simpa [f0.out] using this
 have J2:∀o,(W4.alloc o).cell? ⟨w.heap.size,3,none⟩=some (.int .i64 N):=fun o=>by have:=(k3.alloc o).cell 3;simpa [f0.out] using this
 have e3:p.n<=17592186044416:=N1.small;have o0:=Q0;clear k6 k3 D0 N1 O1 Y0 y0 c7 T0 z1 c3 c6 F0 G0 d2 Q0 a2 R0 S0 x1;by_cases k1:UA m.b=0;rotate_left
 ·have f3:(UA m.b == 0)=false:=by simpa using k1
  have HP:=hide (HX.out W5 (Below.refl _ _) (fun hh=>k1 hh.1));rw[L0.out]at HP;simp only[lC.val,lC.cells]at *;clear HX;generalize UA m.b=er at *;go_wp2
  ((try simp only[Exit.inBlock,Exit.then]);refine bodyPost_ret (results_none rfl _ _ _) rfl ?_)
  exact⟨rfl,HP.out⟩
 have hS:p.pkt.same (LA m.b):=by have:=HS.out;unfold XH at this;rwa [if_pos k1]at this
 have B1:=hide hS;have C1:Hid (p.F=(LA m.b).F):=hide hS.1;have D1:Hid (p.T=(LA m.b).T):=hide hS.2.1;have j1:Hid (p.n=(LA m.b).n):=hide hS.2.2.1;clear hS;rw[k1];by_cases k2:p.F=m.F;rotate_left
 ·have HP:=hide (HX.out W5 (Below.refl _ _) (fun hh=>k2 (C1.out.trans hh.2.1)));have g3:(p.F == m.F)=false:=by simpa using k2
  rw[L0.out]at HP;simp only[lC.cells]at HP;simp only[lC.val,lC.cells];clear HX;go_wp2
  ((try simp only[Exit.inBlock,Exit.then]);refine bodyPost_ret (results_none rfl _ _ _) rfl ?_)
  exact⟨rfl,HP.out⟩
 by_cases k3:p.T=m.T;rotate_left
 ·have HP:=hide (HX.out W5 (Below.refl _ _) (fun hh=>k3 (D1.out.trans hh.2.2.1)));have i3:(p.T == m.T)=false:=by simpa using k3
  rw[L0.out]at HP;simp only[lC.cells,k2]at HP;simp only[lC.val,lC.cells,k2];clear HX;go_wp2
  ((try simp only[Exit.inBlock,Exit.then]);refine bodyPost_ret (results_none rfl _ _ _) rfl ?_)
  exact⟨rfl,HP.out⟩
 by_cases k4:p.n=N;rotate_left
 ·have HP:=hide (HX.out W5 (Below.refl _ _) (fun hh=>k4 (by have h1:=(Net.row_zero.1 hh.2.2.2.1).1;have h2:=HN.out;have h3:n.net.nodes=n.nodes:=rfl;rw[<-j1.out]at h1;omega)));have j3:((p.n:Int) == (N:Int))=false:=by simp;omega
  rw[L0.out]at HP;simp only[lC.cells,k2,k3]at HP;simp only[lC.val,lC.cells,k2,k3];clear HX;go_wp2
  ((try simp only[Exit.inBlock,Exit.then]);refine bodyPost_ret (results_none rfl _ _ _) rfl ?_)
  exact⟨rfl,HP.out⟩
 have u0:Ints p.ra N p.rb p.ro p.R W5:=by have:=H0.out.ints;rwa [k4]at this
 have HA:=hide (eD p.ra N p.rc p.rb p.ro p.R n.a.size W5 u0 (fun h0=>H0.out.lt (by omega)));have f2:=hide u0;clear u0;have v0:=L0.out;simp only[lC.cells,k2,k3,k4]at v0;rw[v0]at HA;simp only[lC.val,lC.cells,k2,k3,k4];go_wp2_with fail;go_at_call 73;refine HA.out.mono ?_;rw[<-v0];clear HA;rintro r W6 ⟨rfl,s1⟩;have c3:=g1.out.below s1 g1.out.lt;have c6:=i1.out.below s1 i1.out.lt;have k0:=hide s1;have g2:=c6.cell 0;have i2:=c6.cell 1;have E1:=c3.cell 0;have F1:=c3.cell 1;have G1:=c3.cell 2;have H1:=c3.cell 3;have I1:=c3.cell 4;simp only[f0.out]at E1 F1 G1 H1 I1;simp at g2 i2 E1 F1 G1 H1 I1;have U0:jB N p.R n.a.size=true↔n.net.row (LA m.b).n (LA m.b).R=0:=by
  have h2:=HN.out;have h3:n.net.nodes=n.nodes:=rfl;have h4:=j1.out;have h5:=B1.out.2.2.2;rw[sD,Net.row_zero];constructor
  ·intro h;exact⟨by omega,fun j hj=>by rw[<-h5 j (by show j<p.n;omega)];exact h j (by omega)⟩
  ·intro h j hj;have:=h.2 j (by omega);rw[<-h5 j (by show j<p.n;omega)]at this;exact this
 have I0:=hide U0;clear U0 c3 c6 s1 G2 H2 I2 J2 v0;cases k5:jB N p.R n.a.size with
 | false =>
  have HP:=hide (HX.out W6 k0.out (fun hh=>by have:=I0.out.2 hh.2.2.2.1;rw[k5]at this;cases this));clear HX;go_wp2
  ((try simp only[Exit.inBlock,Exit.then]);refine bodyPost_ret (results_none rfl _ _ _) rfl ?_)
  exact⟨rfl,HP.out⟩
 | true =>
  have i0:base<=W5.heap.size:=Nat.le_of_lt (Nat.lt_of_le_of_lt A1.out.lp A1.out.head.lt);have J1:n.In base W6:=(H.out.below b2.out lR).below k0.out i0;have HH:=hide (wL n m.T m.F W6 (J1.mono (Nat.le_trans i0 k0.out.size)) hck);rw[dA.val,f0.out]at HH;have l3:=hide J1;have J0:=hide i0;clear J1 i0;go_wp2_with fail;go_at_call 138;refine HH.out.mono ?_;clear HH;rintro r W7 ⟨rfl,Z0⟩;have m3:=hide Z0;by_cases k6:0<=n.net.edge m.T m.F;rotate_left
  ·have HP:=hide (HX.out W7 (k0.out.trans (Z0.mono k0.out.size)) (fun hh=>k6 hh.2.2.2.2));simp only[k6,decide_false];clear HX Z0;go_wp2
   ((try simp only[Exit.inBlock,Exit.then]);refine bodyPost_ret (results_none rfl _ _ _) rfl ?_)
   exact⟨rfl,HP.out⟩
  simp only[k6,decide_true];clear HX;go_wp2;obtain⟨tn,t1⟩:∃tn:Nat,m.T=tn:=⟨m.T.toNat,by omega⟩;obtain⟨fn,P1⟩:∃fn:Nat,m.F=fn:=⟨m.F.toNat,by omega⟩;have ht:tn<N:=by omega
  have hf:fn<N:=by omega
  have p0:Below W5.heap.size W5 W7:=k0.out.trans (Z0.mono k0.out.size);have d0:Below W5.heap.size W5 W7.drew:=⟨p0.os,p0.tape,p0.output,p0.size,p0.block⟩;have z0:Live base P N (e.without i) w0 y W7.drew:=A1.out.below d0;have q6:=i1.out.below d0 i1.out.lt;have q7:=e2.out.below d0 e2.out.lt;have q3:=g1.out.below d0 g1.out.lt;have K2:=q6.cell 0;have L2:=q6.cell 1;have j2:=q7.cell 2;have zh:=z0.head.cell 0;have zr:=z0.rtrs.cell (tn*2+1);rw[z0.r1 tn ht]at zr;have zt:=(z0.tolds tn ht).cell fn;rw[z0.t0 tn ht fn hf]at zt;have zf:=(z0.tolds tn ht).frozen fn;simp only[lC.cells,k4]at j2;simp[t1,P1]at K2 L2 j2 zh;have n3:(tn:Int)<(N:Int):=by omega
  have o3:(fn:Int)<(N:Int):=by omega
  have x0:=H0.out.below d0 lR;have K1:W3.heap.size<=p.rb:=E2.out (by omega);have A0:y.Off P N w0 W7.drew p.rb:=⟨by have:=o0.out.head.lt;omega,by have:=o0.out.rtrs.lt;omega,fun k hk=>by have:=(o0.out.tolds k hk).lt;omega,fun hv=>by have:=(o0.out.bag.lt _ hv).2;omega,Nat.lt_of_lt_of_le (x0.lt (by omega)) d0.size,by have:=o0.out.ylo;have:=o0.out.head.lt;omega⟩;have s0:=z0.setTold ht hf true (LA m.b).R p.ra p.rc p.rb p.ro (fun _=>⟨x0.ints.addr (by omega),A0,fun j hj=>by rw[x0.ints.cell j (by omega)];exact congrArg (fun z=>some (Value.int .i64 z)) (B1.out.2.2.2 j (by show j<p.n;omega))⟩) (fun _=>(F2.out (by omega)).grown d0);simp only[if_true]at s0;obtain⟨W8,E0⟩:∃W8,W8=W7.drew.setCell ⟨y.Tb tn,fn,none⟩ (.slice p.ra N p.rc):=⟨_,rfl⟩;rw[<-E0]at s0;obtain⟨y8,s0,S2,T2,U2⟩:∃y8:Lay,Live base P N ((e.without i).tell tn fn (LA m.b).R) w0 y8 W8/\y8.G=y.G/\y8.Tb=y.Tb/\y8.lo=y.lo:=⟨_,s0,rfl,rfl,rfl⟩;have B0:Hid (∀b,y.Off P N Bv w b->W8.heap[b]? = w.heap[b]?/\y8.Off P N w0 W8 b):=hide (fun b hb=>by
   obtain⟨h1,h2⟩:=f1.out b hb;have h3:=d0.block b h2.lt;refine⟨by rw[E0,Below.heap_setCell _ _ _ _ (h2.t tn ht),h3];exact h1,⟨h2.p,by rw[S2];exact h2.g,by rw[T2];exact h2.t,h2.v,?_,by rw[U2];exact h2.lo⟩⟩;rw[E0];simpa using Nat.lt_of_lt_of_le h2.lt d0.size)
  have L1:Below base w W8:=by rw[E0];exact(b2.out.trans (d0.mono J0.out)).setCell (p:=⟨y.Tb tn,fn,none⟩) (X1.out.lt tn ht) _
  have l2:n.In base W8:=H.out.below L1 lR;have j0:n.net.heeds m:=⟨k1,C1.out.symm.trans k2,D1.out.symm.trans k3,I0.out.1 k5,k6⟩;have C0:=(w1.out.without i).tell (i:=tn) (k:=fn) (f:=(LA m.b).R) (fun j hj=>by
   have:=(Net.row_zero.1 j0.2.2.2.1).2 j (by have:=j1.out;omega);exact this)
  have V0:=hide (oG n base P N tn _ w0 y8 W8 l2 hck HN.out s0 C0 ht);have he:Eng.look n.net ((e.without i).tell tn fn (LA m.b).R) tn=e.deliver n.net i:=by
   rw[Hm.out]at j0 t1 P1;rw[TN j0,<-Hm.out,show m.T.toNat=tn by rw[Hm.out];omega,show m.F.toNat=fn by rw[Hm.out];omega]
  have V0:Hid (Calls Tryz.prog 135 #[n.val,.pointer (some ⟨P,0,none⟩),.int .i64 tn] W8 fun r w'=>r=.returned (.tuple #[])/\(∃y',Live base P N (e.deliver n.net i) w0 y' w'/\y'.G=y8.G/\y'.Tb=y8.Tb/\y'.lo=y8.lo)/\Below base W8 w'/\Kept y8 P N w0 W8 w'):=by rw[<-he];exact V0
  rw[dA.val,f0.out]at V0;have M1:=(X1.out.tolds tn ht).lt;have u3:Blk W8 w.heap.size n.cells 27:=by rw[E0];exact q3.other (by omega) _ _
  have u6:Blk W8 (w.heap.size+1) #[.int .i64 m.F,.int .i64 m.T,.string ⟨m.b.toArray⟩] 59:=by rw[E0];exact q6.other (by omega) _ _
  have o2:=u3.cell 0;have p2:=u3.cell 1;have r2:=u3.cell 2;have t2:=u3.cell 3;have u2:=u3.cell 4;have M2:=u6.cell 1;simp only[f0.out]at o2 p2 r2 t2 u2;simp[t1]at o2 p2 r2 t2 u2 M2;have v2:=hide L1;have N2:=hide E0;clear L0 Hm f0 C2 HN Y1 HS B1 C1 D1 j1 I0 j0 C0 he u3 u6 l2 L1 s0 A0 K1 x0 q6 q7 q3 z0 p0 d0 Z0 E0 M1 k1 k2 k3 k4 k5 k6 g2 i2 E1 F1 G1 H1 I1 t1 P1 v0;refine KA 14 _ (fun W=>W=W7.drew) (oC [.pointer (some ⟨P,0,none⟩),.pointer (some ⟨P,0,none⟩),.pointer (some ⟨P,0,none⟩),.slice (some ⟨y.G,0,none⟩) N y.gc,.pointer (some ⟨w.heap.size+1,1,none⟩),.int .i64 (tn:Int),.pointer (some ⟨y.G,tn*2,none⟩),.pointer (some ⟨y.G,tn*2+1,none⟩),.slice (some ⟨y.Tb tn,0,none⟩) N (y.Tc tn),.pointer (some ⟨w.heap.size+1,0,none⟩),.int .i64 (fn:Int),.pointer (some ⟨W4.heap.size,2,none⟩),.slice p.ra N p.rc,.pointer (some ⟨y.Tb tn,fn,none⟩)]) (fun _ W=>W=W8) (fun _ _ _=>True) (by kernel_rfl) (by kernel_rfl) (by kernel_rfl) (by kernel_rfl) (by kernel_rfl) rfl rfl ⟨?_,?_,?_,?_,?_,?_,?_,?_,?_,?_,?_,?_,?_,?_,trivial⟩ ?_ trivial ?_;rotate_right
  ·intro t W hG _;simp only[fill,Act.put,sX,sY,sU];subst hG;go_wp2_with fail;go_at_call 135;refine V0.out.mono ?_;rintro r w9 ⟨rfl,⟨y9,x2,y2,Q1⟩,R1,z2⟩;have HF:Hid ((∃Bv' y',Live base P N (e.deliver n.net i) Bv' y' w9/\ET y y' P N Bv Bv' w w9)/\Below base w w9):=hide ⟨⟨w0,y9,x2,fun b hb=>⟨(z2 b (B0.out b hb).2).trans (B0.out b hb).1,⟨(B0.out b hb).2.p,by rw[y2];exact(B0.out b hb).2.g,by rw[Q1.1];exact(B0.out b hb).2.t,(B0.out b hb).2.v,Nat.lt_of_lt_of_le (B0.out b hb).2.lt R1.size,by rw[Q1.2];exact(B0.out b hb).2.lo⟩⟩⟩,v2.out.trans R1⟩;clear x2 R1 z2 y2 Q1 v2 V0;go_wp2;go_end0;exact⟨rfl,HF.out⟩
  rotate_right
  ·intro t W hG hE _ K hK;have O2:=aA (hE 12 (by omega)) rfl;have P2:=aA (hE 13 (by omega)) rfl;subst hG;simp only[fill,Act.put,sX,sY,sU,O2,P2]at hK |-;rw[if_pos (by rfl)];go_simp;exact hK undef _ N2.out.symm
  all_goals intro t W hG hp ht K hK
  all_goals clear ht
  all_goals subst hG
  all_goals simp only[fill,Act.put,sX,sY,sU]at hK |-
  all_goals try simp(disch:=first | rfl | decide) only[vat hp,List.getD_cons_succ,List.getD_cons_zero]at hK |-
  all_goals (rw[if_pos (by rfl)];go_simp;exact hK _ _ rfl rfl (fun _ _ _ h=>h))
theorem VN (n:dA)(base P N i:Nat)(e:Eng)(Bv:Value)(y:Lay)(w:World)(h:n.In base w)(hck:n.net.check=0)(hN:n.nodes=N)(hL:Live base P N e Bv y w)(hfit:e.Fit n.net)(hi:i<e.bag.length):
 Calls Tryz.prog 113 #[n.val,.pointer (some ⟨P,0,none⟩),.int .i64 i] w fun r w'=>r=.returned (.tuple #[])/\(∃Bv' y',Live base P N (e.deliver n.net i) Bv' y' w')/\Below base w w' :=
 (WN n base P N i e Bv y w h hck hN hL hfit hi).mono (fun _ _ ⟨h1,⟨B,y',h2,_⟩,h3⟩=>⟨h1,⟨B,y',h2⟩,h3⟩)
theorem Eng.Fit.forget {n:Net}{e:Eng}(h:e.Fit n)(i k:Nat):Eng.Fit n { e with told:=fun a b=>if a=i/\b=k then false else e.told a b } :=
 ⟨h.R,fun a b j ha hb hj ht=>by
  have ht':(if a=i/\b=k then false else e.told a b)=true:=ht;split at ht'
  ·cases ht'
  ·exact h.D a b j ha hb hj ht',h.many,h.mail⟩
theorem vP (n:dA)(base P N at_:Nat)(of_:Int)(e:Eng)(Bv:Value)(y:Lay)(w:World)(hN:n.nodes=N)(hL:Live base P N e Bv y w)(hof:of_<0\/(N:Int)<=of_):
 Calls Tryz.prog 111 #[n.val,.pointer (some ⟨P,0,none⟩),.int .i64 at_,.int .i64 of_] w fun r w'=>r=.returned (.int .i64 5)/\Live base P N e Bv y w'/\Below base w w':=by
 have d0:base<=w.heap.size:=Nat.le_of_lt (Nat.lt_of_le_of_lt hL.lp hL.head.lt);have hB:Below w.heap.size w (w.alloc (.cells n.cells 27)):=(Below.refl _ w).alloc lR _;have HF:=hide (And.intro (hL.below hB) (hB.mono d0));have HS:=hide (fun W=>XB of_ N W);have hv:(decide (0<=of_) && decide (of_<(N:Int)))=false:=by simp;omega
 rw[hv]at HS;simp only[dA.val,dA.cells,Mat.val,hN]at *;clear hL hof hv hB;go_enter Tryz.func111,Tryz.ntmps111;go_wp2_with fail;go_at_call 90;refine(HS.out _).mono ?_;rintro r w1 ⟨rfl,rfl⟩;go_wp2;go_ret;exact⟨rfl,HF.out.1,HF.out.2⟩
theorem ZQ (n:dA)(base P N at_ k:Nat)(e:Eng)(Bv:Value)(y:Lay)(w:World)(h:n.In base w)(hck:n.net.check=0)(hN:n.nodes=N)(hL:Live base P N e Bv y w)(hfit:e.Fit n.net)(hat:at_<N)(hk:k<N):
 Calls Tryz.prog 111 #[n.val,.pointer (some ⟨P,0,none⟩),.int .i64 at_,.int .i64 k] w fun r w'=>r=.returned (.int .i64 0)/\(∃y',Live base P N (e.expire n.net at_ k) Bv y' w')/\Below base w w':=by
 have m0:base<=w.heap.size:=Nat.le_of_lt (Nat.lt_of_le_of_lt hL.lp hL.head.lt);obtain⟨W1,g0⟩:∃W1,W1=w.alloc (.cells n.cells 27):=⟨_,rfl⟩;have hB:Below w.heap.size w W1:=by rw[g0];exact(Below.refl _ w).alloc lR _
 have b0:Blk W1 w.heap.size n.cells 27:=by rw[g0];exact Blk.new w _ _
 have f0:=hL.below hB;have q0:=(hL.tolds at_ hat).lt;have d0:=f0.setTold hat hk false (e.D at_ k) none 0 0 0 (fun h=>by cases h) (fun h=>by cases h);have he:({ e with told:=fun a b=>if a=at_/\b=k then false else e.told a b,D:=fun r q=>if r=at_/\q=k then e.D at_ k else e.D r q }:Eng)={ e with told:=fun a b=>if a=at_/\b=k then false else e.told a b }:=by
  congr 1;funext r q;by_cases e1:r=at_/\q=k
  ·rw[if_pos e1,e1.1,e1.2]
  ·rw[if_neg e1]
 rw[he]at d0;simp only[Bool.false_eq_true,if_false]at d0;have i0:Below base w (W1.setCell ⟨y.Tb at_,k,none⟩ (.slice none 0 0)):=(hB.mono m0).setCell (p:=⟨y.Tb at_,k,none⟩) (hL.lt at_ hat) _;have j0:=hide (QN n base P N at_ _ Bv _ _ (h.below i0 lR) hck hN d0 (hfit.forget at_ k) hat);have bs:=b0.other (C:=y.Tb at_) (by omega) k (.slice none 0 0);have x0:=bs.cell 0;have x1:=bs.cell 1;have x2:=bs.cell 2;have x3:=bs.cell 3;have x4:=bs.cell 4;have h0:=f0.head.cell 0;have h1:=f0.rtrs.cell (at_*2+1);rw[hL.r1 at_ hat]at h1;have h2:=(f0.tolds at_ hat).cell k;rw[hL.t0 at_ hat k hk]at h2;have hf:=(f0.tolds at_ hat).frozen k;have y3:=b0.cell 3;have HS:=hide (fun W=>XB (k:Int) N W);have hv:(decide (0<=(k:Int)) && decide ((k:Int)<(N:Int)))=true:=by simp;omega
 rw[hv]at HS;have:(at_:Int)<(N:Int):=by omega
 have:(k:Int)<(N:Int):=by omega
 have k0:=hide i0;rw[g0]at j0 k0 x0 x1 x2 x3 x4 h0 h1 h2 hf y3;simp only[dA.val,dA.cells,Mat.val,hN]at *;simp at x0 x1 x2 x3 x4 h0 y3;clear h hck hL hfit hB b0 f0 d0 he i0 bs hv g0 q0 m0;go_enter Tryz.func111,Tryz.ntmps111;go_wp2_with fail;go_at_call 90;refine(HS.out _).mono ?_;rintro r w1 ⟨rfl,rfl⟩;go_wp2_with fail;go_at_call 135;refine j0.out.mono ?_;rintro r w2 ⟨rfl,o0,p0⟩;have HF:=hide (And.intro o0 (k0.out.trans p0));clear o0 p0 k0 j0;go_wp2;go_ret;exact⟨rfl,HF.out.1,HF.out.2⟩
def wC (base P N:Nat) (err:Int) (e':Eng) (w:World) (r:Ending) (w':World):Prop :=
 r=.returned (.int .i64 err)/\(∃Bv' y',Live base P N e' Bv' y' w')/\Below base w w'
structure EvM where
 kind:Int
 loc:Int
 b:Int
 c:Int
 ra:Option Addr
 rl:Nat
 rc:Nat
 rb:Nat
 ro:Nat
 R:Nat->Int
def EvM.cells (v:EvM):Array Value:=#[.int .i64 v.kind,.int .i64 v.loc,.int .i64 v.b,.int .i64 v.c,.slice v.ra v.rl v.rc]
def EvM.val (v:EvM):Value:=.agg v.cells
def EvM.ev (v:EvM):Ev:=⟨v.kind,v.loc,v.b,v.c,v.rl,v.R⟩
structure EvM.In (v:EvM) (N:Nat) (w:World):Prop where
 ints:Ints v.ra v.rl v.rb v.ro v.R w
 lt:0<v.rl->v.rb<N
 len:v.rl<=maxLen
theorem EvM.In.below {v:EvM}{N k:Nat}{w w':World}(h:v.In N w)(hb:Below k w w')(hk:N<=k):v.In N w':=⟨h.ints.below hb (fun h0=>Nat.lt_of_lt_of_le (h.lt h0) hk),h.lt,h.len⟩
theorem EvM.In.mono {v:EvM}{N k:Nat}{w:World}(h:v.In N w)(hk:N<=k):v.In k w:=⟨h.ints,fun h0=>Nat.lt_of_lt_of_le (h.lt h0) hk,h.len⟩
section
variable {n:dA} {base P N:Nat} {e:Eng} {Bv:Value} {y:Lay} {w:World}
theorem SA (hck:n.net.check=0)(hN:n.nodes=N):0<N/\N<=6/\n.net.N=N/\n.net.nodes=(N:Int):=by
 have g:=Net.good_of_check hck;have h1:=g.lo;have h2:=g.hi;have h3:n.net.nodes=n.nodes:=rfl;refine⟨by omega,by omega,by show n.nodes.toNat=N;omega,by omega⟩
theorem YR (i:Nat)(h:n.In base w)(hck:n.net.check=0)(hN:n.nodes=N)(hL:Live base P N e Bv y w)(hfit:e.Fit n.net)(hi:i<N):
 Calls Tryz.prog 110 #[n.val,.pointer (some ⟨P,0,none⟩),.int .i64 i] w fun r w'=>wC base P N (if 120<e.bag.length+(n.net.hearers i).length then 2 else 0) (if 120<e.bag.length+(n.net.hearers i).length then e else e.tick n.net i) w r w':=by
 by_cases hb:120<e.bag.length+(n.net.hearers i).length
 ·simp only[if_pos hb];exact(pQ n base P N i e Bv y w h hck hN hL hfit.many hb).mono (fun r w' ⟨h1,h2,h3⟩=>⟨h1,⟨Bv,y,h2⟩,h3⟩)
 ·simp only[if_neg hb];exact(QT n base P N i e Bv y w h hck hN hL hfit hi (by omega)).mono (fun r w' h=>h)
theorem wP (i:Nat)(b:Int)(h:n.In base w)(hck:n.net.check=0)(hN:n.nodes=N)(hL:Live base P N e Bv y w)(hfit:e.Fit n.net)(hi:i<N):
 Calls Tryz.prog 111 #[n.val,.pointer (some ⟨P,0,none⟩),.int .i64 i,.int .i64 b] w fun r w'=>wC base P N (if b<0\/n.net.nodes<=b then 5 else 0) (if b<0\/n.net.nodes<=b then e else e.expire n.net i b.toNat) w r w':=by
 obtain⟨h0,h6,d0,f0⟩:=SA hck hN;by_cases hb:b<0\/n.net.nodes<=b
 ·simp only[if_pos hb];exact(vP n base P N i b e Bv y w hN hL (by omega)).mono (fun r w' ⟨h1,h2,h3⟩=>⟨h1,⟨Bv,y,h2⟩,h3⟩)
 ·simp only[if_neg hb];obtain⟨k,rfl⟩:∃k:Nat,b=k:=⟨b.toNat,by omega⟩;exact(ZQ n base P N i k e Bv y w h hck hN hL hfit hi (by omega)).mono (fun r w' ⟨h1,⟨y',h2⟩,h3⟩=>⟨h1,⟨Bv,y',h2⟩,h3⟩)
theorem aN (i:Nat)(v:EvM)(hv:v.In w.heap.size w)(hck:n.net.check=0)(hN:n.nodes=N)(hL:Live base P N e Bv y w)(hi:i<N):
 Calls Tryz.prog 112 #[n.val,.pointer (some ⟨P,0,none⟩),.int .i64 i,.slice v.ra v.rl v.rc] w fun r w'=>wC base P N (n.net.row v.rl v.R) (if n.net.row v.rl v.R=0 then e.restart i v.R else e) w r w':=by
 obtain⟨h0,h6,i0,g0⟩:=SA hck hN;by_cases hl:v.rl=N
 ·have d0:=hv.ints;have f0:=hv.lt;rw[hl]at d0 f0 |-;cases hr:jB N v.R n.a.size with
  | true =>
   have hz:n.net.row N v.R=0:=Net.row_zero.2 ⟨g0.symm,sD.1 hr⟩;rw[hz,if_pos rfl];exact(PO n base P N i v.ra v.rc v.rb v.ro v.R e Bv y w hN h6 h0 hL d0 (f0 h0) hr hi).mono (fun r w' ⟨h1,⟨y',h2⟩,h3⟩=>⟨h1,⟨Bv,y',h2⟩,h3⟩)
  | false =>
   have hz:n.net.row N v.R=5:=by
    unfold Net.row;rw[if_neg (by omega),if_pos];exact hr
   rw[hz,if_neg (by decide)];exact(PL n base P N i v.ra v.rc v.rb v.ro v.R e Bv y w hN h6 hL d0 f0 hr).mono (fun r w' ⟨h1,h2,h3⟩=>⟨h1,⟨Bv,y,h2⟩,h3⟩)
 ·have hz:n.net.row v.rl v.R=1:=by
   unfold Net.row;rw[if_pos (by omega)]
  rw[hz,if_neg (by decide)];exact(QL n base P N i v.ra v.rl v.rc e Bv y w hN hL hl h6 hv.len).mono (fun r w' ⟨h1,h2,h3⟩=>⟨h1,⟨Bv,y,h2⟩,h3⟩)
theorem nQ (i:Nat)(hL:Live base P N e Bv y w)(hi:i<e.bag.length)(hm:e.bag.length<=120):
 Calls Tryz.prog 114 #[.pointer (some ⟨P,0,none⟩),.int .i64 i] w fun r w'=>wC base P N (if 120<=e.bag.length then 2 else 0) (if 120<=e.bag.length then e else e.twice i) w r w':=by
 by_cases hb:120<=e.bag.length
 ·simp only[if_pos hb];exact(wO base P N i e Bv y w hL hb (by omega)).mono (fun r w' ⟨h1,h2,h3⟩=>⟨h1,⟨Bv,y,h2⟩,h3⟩)
 ·simp only[if_neg hb];exact(XR base P N i e Bv y w hL hi (by omega)).mono (fun r w' ⟨h1,⟨B',h2⟩,h3⟩=>⟨h1,⟨B',y,h2⟩,h3⟩)
theorem sQ (i:Nat)(b c:Int)(hL:Live base P N e Bv y w)(hi:i<e.bag.length)(hm:e.bag.length<=120)(hlen:(e.bag.getD i zA).b.length<=60):
 Calls Tryz.prog 116 #[.pointer (some ⟨P,0,none⟩),.int .i64 i,.int .i64 b,.int .i64 c] w fun r w'=>wC base P N (if (b<0\/((e.bag.getD i zA).b.length:Int)<=b)\/(c<1\/255<c) then 3 else 0) (if (b<0\/((e.bag.getD i zA).b.length:Int)<=b)\/(c<1\/255<c) then e else e.spoil i b.toNat (u8 c)) w r w':=by
 by_cases hb:(b<0\/((e.bag.getD i zA).b.length:Int)<=b)\/(c<1\/255<c)
 ·simp only[if_pos hb];exact(rQ base P N i b c e Bv y w hL hi hlen (by omega) hb).mono (fun r w' ⟨h1,h2,h3⟩=>⟨h1,⟨Bv,y,h2⟩,h3⟩)
 ·simp only[if_neg hb];obtain⟨k,rfl⟩:∃k:Nat,b=k:=⟨b.toNat,by omega⟩;exact(ZR base P N i k c e Bv y w hL hi hlen (by omega) (by omega) (by omega) (by omega)).mono (fun r w' ⟨h1,h2,h3⟩=>⟨h1,⟨Bv,y,h2⟩,h3⟩)
end
structure FT (base P N:Nat) (n:dA) (v:EvM) (b3 b5:Nat) (e:Eng) (Bv:Value) (y:Lay) (w1 W:World):Prop where
 live:Live base P N e Bv y W
 net:Blk W b3 n.cells 27
 ev:Blk W b5 v.cells 34
 below:Below w1.heap.size w1 W
theorem FT.keep {base P N:Nat}{n:dA}{v:EvM}{b3 b5:Nat}{e:Eng}{Bv:Value}{y:Lay}{w1 W W':World}(h:FT base P N n v b3 b5 e Bv y w1 W)(hb:Below W.heap.size W W'):FT base P N n v b3 b5 e Bv y w1 W':=⟨h.live.below hb,h.net.below hb h.net.lt,h.ev.below hb h.ev.lt,h.below.trans (hb.mono h.below.size)⟩
theorem wC.from {base P N:Nat}{err:Int}{e':Eng}{w W:World}{r:Ending}{w':World}(hb:Below base w W)(h:wC base P N err e' W r w'):wC base P N err e' w r w':=⟨h.1,h.2.1,hb.trans h.2.2⟩
theorem OP (n:dA)(v:EvM)(base P N:Nat)(e:Eng)(Bv:Value)(y:Lay)(w:World)(h:n.In base w)(hck:n.net.check=0)(hN:n.nodes=N)(hL:Live base P N e Bv y w)(hfit:e.Fit n.net)(hv:v.In base w)(hk:v.kind=1\/v.kind=6\/v.kind=7):
 Calls Tryz.prog 82 #[n.val,.pointer (some ⟨P,0,none⟩),v.val] w fun r w'=>wC base P N (e.stepErr n.net v.ev) (if e.stepErr n.net v.ev=0 then e.step n.net v.ev else e) w r w':=by
 obtain⟨E0,F0,y0,z0⟩:=SA hck hN;obtain⟨kind,loc,b,c,ra,rl,rc,rb,ro,f⟩:=v;have s0:base<=w.heap.size:=Nat.le_of_lt (Nat.lt_of_le_of_lt hL.lp hL.head.lt);have d0:n.cells=#[.int .i64 n.a.size,.slice n.a.B.ga n.a.B.t.len n.a.B.cap,.slice n.a.E.ga n.a.E.t.len n.a.E.cap,.int .i64 N,.slice n.la n.ln n.lc]:=by simp only[dA.cells,Mat.val,hN]
 obtain⟨W1,o0⟩:∃W1,W1=(w.alloc (.cells n.cells 27)).alloc (.cells #[.int .i64 kind,.int .i64 loc,.int .i64 b,.int .i64 c,.slice ra rl rc] 34):=⟨_,rfl⟩;have p0:Below w.heap.size w W1:=by rw[o0];exact((Below.refl _ w).alloc lR _).alloc (by simp) _
 have q0:=p0.mono s0;have A0:=hL.below p0;have h1:=h.below q0 lR;have B0:=(hv.below q0 lR).mono (Nat.le_trans s0 p0.size);have b3:Blk W1 w.heap.size n.cells 27:=by rw[o0];exact(Blk.new w _ _).alloc _
 have b5:Blk W1 (w.heap.size+1) #[.int .i64 kind,.int .i64 loc,.int .i64 b,.int .i64 c,.slice ra rl rc] 34:=by rw[o0];exact Blk.new' (by simp)
 have HX:Hid (∀W,Below W1.heap.size W1 W->(∃Bv' y',Live base P N e Bv' y' W)/\Below base w W):=hide (fun W hb=>⟨⟨Bv,y,A0.below hb⟩,q0.trans (hb.mono (Nat.le_trans s0 p0.size))⟩);have k0:=hide A0;have H1:=hide h1;have u0:=hide B0;have m0:=hide q0;have g0:=hide hfit;have HS:=hide (fun W=>XB loc N W);have x0:=b3.cell 0;have x1:=b3.cell 1;have x2:=b3.cell 2;have x3:=b3.cell 3;have x4:=b3.cell 4;have v0:=b5.cell 0;have v1:=b5.cell 1;have v2:=b5.cell 2;have v4:=b5.cell 4;simp only[d0]at x0 x1 x2 x3 x4;simp at x0 x1 x2 x3 x4 v0 v1 v2 v4;rw[d0]at o0;have w0:=hide o0;have HN:=hide hN;have f0:=hide d0;rw[dA.val,EvM.val,EvM.cells,d0];have C0:kind=1\/kind=6\/kind=7:=hk;clear h hL hv hk s0 d0 p0 q0 A0 h1 B0 b3 b5 o0 hfit hN;by_cases hl:loc<0\/(N:Int)<=loc
 ·have j0:(decide (0<=loc) && decide (loc<(N:Int)))=false:=by simp;omega
  rw[j0]at HS;have h0:e.stepErr n.net (EvM.ev ⟨kind,loc,b,c,ra,rl,rc,rb,ro,f⟩)=5:=by
   unfold Eng.stepErr EvM.ev;simp only[];rw[if_neg (by omega),if_neg (by omega),if_pos (by omega)]
  rw[h0,if_neg (by decide)];have HF:=hide (HX.out W1 (Below.refl _ _));rw[w0.out]at HF;clear h0 j0 HX hl C0 x0 x1 x2 x3 x4 v0 v1 v2 v4 z0 y0;go_enter Tryz.func82,Tryz.ntmps82;go_wp2_with fail;go_at_call 90;refine(HS.out _).mono ?_;rintro r w2 ⟨rfl,rfl⟩;go_wp2;go_ret;exact⟨rfl,HF.out⟩
 obtain⟨i,rfl⟩:∃i:Nat,loc=i:=⟨loc.toNat,by omega⟩;have hi:i<N:=by omega
 have j0:(decide (0<=(i:Int)) && decide ((i:Int)<(N:Int)))=true:=by simp;omega
 rw[j0]at HS;rcases C0 with rfl | rfl | rfl
 ·have h0:e.stepErr n.net (EvM.ev ⟨1,(i:Int),b,c,ra,rl,rc,rb,ro,f⟩)=if 120<e.bag.length+(n.net.hearers i).length then 2 else 0:=by
   unfold Eng.stepErr EvM.ev;simp only[];rw[if_neg (by omega),if_neg (by omega),if_neg (by omega)];rfl
  have i0:e.step n.net (EvM.ev ⟨1,(i:Int),b,c,ra,rl,rc,rb,ro,f⟩)=e.tick n.net i:=by
   unfold Eng.step EvM.ev;rfl
  have HC:=hide (YR i H1.out hck HN.out k0.out g0.out hi);have he:(if ((if 120<e.bag.length+(n.net.hearers i).length then 2 else 0:Int))=0 then e.tick n.net i else e)=(if 120<e.bag.length+(n.net.hearers i).length then e else e.tick n.net i):=by
   by_cases hq:120<e.bag.length+(n.net.hearers i).length
   ·rw[if_pos hq,if_pos hq];rfl
   ·rw[if_neg hq,if_neg hq];rfl
  rw[h0,i0,he];clear he;generalize (if 120<e.bag.length+(n.net.hearers i).length then e else e.tick n.net i)=e2 at HC |-;generalize (if 120<e.bag.length+(n.net.hearers i).length then (2:Int) else 0)=er at HC |-;rw[dA.val,f0.out]at HC;generalize hans:wC base P N=ans at HC |-;have HA:Hid (∀err e' r w',ans err e' W1 r w'->ans err e' w r w'/\r=.returned (.int .i64 err)):=hide (by rw[<-hans];intro err e' r w' hh;exact⟨hh.from m0.out,hh.1⟩);clear h0 i0 HX j0 hl hans z0 y0 k0 H1 u0 m0 g0;rw[w0.out]at HC HA;clear x0 x1 x2 x3 x4 v0 v1 v2 v4;go_enter Tryz.func82,Tryz.ntmps82;go_wp2_with fail;go_at_call 90;refine(HS.out _).mono ?_;rintro r w2 ⟨rfl,rfl⟩;go_wp2_with fail;go_at_call 110;refine HC.out.mono ?_;intro r w3 hh;obtain⟨h2,rfl⟩:=HA.out _ _ _ _ hh;have H2:=hide h2;clear hh h2 HC HA;go_wp2
  first
  | exact H2.out
  | (go_ret;exact H2.out)
 ·have h0:e.stepErr n.net (EvM.ev ⟨6,(i:Int),b,c,ra,rl,rc,rb,ro,f⟩)=if b<0\/n.net.nodes<=b then 5 else 0:=by
   unfold Eng.stepErr EvM.ev;simp only[];rw[if_neg (by omega),if_neg (by omega),if_neg (by omega)];rfl
  have i0:e.step n.net (EvM.ev ⟨6,(i:Int),b,c,ra,rl,rc,rb,ro,f⟩)=e.expire n.net i b.toNat:=by
   unfold Eng.step EvM.ev;rfl
  have HC:=hide (wP i b H1.out hck HN.out k0.out g0.out hi);have he:(if ((if b<0\/n.net.nodes<=b then 5 else 0:Int))=0 then e.expire n.net i b.toNat else e)=(if b<0\/n.net.nodes<=b then e else e.expire n.net i b.toNat):=by
   by_cases hq:b<0\/n.net.nodes<=b
   ·rw[if_pos hq,if_pos hq];rfl
   ·rw[if_neg hq,if_neg hq];rfl
  rw[h0,i0,he];clear he;generalize (if b<0\/n.net.nodes<=b then e else e.expire n.net i b.toNat)=e2 at HC |-;generalize (if b<0\/n.net.nodes<=b then (5:Int) else 0)=er at HC |-;rw[dA.val,f0.out]at HC;generalize hans:wC base P N=ans at HC |-;have HA:Hid (∀err e' r w',ans err e' W1 r w'->ans err e' w r w'/\r=.returned (.int .i64 err)):=hide (by rw[<-hans];intro err e' r w' hh;exact⟨hh.from m0.out,hh.1⟩);clear h0 i0 HX j0 hl hans z0 y0 k0 H1 u0 m0 g0;rw[w0.out]at HC HA;clear x0 x1 x2 x3 x4 v0 v1 v2 v4;go_enter Tryz.func82,Tryz.ntmps82;go_wp2_with fail;go_at_call 90;refine(HS.out _).mono ?_;rintro r w2 ⟨rfl,rfl⟩;go_wp2_with fail;go_at_call 111;refine HC.out.mono ?_;intro r w3 hh;obtain⟨h2,rfl⟩:=HA.out _ _ _ _ hh;have H2:=hide h2;clear hh h2 HC HA;go_wp2
  first
  | exact H2.out
  | (go_ret;exact H2.out)
 ·have h0:e.stepErr n.net (EvM.ev ⟨7,(i:Int),b,c,ra,rl,rc,rb,ro,f⟩)=n.net.row rl f:=by
   unfold Eng.stepErr EvM.ev;simp only[];rw[if_neg (by omega),if_neg (by omega),if_neg (by omega)];rfl
  have i0:e.step n.net (EvM.ev ⟨7,(i:Int),b,c,ra,rl,rc,rb,ro,f⟩)=e.restart i f:=by
   unfold Eng.step EvM.ev;rfl
  have HC:=hide (aN i ⟨7,i,b,c,ra,rl,rc,rb,ro,f⟩ u0.out hck HN.out k0.out hi);rw[h0,i0];have D0:=HC;clear HC;have HC:Hid (Calls Tryz.prog 112 #[n.val,.pointer (some ⟨P,0,none⟩),.int .i64 i,.slice ra rl rc] W1 fun r w'=>wC base P N (n.net.row rl f) (if n.net.row rl f=0 then e.restart i f else e) W1 r w'):=D0;clear D0;generalize (if n.net.row rl f=0 then e.restart i f else e)=e2 at HC |-;generalize n.net.row rl f=er at HC |-;rw[dA.val,f0.out]at HC;generalize hans:wC base P N=ans at HC |-;have HA:Hid (∀err e' r w',ans err e' W1 r w'->ans err e' w r w'/\r=.returned (.int .i64 err)):=hide (by rw[<-hans];intro err e' r w' hh;exact⟨hh.from m0.out,hh.1⟩);clear h0 i0 HX j0 hl hans z0 y0 k0 H1 u0 m0 g0;rw[w0.out]at HC HA;clear x0 x1 x2 x3 x4 v0 v1 v2 v4;go_enter Tryz.func82,Tryz.ntmps82;go_wp2_with fail;go_at_call 90;refine(HS.out _).mono ?_;rintro r w2 ⟨rfl,rfl⟩;go_wp2_with fail;go_at_call 112;refine HC.out.mono ?_;intro r w3 hh;obtain⟨h2,rfl⟩:=HA.out _ _ _ _ hh;have H2:=hide h2;clear hh h2 HC HA;go_wp2
  first
  | exact H2.out
  | (go_ret;exact H2.out)
end Go.Proofs.YtjhkadffaephmacGreat
