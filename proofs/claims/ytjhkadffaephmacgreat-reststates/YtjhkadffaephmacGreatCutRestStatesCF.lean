import Derived.Test.YtjhkadffaephmacGreatCutRestStatesCE
namespace Go.Proofs.YtjhkadffaephmacGreat
set_option maxHeartbeats 16000000
set_option maxRecDepth 100000
open Go.RowKit
theorem Live.right {base P N:Nat}{e:Eng}{Bv:Value}{y:Lay}{W:World}{n:dA}(h:Live base P N e Bv y W)(hck:n.net.check=0)(hN:n.nodes=N)(hfit:e.Fit n.net):
 ∃m:iA,m.cells=#[.slice (some ⟨y.G,0,none⟩) N y.gc,Bv]/\m.In W.heap.size W/\m.eng=e/\m.Right n.net N/\m.bag.bn<=m.bag.bc:=by
 obtain⟨g0,h0,s0,u0⟩:=SA hck hN;obtain⟨m,i0,d0,f0,j0,k0,m0,o0,p0,q0,_,_⟩:=h.outF g0 h0 hfit.many (fun m hm=>(hfit.mail m hm).2.2);exact⟨m,i0,d0,f0,⟨hck,j0,k0,m0,fun i hi q hq=>by rw[f0];exact o0 i hi q hq,by rw[p0];exact hfit.many,by rw[f0];exact hfit⟩,q0.cap⟩
def Eng.untell (e:Eng) (i k:Nat):Eng:={ e with told:=fun a b=>if a=i/\b=k then false else e.told a b }
theorem Eng.Fit.untell {n:Net}{e:Eng}(h:e.Fit n)(i k:Nat):(e.untell i k).Fit n :=
 ⟨h.R,fun a b j ha hb hj ht=>by
  have ht':(if a=i/\b=k then false else e.told a b)=true:=ht;split at ht'
  ·cases ht'
  ·exact h.D a b j ha hb hj ht',h.many,h.mail⟩
theorem wK (n:dA)(x:iA)(v:EvM)(N:Nat)(w:World)(h:n.In w.heap.size w)(hx:x.In w.heap.size w)(hv:v.In w.heap.size w)(hN:n.nodes=N)(hR:x.Right n.net N)(_hcap:x.bag.bn<=x.bag.bc)(k:Nat)(hk:v.loc=(k:Int))(hkd:v.kind=6)(hkN:k<N):
 Calls Tryz.prog 19 #[n.val,x.val,v.val] w fun r w'=>EC n.net x v.ev w r w':=by
 obtain⟨k2,l2,H1,i1⟩:=SA hR.check hN;have X0:n.net.nodes=n.nodes:=rfl;have z0:x.eng.bag.length=x.bag.bn:=by show ((List.range x.bag.bn).map x.bag.M).length=_;simp
 have:=hR.bn;have A0:=Eng.err_expire (n:=n.net) (e:=x.eng) (v:=v.ev) hkd (show 0<=v.loc by omega) (show v.loc<n.net.nodes by omega);have B0:Hid (x.eng.stepErr n.net v.ev=if v.b<0\/(N:Int)<=v.b then 5 else 0):=hide (by rw[A0,i1];rfl);have C0:Hid (∀b:Nat,v.b=b->x.eng.step n.net v.ev=(x.eng.untell k b).look n.net k):=hide (fun b hb=>by rw[Eng.does_expire (v:=v.ev) hkd];show x.eng.expire n.net v.loc.toNat v.b.toNat=_;rw[hk,hb];rfl);have Y0:=hide (fun W (hb:Below w.heap.size w W)=>JC x N W (hx.grown hb) hR.gn k2 l2 hR.bn hR.rl hR.tl hR.ll);have t1:=hide (fun (m:iA) W (hb:Below w.heap.size w W) (hm:m.In W.heap.size W) (hr:m.Right n.net N)=>fF n m N k W (h.grown hb) hm hN hr hkN);have D0:n.cells=#[.int .i64 n.a.size,.slice n.a.B.ga n.a.B.t.len n.a.B.cap,.slice n.a.E.ga n.a.E.t.len n.a.E.cap,.int .i64 N,.slice n.la n.ln n.lc]:=by simp only[dA.cells,Mat.val,hN]
 simp only[iA.val,iA.cells,dA.val,D0]at Y0 t1;clear A0 D0;obtain⟨W0,K0⟩:∃W0,W0=(((w.alloc (.cells n.cells 27)).alloc (.cells x.cells 31)).alloc (.cells v.cells 34)).alloc (.cells #[.slice none 0 0,.slice none 0 0] 31):=⟨_,rfl⟩;have u1:SB w n x v W0:=by rw[K0];exact SB.start w n x v
 have y1:W0.heap.size=w.heap.size+4:=by rw[K0];simp
 have E0:n.cells=#[.int .i64 n.a.size,.slice n.a.B.ga n.a.B.t.len n.a.B.cap,.slice n.a.E.ga n.a.E.t.len n.a.E.cap,.int .i64 N,.slice n.la n.ln n.lc]:=by simp only[dA.cells,Mat.val,hN]
 have O0:v.cells=#[.int .i64 6,.int .i64 (k:Int),.int .i64 v.b,.int .i64 v.c,.slice v.ra v.rl v.rc]:=by rw[<-hkd,<-hk];rfl
 have R0:x.cells=#[.slice x.rs.ga x.rs.gn x.rs.gc,.slice x.bag.ba x.bag.bn x.bag.bc]:=rfl;have:=hide h;have:=hide hx;have:=hide hv;have HR:=hide hR;have f0:=hide u1;have R1:=hide y1;have S0:=hide E0;have F0:=hide O0;have Z0:=hide R0;have HN:=hide hN;have:=hide z0;have:=hide i1;have S1:=hide H1;have:=hide hkd;have:=hide hk;have d1:=hide (fun (i:Int) (W:World)=>aC n i W (by omega) (by omega));simp only[dA.val,E0,hN]at d1;rw[E0,O0,R0]at K0;simp only[dA.val,iA.val,EvM.val,E0,O0,R0];have T1:=hide K0;have v0:=f0.out.bv.cell 0;have v1:=f0.out.bv.cell 1;have v2:=f0.out.bv.cell 2;have v3:=f0.out.bv.cell 3;have v4:=f0.out.bv.cell 4;rw[F0.out]at v0 v1 v2 v3 v4;simp at v0 v1 v2 v3 v4;have n0:=f0.out.bn.cell 0;have n1:=f0.out.bn.cell 1;have n2:=f0.out.bn.cell 2;have n3:=f0.out.bn.cell 3;have n4:=f0.out.bn.cell 4;rw[S0.out]at n0 n1 n2 n3 n4;simp at n0 n1 n2 n3 n4;have x0:=f0.out.bx.cell 0;have x1:=f0.out.bx.cell 1;rw[Z0.out]at x0 x1;simp at x0 x1;clear h hx hv hR u1 y1 E0 O0 R0 hN K0 z0 i1 H1 hkd X0 hk;go_enter Tryz.func19,Tryz.ntmps19;go_wp2_with fail;rw[<-T1.out];go_at_call 52;refine(jA _ _ _ _).mono ?_;rintro e w1 ⟨rfl,L0⟩;rw[L0];clear L0;have z1:(decide ((1:Int)<=6) && decide ((6:Int)<=7))=true:=by decide
 rw[z1];clear z1;go_wp2_with fail;go_at_call 52;refine(jA _ _ _ _).mono ?_;rintro e w1 ⟨rfl,L0⟩;rw[L0];clear L0;have A1:(decide ((2:Int)<=6) && decide ((6:Int)<=5))=false:=by decide
 rw[A1];clear A1;go_wp2_with fail;go_at_call 33;refine(d1.out _ _).mono ?_;rintro e W1 ⟨rfl,I1⟩;have G0:Hid (Below W0.heap.size W0 W1):=hide (by rw[I1];exact(Below.refl _ _).alloc lR _);have g0:=hide (f0.out.keep G0.out);have U1:Hid (w.heap.size+4<=W1.heap.size):=hide (by have:=G0.out.size;have:=R1.out;omega);clear I1  v0 v1 v2 v3 v4 n0 n1 n2 n3 n4 x0 x1;have v0:=g0.out.bv.cell 0;have v1:=g0.out.bv.cell 1;have v2:=g0.out.bv.cell 2;have v3:=g0.out.bv.cell 3;have v4:=g0.out.bv.cell 4;rw[F0.out]at v0 v1 v2 v3 v4;simp at v0 v1 v2 v3 v4;have n0:=g0.out.bn.cell 0;have n1:=g0.out.bn.cell 1;have n2:=g0.out.bn.cell 2;have n3:=g0.out.bn.cell 3;have n4:=g0.out.bn.cell 4;rw[S0.out]at n0 n1 n2 n3 n4;simp at n0 n1 n2 n3 n4;have x0:=g0.out.bx.cell 0;have x1:=g0.out.bx.cell 1;rw[Z0.out]at x0 x1;simp at x0 x1;have u0:(decide (0<=(k:Int)) && decide ((k:Int)<=(N:Int)-1))=true:=by simp;omega
 rw[u0];clear u0;go_wp2_with fail;go_at_call 33;refine(d1.out _ _).mono ?_;rintro e W2 ⟨rfl,J1⟩;have H0:Hid (Below W1.heap.size W1 W2):=hide (by rw[J1];exact(Below.refl _ _).alloc lR _);have d0:=hide (g0.out.keep H0.out);have B1:Hid (w.heap.size+4<=W2.heap.size):=hide (by have:=H0.out.size;have:=U1.out;omega);clear J1  v0 v1 v2 v3 v4 n0 n1 n2 n3 n4 x0 x1;have v0:=d0.out.bv.cell 0;have v1:=d0.out.bv.cell 1;have v2:=d0.out.bv.cell 2;have v3:=d0.out.bv.cell 3;have v4:=d0.out.bv.cell 4;rw[F0.out]at v0 v1 v2 v3 v4;simp at v0 v1 v2 v3 v4;have n0:=d0.out.bn.cell 0;have n1:=d0.out.bn.cell 1;have n2:=d0.out.bn.cell 2;have n3:=d0.out.bn.cell 3;have n4:=d0.out.bn.cell 4;rw[S0.out]at n0 n1 n2 n3 n4;simp at n0 n1 n2 n3 n4;have x0:=d0.out.bx.cell 0;have x1:=d0.out.bx.cell 1;rw[Z0.out]at x0 x1;simp at x0 x1;by_cases V0:v.b<0\/(N:Int)<=v.b
 ·have I0:(decide (0<=v.b) && decide (v.b<=(N:Int)-1))=false:=by simp;omega
  rw[I0];clear I0;have f1:Hid (x.eng.stepErr n.net v.ev=5):=hide (by rw[B0.out,if_pos V0]);clear V0;have HF:=hide (jE (er:=5) d0.out (f1.out) (by decide));have c7:=(d0.out.br.set 0 (.slice none 0 0)).set 1 (.slice none 0 0);have e0:=c7.cell 0;have e1:=c7.cell 1;simp at e0 e1;have r0:=d0.out.br.cell 0;have r1:=d0.out.br.cell 1;have X1:=d0.out.br.frozen 0;have Y1:=d0.out.br.frozen 1;simp at r0 r1;clear c7;go_wp2;exact bodyPost_ret (v:=.tuple #[.agg #[.slice none 0 0,.slice none 0 0],.int .i64 5]) (by simp[results,Tryz.results19,go_sem,e0,e1]) rfl HF.out
 obtain⟨b,hb⟩:∃b:Nat,v.b=b:=⟨v.b.toNat,by omega⟩;have C1:b<N:=by omega
 have I0:(decide (0<=v.b) && decide (v.b<=(N:Int)-1))=true:=by simp;omega
 rw[I0];have f1:Hid (x.eng.stepErr n.net v.ev=0):=hide (by rw[B0.out,if_neg V0]);have Z1:=hide (C0.out b hb);rw[hb]at v2;have HC:=hide (Y0.out W2 d0.out.below);have a2:=hide hb;clear I0 V0 hb Y0;go_wp2_with fail;go_at_call 58;refine HC.out.mono ?_;rintro r W3 ⟨⟨P0,Bv,y,j1,rfl⟩,u0⟩;obtain⟨ba,bc,U0⟩:=QA j1.live.bag;obtain⟨P,hP⟩:∃P,P=W3.heap.size:=⟨_,rfl⟩;obtain⟨W4,M0⟩:∃W4,W4=W3.alloc (.cells #[.slice (some ⟨y.G,0,none⟩) N y.gc,Bv] 31):=⟨_,rfl⟩;have J0:Below W3.heap.size W3 W4:=by rw[M0];exact(Below.refl _ W3).alloc lR _
 have m0:=u0.trans (J0.mono u0.size);have g1:=j1.rebox;rw[<-M0,<-hP]at g1;have j0:=hide g1.live;have w0:=hide (d0.out.keep m0);have b2:Hid (w.heap.size+4<=W4.heap.size):=hide (by have:=m0.size;have:=B1.out;omega);rw[U0]at M0;rw[U0];have d2:=hide M0;have HP:=hide hP;have D1:=hide U0;clear j1 u0 J0 m0 g1 M0 hP HC  v0 v1 v2 v3 v4 n0 n1 n2 n3 n4 x0 x1;go_wp2_with fail;rw[<-d2.out,<-HP.out];have o0:=(j0.out.below (W':=W4.drew) ⟨rfl,rfl,rfl,lR,fun _ _=>rfl⟩).setTold hkN C1 false (x.eng.D k b) none 0 0 0 (fun h0=>by cases h0) (fun h0=>by cases h0);simp only[Bool.false_eq_true,if_false]at o0;have k0:=o0.congr (e':=x.eng.untell k b) (fun _ _ _ _=>rfl) (fun _ _ _ _=>rfl) (fun r q c _ _ _ ht=>by
  show (if r=k/\q=b then x.eng.D k b else x.eng.D r q) c=x.eng.D r q c;split
  ·next hh=>rw[hh.1,hh.2]
  ·rfl) rfl
 obtain⟨y5,K1,k1,o1⟩:∃y5:Lay,Live W2.heap.size P N (x.eng.untell k b) Bv y5 (W4.drew.setCell ⟨y.Tb k,b,none⟩ (.slice none 0 0))/\y5.G=y.G/\y5.gc=y.gc:=⟨_,k0,rfl,rfl⟩;obtain⟨W5,N0⟩:∃W5,W5=W4.drew.setCell ⟨y.Tb k,b,none⟩ (.slice none 0 0):=⟨_,rfl⟩;have f2:=j0.out.lt k hkN;have i0:Hid (SB w n x v W5):=hide (by rw[N0];exact SB.set (W:=W4.drew) (w0.out.keep ⟨rfl,rfl,rfl,lR,fun _ _=>rfl⟩) (by have:=B1.out;omega) _ _);have T0:Live W2.heap.size P N (x.eng.untell k b) Bv y5 W5:=by rw[N0];exact K1
 have E1:W5.heap.size=W4.heap.size:=by rw[N0];exact(show (W4.setCell ⟨y.Tb k,b,none⟩ (.slice none 0 0)).heap.size=_ by simp)
 obtain⟨m5,L1,M1,N1,O1,_⟩:=T0.right HR.out.check HN.out (HR.out.fit.untell k b);have h1:=hide (t1.out m5 W5 i0.out.below M1 O1);have F1:#[Value.slice m5.rs.ga m5.rs.gn m5.rs.gc,.slice m5.bag.ba m5.bag.bn m5.bag.bc]=#[.slice (some ⟨y.G,0,none⟩) N y.gc,Bv]:=by rw[<-k1,<-o1,<-L1];rfl
 rw[F1,N1,D1.out]at h1;have p0:=T0.head.cell 0;have p1:=T0.head.cell 1;rw[k1,o1,D1.out]at p0 p1;simp at p0 p1;have q0:=j0.out.head.cell 0;have q1:=j0.out.rtrs.cell (k*2+1);rw[j0.out.r1 k hkN]at q1;have q2:=(j0.out.tolds k hkN).cell b;rw[j0.out.t0 k hkN b C1]at q2;have G1:=(j0.out.tolds k hkN).frozen b;simp at q0;have Q0:=hide q0;have Q1:=hide q1;have Q2:=hide q2;have g2:=hide G1;have h2:=hide N0;have i2:Hid (w.heap.size+3<W5.heap.size):=hide (by rw[E1];have:=b2.out;omega);have v0:=w0.out.bv.cell 0;have v1:=w0.out.bv.cell 1;have v2:=w0.out.bv.cell 2;have v3:=w0.out.bv.cell 3;have v4:=w0.out.bv.cell 4;rw[F0.out]at v0 v1 v2 v3 v4;simp at v0 v1 v2 v3 v4;have V1:=hide v1;have V2:=hide v2;rw[a2.out]at V2;have v0:=i0.out.bv.cell 0;have v1:=i0.out.bv.cell 1;have v2:=i0.out.bv.cell 2;have v3:=i0.out.bv.cell 3;have v4:=i0.out.bv.cell 4;rw[F0.out]at v0 v1 v2 v3 v4;simp at v0 v1 v2 v3 v4;have n0:=i0.out.bn.cell 0;have n1:=i0.out.bn.cell 1;have n2:=i0.out.bn.cell 2;have n3:=i0.out.bn.cell 3;have n4:=i0.out.bn.cell 4;rw[S0.out]at n0 n1 n2 n3 n4;simp at n0 n1 n2 n3 n4;have:(k:Int)<(N:Int):=by omega
 have:(b:Int)<(N:Int):=by omega
 have j2:=hide hkN;clear o0 k0 K1 T0 L1 M1 N1 O1 F1 q0 q1 q2 G1 f2 E1 k1 o1 N0 U0;refine KA 10 _ (fun W=>W=W4.drew) (oC [.pointer (some ⟨P,0,none⟩),.slice (some ⟨y.G,0,none⟩) N y.gc,.pointer (some ⟨w.heap.size+1+1,1,none⟩),.int .i64 (k:Int),.pointer (some ⟨y.G,k*2,none⟩),.pointer (some ⟨y.G,k*2+1,none⟩),.slice (some ⟨y.Tb k,0,none⟩) N (y.Tc k),.pointer (some ⟨w.heap.size+1+1,2,none⟩),.int .i64 (b:Int),.pointer (some ⟨y.Tb k,b,none⟩)]) (fun _ W=>W=W5) (fun _ _ _=>True) (by kernel_rfl) (by kernel_rfl) (by kernel_rfl) (by kernel_rfl) (by kernel_rfl) rfl rfl ⟨?_,?_,?_,?_,?_,?_,?_,?_,?_,?_,trivial⟩ ?_ trivial ?_;rotate_right
 ·intro t W hG _;simp only[fill,Act.put,sX,sY,sU];subst hG;go_wp2_with fail;go_at_call 54;refine h1.out.mono ?_;rintro r W6 ⟨⟨P6,m2,y6,s1,rfl⟩,P1⟩;have y0:=hide (i0.out.keep P1);obtain⟨o2,p2,s0⟩:=QA s1.live.bag;have HF:=hide (step_fin s1.live y0.out (by have:=i2.out;omega) HR.out.check HN.out ((HR.out.fit.untell k b).look (Net.good_of_check HR.out.check) (by have:=S1.out;have:=j2.out;omega)) Z1.out.symm f1.out);have c7:=(y0.out.br.set 0 (.slice (some ⟨y6.G,0,none⟩) N y6.gc)).set 1 m2;have e0:=c7.cell 0;have e1:=c7.cell 1;simp at e0 e1;have r0:=y0.out.br.cell 0;have r1:=y0.out.br.cell 1;have X1:=y0.out.br.frozen 0;have Y1:=y0.out.br.frozen 1;simp at r0 r1;rw[s0]at HF e0 e1;rw[s0];generalize (Eng.look n.net (x.eng.untell k b) k).bag.length=bl at *;clear c7 s0 s1 P1 h1 v0 v1 v2 v3 v4 n0 n1 n2 n3 n4 p0 p1;go_wp2;exact bodyPost_ret (v:=.tuple #[.agg #[.slice (some ⟨y6.G,0,none⟩) N y6.gc,.slice o2 bl p2],.int .i64 0]) (by simp[results,Tryz.results19,go_sem,e0,e1]) rfl HF.out
 rotate_right
 ·intro t W hG hE _ K hK;have e9:=aA (hE 9 (by omega)) rfl;subst hG;simp only[fill,Act.put,sX,sY,sU,e9]at hK |-;rw[if_pos (by rfl)];have cq:W4.drew.cell? ⟨y.Tb k,b,none⟩=some (.slice (y.ta k b) (if x.eng.told k b=true then N else 0) (y.tc k b)):=Q2.out;have:W4.drew.frozen? ⟨y.Tb k,b,none⟩=false:=g2.out;go_simp;exact hK undef _ h2.out.symm
 all_goals intro t W hG hp ht K hK
 all_goals clear ht
 all_goals subst hG
 all_goals simp only[fill,Act.put,sX,sY,sU]at hK |-
 ·rw[if_pos (by rfl)];go_simp;exact hK _ _ rfl rfl (fun _ _ _ h=>h)
 ·have e0:=aA (hp 0 (by decide)) rfl;have cq:W4.drew.cell? ⟨P,0,none⟩=some (.slice (some ⟨y.G,0,none⟩) N y.gc):=Q0.out;simp only[e0]at hK |-;rw[if_pos (by rfl)];go_simp;exact hK _ _ rfl rfl (fun _ _ _ h=>h)
 ·rw[if_pos (by rfl)];go_simp;exact hK _ _ rfl rfl (fun _ _ _ h=>h)
 ·have e2:=aA (hp 2 (by decide)) rfl;have cq:W4.drew.cell? ⟨w.heap.size+2,1,none⟩=some (.int .i64 (k:Int)):=V1.out;simp only[e2]at hK |-;rw[if_pos (by rfl)];go_simp;exact hK _ _ rfl rfl (fun _ _ _ h=>h)
 ·have e1:=aA (hp 1 (by decide)) rfl;have e3:=aA (hp 3 (by decide)) rfl;simp only[e1,e3]at hK |-;rw[if_pos (by rfl)];go_simp;exact hK _ _ rfl rfl (fun _ _ _ h=>h)
 ·have e4:=aA (hp 4 (by decide)) rfl;simp only[e4]at hK |-;rw[if_pos (by rfl)];go_simp;exact hK _ _ rfl rfl (fun _ _ _ h=>h)
 ·have e5:=aA (hp 5 (by decide)) rfl;have cq:W4.drew.cell? ⟨y.G,k*2+1,none⟩=some (.slice (some ⟨y.Tb k,0,none⟩) N (y.Tc k)):=Q1.out;simp only[e5]at hK |-;rw[if_pos (by rfl)];go_simp;exact hK _ _ rfl rfl (fun _ _ _ h=>h)
 ·rw[if_pos (by rfl)];go_simp;exact hK _ _ rfl rfl (fun _ _ _ h=>h)
 ·have e7:=aA (hp 7 (by decide)) rfl;have cq:W4.drew.cell? ⟨w.heap.size+2,2,none⟩=some (.int .i64 (b:Int)):=V2.out;simp only[e7]at hK |-;rw[if_pos (by rfl)];go_simp;exact hK _ _ rfl rfl (fun _ _ _ h=>h)
 ·have e6:=aA (hp 6 (by decide)) rfl;have e8:=aA (hp 8 (by decide)) rfl;simp only[e6,e8]at hK |-;rw[if_pos (by rfl)];go_simp;exact hK _ _ rfl rfl (fun _ _ _ h=>h)
theorem TP (W:World)(base:Nat)(V:Value)(l:List xB)(m:xB)(ho:W.ownsRow base 59 3 V l.length (uA l))(hk:l.length<=200)(hC:base<=W.heap.size){s:Nat}(hs:Blk W s #[.int .i64 m.F,.int .i64 m.T,.string ⟨m.b.toArray⟩] 59)(ty:TypeId):
 ∃g cap W4,(Builtin.append_ #[29,29] ty #[V,.slice (some ⟨s,0,none⟩) 1 1]).run Tryz.prog W=.ok (.slice (some ⟨g,0,none⟩) (l.length+1) cap) W4 /\
  W4.ownsRow base 59 3 (.slice (some ⟨g,0,none⟩) (l.length+1) cap) (l ++ [m]).length (uA (l ++ [m]))/\W.grownBy W4 V.ownBlock/\(V.ownBlock=some g\/W.heap.size<=g):=by
 obtain⟨i0,g0,hq⟩:∃i,Tryz.prog.info? 59=some i/\(i.zero.map (fun z=>z.cells.size),i.size,i.bytes)=(some 3,3,32):=Option.map_eq_some_iff.1 Tryz.infoMail;obtain⟨z,hz,h0⟩:∃z,i0.zero=some z/\z.cells.size=3:=by
  have:=congrArg Prod.fst hq;simpa [Option.map_eq_some_iff] using this
 have d0:i0.size=3:=congrArg (fun x=>x.2.1) hq;have f0:i0.bytes=32:=congrArg (fun x=>x.2.2) hq;obtain⟨g,cap,w',hr,h2,h3,h4,h5⟩:=run_append_lies (P:=Tryz.prog) W 29 ty base 59 i0 z 3 32 Tryz.underlying29 g0 hz d0 f0 h0 (by decide) V l.length _ ho ⟨s,0,none⟩ 1 1 [.int .i64 m.F,.int .i64 m.T,.string ⟨m.b.toArray⟩] rfl (World.news_of_block (cs:=#[.int .i64 m.F,.int .i64 m.T,.string ⟨m.b.toArray⟩]) hs) (by simp[Value.oneCell']) (by decide) (by unfold maxLen;omega) (by omega) (by omega) _ rfl;refine⟨g,cap,w',hr,?_,h3,h4.imp id (fun h=>by omega)⟩;rw[fD,List.length_append];exact h2
theorem SB.keepLo {w:World}{n:dA}{x:iA}{v:EvM}{W W':World}{lo:Nat}(h:SB w n x v W)(hb:Below lo W W')(hlo:w.heap.size+3<lo):SB w n x v W' :=
 ⟨h.below.trans (hb.mono (by omega)),h.bn.below hb (by omega),h.bx.below hb (by omega),h.bv.below hb (by omega),h.br.below hb (by omega)⟩
structure ED (w:World) (n:dA) (x:iA) (v:EvM) (lo P N:Nat) (e:Eng) (m:xB) (Bv:Value) (y:Lay) (W4:World) (a s:Bool) (W:World):Prop where
 old:a=false->Below W4.heap.size W4 W
 mid:s=false->W4.grownBy W Bv.ownBlock
 fin:s=true->∃Bv',Live lo P N { e with bag:=e.bag ++ [m] } Bv' y W/\SB w n x v W/\W4.heap.size<=W.heap.size/\(∀b,b<W4.heap.size->Bv.ownBlock≠some b->b≠P->W.heap[b]? = W4.heap[b]?)/\(∀b,b<W4.heap.size->Bv'.ownBlock=some b->Bv.ownBlock=some b)
def oD (vs:List Value) (p8 p9 pS lo:Nat) (l:List xB) (m:xB) (Bv:Value) (W4:World) (a s:Bool) (q:Nat) (v:Value) (W:World):Prop :=
 if q=p8 then (a=false->∃g,v=.slice (some ⟨g,0,none⟩) 1 1/\Blk W g #[.int .i64 m.F,.int .i64 m.T,.string ⟨m.b.toArray⟩] 59)
 else if q=p9 then (s=false->∃g cap,v=.slice (some ⟨g,0,none⟩) (l.length+1) cap/\W.ownsRow lo 59 3 (.slice (some ⟨g,0,none⟩) (l.length+1) cap) (l ++ [m]).length (uA (l ++ [m]))/\(Bv.ownBlock=some g\/W4.heap.size<=g))
 else if q=pS then True
 else vs[q]? = some v
section
variable {w:World} {n:dA} {x:iA} {v:EvM} {lo P N:Nat} {e:Eng} {m:xB} {Bv:Value} {y:Lay} {W4 W W':World} {a s:Bool} {vs:List Value} {p8 p9 pS:Nat} {l:List xB} {q:Nat} {u u':Value}
theorem EL (hb:Below W.heap.size W W')(h:oD vs p8 p9 pS lo l m Bv W4 a s q u W):oD vs p8 p9 pS lo l m Bv W4 a s q u W':=by
 unfold oD at h |-;split
 ·next e1=>rw[if_pos e1]at h;exact fun h0=>by obtain⟨g,h1,h2⟩:=h h0;exact⟨g,h1,h2.below hb h2.lt⟩
 ·next e1 =>
  rw[if_neg e1]at h;split
  ·next e2=>rw[if_pos e2]at h;exact fun h0=>by obtain⟨g,c,h1,h2,h3⟩:=h h0;exact⟨g,c,h1,ZA h2 hb,h3⟩
  ·next e2=>rw[if_neg e2]at h;exact h
theorem uB (h8:q≠p8)(h9:q≠p9)(hS:q≠pS)(h:vs[q]? = some u):oD vs p8 p9 pS lo l m Bv W4 a s q u W:=by
 unfold oD;rw[if_neg h8,if_neg h9,if_neg hS];exact h
theorem vB (h:oD vs p8 p9 pS lo l m Bv W4 a s q u W)(h8:q≠p8)(h9:q≠p9)(hS:q≠pS)(hu:vs[q]? = some u'):u=u':=by
 unfold oD at h;rw[if_neg h8,if_neg h9,if_neg hS,hu]at h;exact(Option.some.inj h).symm
theorem wM:oD vs p8 p9 pS lo l m Bv W4 a s p8 u W↔(a=false->∃g,u=.slice (some ⟨g,0,none⟩) 1 1/\Blk W g #[.int .i64 m.F,.int .i64 m.T,.string ⟨m.b.toArray⟩] 59):=by
 unfold oD;rw[if_pos rfl]
theorem vM (h:p9≠p8):oD vs p8 p9 pS lo l m Bv W4 a s p9 u W↔(s=false->∃g cap,u=.slice (some ⟨g,0,none⟩) (l.length+1) cap/\W.ownsRow lo 59 3 (.slice (some ⟨g,0,none⟩) (l.length+1) cap) (l ++ [m]).length (uA (l ++ [m]))/\(Bv.ownBlock=some g\/W4.heap.size<=g)):=by
 unfold oD;rw[if_neg h,if_pos rfl]
theorem vT (h8:pS≠p8)(h9:pS≠p9):oD vs p8 p9 pS lo l m Bv W4 a s pS u W:=by
 unfold oD;rw[if_neg h8,if_neg h9,if_pos rfl];trivial
theorem uT (W':World)(hq:q≠p9)(h:oD vs p8 p9 pS lo l m Bv W4 false false q u W):oD vs p8 p9 pS lo l m Bv W4 true false q u W':=by
 unfold oD at h |-;by_cases e1:q=p8
 ·rw[if_pos e1];intro h0;cases h0
 ·rw[if_neg e1,if_neg hq]at h |-;exact h
theorem tT (W':World)(h:oD vs p8 p9 pS lo l m Bv W4 true false q u W):oD vs p8 p9 pS lo l m Bv W4 true true q u W':=by
 unfold oD at h |-;split
 ·intro h0;cases h0
 ·next e1 =>
  rw[if_neg e1]at h;split
  ·intro h0;cases h0
  ·next e2=>rw[if_neg e2]at h;exact h
theorem ED.start (hb:Below W4.heap.size W4 W):ED w n x v lo P N e m Bv y W4 false false W :=
 ⟨fun _=>hb,fun _=>⟨hb.os,hb.tape,hb.output,hb.size,fun k hk _=>hb.block k hk⟩,fun h0=>by cases h0⟩
theorem ED.keep (h:ED w n x v lo P N e m Bv y W4 a false W)(hb:Below W.heap.size W W'):ED w n x v lo P N e m Bv y W4 a false W' :=
 ⟨fun h0=>(h.old h0).trans (hb.mono (h.old h0).size),fun _=>by
  have h1:=h.mid rfl;exact⟨hb.os.trans h1.os,hb.tape.trans h1.tape,hb.output.trans h1.output,Nat.le_trans h1.size hb.size,fun k hk hn=>(hb.block k (Nat.lt_of_lt_of_le hk h1.size)).trans (h1.block k hk hn)⟩,fun h0=>by cases h0⟩
theorem ED.append (h:ED w n x v lo P N e m Bv y W4 false false W)(hL:Live lo P N e Bv y W4)(hk:e.bag.length<=200){g8:Nat}(hs:Blk W g8 #[.int .i64 m.F,.int .i64 m.T,.string ⟨m.b.toArray⟩] 59)(ty:TypeId):
 ∃g cap W9,(Builtin.append_ #[29,29] ty #[Bv,.slice (some ⟨g8,0,none⟩) 1 1]).run Tryz.prog W=.ok (.slice (some ⟨g,0,none⟩) (e.bag.length+1) cap) W9/\ED w n x v lo P N e m Bv y W4 true false W9 /\
  W9.ownsRow lo 59 3 (.slice (some ⟨g,0,none⟩) (e.bag.length+1) cap) (e.bag ++ [m]).length (uA (e.bag ++ [m]))/\(Bv.ownBlock=some g\/W4.heap.size<=g):=by
 have hb:=h.old rfl;have hl:=hL.below hb;have d0:lo<=W.heap.size:=Nat.le_trans (Nat.le_of_lt (Nat.lt_of_le_of_lt hL.lp hL.head.lt)) hb.size;obtain⟨g,cap,W9,hr,ho,hg,f0⟩:=TP W lo Bv e.bag m hl.bag hk d0 hs ty;refine⟨g,cap,W9,hr,⟨fun h0=>(by cases h0),fun _=>⟨hg.os.trans hb.os,hg.tape.trans hb.tape,hg.output.trans hb.output,Nat.le_trans hb.size hg.size,fun k hk hn=>(hg.block k (Nat.lt_of_lt_of_le hk hb.size) hn).trans (hb.block k hk)⟩,fun h0=>(by cases h0)⟩,ho,?_⟩;rcases f0 with h1 | h1
 ·exact Or.inl h1
 ·exact Or.inr (Nat.le_trans hb.size h1)
theorem ED.head (h:ED w n x v lo P N e m Bv y W4 a false W)(hL:Live lo P N e Bv y W4):Blk W P #[.slice (some ⟨y.G,0,none⟩) N y.gc,Bv] 31 :=
 ((h.mid rfl).block P hL.head.lt (fun e1=>(hL.bv P e1.symm).1 rfl)).trans hL.head
theorem ED.store (h:ED w n x v lo P N e m Bv y W4 a false W)(hL:Live lo P N e Bv y W4)(hS:SB w n x v W4)(hlo:w.heap.size+3<lo){g cap:Nat}(ho:W.ownsRow lo 59 3 (.slice (some ⟨g,0,none⟩) (e.bag.length+1) cap) (e.bag ++ [m]).length (uA (e.bag ++ [m])))(hat:Bv.ownBlock=some g\/W4.heap.size<=g):
 ED w n x v lo P N e m Bv y W4 true true (W.setCell ⟨P,1,none⟩ (.slice (some ⟨g,0,none⟩) (e.bag.length+1) cap)):=by
 have hg:=h.mid rfl;have d0:lo<=W4.heap.size:=Nat.le_of_lt (Nat.lt_of_le_of_lt hL.lp hL.head.lt);have:=hL.lp;refine⟨fun h0=>(by cases h0),fun h0=>(by cases h0),fun _=>⟨_,hL.setBag hg ho (fun q hq=>by cases hq;exact hat),(hS.keepLo (nA hg (fun k hk=>(hL.bag.lt k hk).1) d0) hlo).set (by omega) _ _,by simpa using hg.size,fun b hb hn hP=>?_,fun b hb hq=>?_⟩⟩
 ·rw[Below.heap_setCell _ _ _ _ hP];exact hg.block b hb (fun e1=>hn e1.symm)
 ·have f0:g=b:=Option.some.inj hq;rcases hat with h1 | h1
  ·rw[h1,f0]
  ·omega
end
theorem lL (l:List UInt8)(w:World)(hl:l.length<=100):
 Calls Tryz.prog 88 #[txt l] w fun e w'=>e=.returned (.int .i64 ((sumOf l:Nat):Int))/\∃m,w'=w.drewN m:=by
 have:(ByteArray.mk l.toArray).size=l.length:=by simp[ByteArray.size]
 have HG:Hid (∀ (k:Nat) (h:k<(ByteArray.mk l.toArray).size),(ByteArray.mk l.toArray)[k]=l.getD k 0):=hide (fun k h=>eG h);have HE:Hid (sumOf (l.take l.length)=sumOf l):=hide (by rw[List.take_length]);unfold txt;generalize ByteArray.mk l.toArray=s at *;go_enter Tryz.func88,Tryz.ntmps88;go_wp2
 go_loop [3,4] (fun s i=>∃k:Nat,k<=l.length/\i=.int .i64 k/\s=.int .i64 ((sumOf (l.take k):Nat):Int)) (fun _ i=>l.length-(intOf i).toNat)
 case atStart=>exact⟨0,zL,rfl,rfl⟩
 case round =>
  obtain⟨k,hk,rfl,rfl⟩:=hrel;by_cases d0:k<l.length
  ·have:=CE (l.take k);have:=(l[k]).toNat_lt;have:∀h:k<s.size,(s[k]'h).toNat=(l[k]).toNat:=fun h=>by
    rw[HG.out k h,List.getD_eq_getElem?_getD,List.getElem?_eq_getElem d0];rfl
   have Hn:Hid (sumOf (l.take (k+1))=(31*sumOf (l.take k)+(l[k]).toNat) % 65521):=hide (by rw[List.take_succ_eq_append_getElem d0,rJ];rfl);generalize sumOf (l.take k)=sv at *;generalize (l[k]).toNat=bv at *;have:(k:Int)<(l.length:Int):=by omega
   go_wp2
   go_round
   case rel=>exact⟨k+1,by omega,by go_num,by rw[Hn.out];go_num⟩
   case measure=>simp[intOf];omega
  ·have f0:k=l.length:=by omega
   subst f0;rw[HE.out];go_wp2;go_ret;exact⟨rfl,0,rfl⟩
theorem ZJ (W:World)(l:List UInt8)(vs:Array Value)(hv:vs=(DC l).toArray)(n:Nat)(hn:n=l.length):
 (convert 96 9 (.slice (some ⟨W.heap.size,0,none⟩) n n)).run Tryz.prog (W.alloc (.cells vs 5))=.ok (.string ⟨l.toArray⟩) (W.alloc (.cells vs 5)):=by
 subst hn hv;refine run_convert_bytes_back (P:=Tryz.prog) (W.alloc (.cells (DC l).toArray 5)) 96 9 5 ⟨W.heap.size,0,none⟩ l.length l Tryz.underlying96 Tryz.underlying5 Tryz.underlying9 (fun j hj=>?_);rw[Go.WideShapes.add_plain,(Blk.new W (DC l).toArray 5).cell (0+j)];simp[dK hj]
theorem BM (p:lC)(w:World)(h:p.In w.heap.size w):
 Calls Tryz.prog 55 #[p.val] w fun e w'=>e=.returned (.tuple #[txt p.pkt.text,.int .i64 p.pkt.err])/\Below w.heap.size w w':=by
 obtain⟨W0,p0⟩:∃W0,W0=w.alloc (.cells p.cells 92):=⟨_,rfl⟩;have q0:Below w.heap.size w W0:=by rw[p0];exact(Below.refl _ w).alloc lR _
 have b0:Blk W0 w.heap.size p.cells 92:=by rw[p0];exact Blk.new w _ _
 have G0:=h.small;have H:=hide (h.grown q0);have HF:Hid (p.pkt.inRange=(inB p.F && inB p.T && p.pkt.routesIn)):=hide rfl;have f0:Hid (p.pkt.inRange=false->p.pkt.err=3/\p.pkt.text=[]):=hide (fun e=>by
  have:p.pkt.err=3:=by unfold Pkt.err;rw[if_pos e]
  exact⟨this,by unfold Pkt.text;rw[this];rfl⟩)
 have i0:=hide q0;have w0:=hide b0;have x0:=b0.cell 0;have x1:=b0.cell 1;have x2:=b0.cell 2;clear h q0 b0;simp only[lC.val,lC.cells]at *;simp at x0 x1 x2;go_enter Tryz.func55,Tryz.ntmps55;go_wp2_with fail;rw[<-p0];clear p0;go_at_call 52;refine(jA _ _ _ _).mono ?_;rintro e w1 ⟨rfl,rfl⟩;rw[show (decide (0<=p.F) && decide (p.F<=250))=inB p.F from rfl];by_cases hF:inB p.F=true
 ·rw[hF];go_wp2_with fail;go_at_call 52;refine(jA _ _ _ _).mono ?_;rintro e w1 ⟨rfl,rfl⟩;rw[show (decide (0<=p.T) && decide (p.T<=250))=inB p.T from rfl];by_cases hT:inB p.T=true
  ·rw[hT];go_wp2
   go_loop [4] (fun i=>∃k:Nat,k<=p.n/\i=.int .i64 k/\Hid (∀r,r<k->0<=p.R r/\p.R r<=250)) (fun i=>p.n-(intOf i).toNat)
   case atStart=>exact⟨0,zL,rfl,hide (fun r hr=>absurd hr nZ)⟩
   case round =>
    obtain⟨k,hk,rfl,h0⟩:=hrel;by_cases j0:k<p.n
    ·have ha:=H.out.ints.addr (by omega);have hc:=H.out.ints.cell k j0;have H0:(k:Int)<(p.n:Int):=by omega
     go_wp2_with fail;go_at_call 52;refine(jA _ _ _ _).mono ?_;rintro e w1 ⟨rfl,rfl⟩;by_cases hR:0<=p.R k/\p.R k<=250
     ·have hb:(decide (0<=p.R k) && decide (p.R k<=250))=true:=by simp[hR]
      rw[hb];have HN:Hid (∀r,r<k+1->0<=p.R r/\p.R r<=250):=hide (fun r hr=>by
       by_cases e:r=k
       ·subst e;exact hR
       ·exact h0.out r (by omega))
      clear hR hb;go_wp2
      go_round
      case rel =>
       (try rw[<-ha]);(try refine⟨trivial,?_⟩);(repeat apply Exists.intro);refine⟨?_,rfl⟩;exact⟨k+1,by omega,by go_num,HN⟩
      case measure=>simp[intOf];omega
     ·have hb:(decide (0<=p.R k) && decide (p.R k<=250))=false:=by simp;omega
      have d0:=hide (f0.out (by rw[HF.out,Pkt.routesIn_false (p:=p.pkt) j0 hR,Bool.and_false]));rw[hb];clear hR hb;go_wp2;go_ret2;exact⟨by rw[d0.out.1,d0.out.2];rfl,i0.out⟩
    ·have o0:p.pkt.inRange=true:=by
      have:p.pkt.routesIn=true:=Pkt.routesIn_iff.2 (fun r hr=>h0.out r (by have:p.pkt.n=p.n:=rfl;omega));rw[HF.out,hF,hT,this];rfl
     by_cases hn:60<p.n+6
     ·have d0:Hid (p.pkt.err=2/\p.pkt.text=[]):=hide (by
       have:p.pkt.err=2:=by unfold Pkt.err;rw[if_neg (by simp[o0]),if_pos (show 60<p.pkt.n+6 from hn)]
       exact⟨this,by unfold Pkt.text;rw[this];rfl⟩)
      have I0:(60:Int)<6+(p.n:Int):=by omega
      clear hn o0 hF hT HF f0;go_wp2;go_ret2;exact⟨by rw[d0.out.1,d0.out.2];rfl,i0.out⟩
     ·have y0:Hid (p.pkt.err=0):=hide (Pkt.err_of o0 (show p.pkt.n+6<=60 by show p.n+6<=60;omega));have I0:¬ (60:Int)<6+(p.n:Int):=by omega
      have J0:0<=p.F/\p.F<=250:=by unfold inB at hF;simpa using hF
      have K0:0<=p.T/\p.T<=250:=by unfold inB at hT;simpa using hT
      have L0:p.n<=54:=by omega
      have z0:(p.n:Int)<=54:=by omega
      have A0:DC (p.pkt.part 0)=[.int .u8 83,.int .u8 p.F,.int .u8 p.T,.int .u8 (p.n:Int)]:=by
       show [Value.int .u8 83,.int .u8 ((u8 p.F).toNat:Int),.int .u8 ((u8 p.T).toNat:Int),.int .u8 ((u8 (p.n:Int)).toNat:Int)]=_;rw[xC J0.1 (by omega),xC K0.1 (by omega),xC (by omega) (by omega)]
      have B0:=ZJ w1 (p.pkt.part 0) #[.int .u8 83,.int .u8 p.F,.int .u8 p.T,.int .u8 (p.n:Int)] (by rw[A0]) 4 (by rw[Pkt.part_len]);have k0:Hid (∀r,r<p.n->0<=p.R r/\p.R r<=250):=hide (fun r hr=>h0.out r (by omega));clear hn o0 hF hT HF f0 A0 h0;go_wp2
      go_loopw [5,6] (fun v i wr=>∃k:Nat,k<=p.n/\i=.int .i64 k/\v=.string ⟨(p.pkt.part k).toArray⟩/\Hid (Below w1.heap.size w1 wr)) (fun _ i _=>p.n-(intOf i).toNat)
      case atStart=>exact⟨0,zL,rfl,rfl,hide ((Below.refl _ _).alloc lR _)⟩
      case round =>
       obtain⟨k,hk,rfl,rfl,HB⟩:=hrel;have hI:=H.out.below HB.out lR;have bb:=w0.out.below HB.out w0.out.lt;have M0:=bb.cell 2;simp at M0;have s0:=p.pkt.part_len k;have Q0:(ByteArray.mk (p.pkt.part k).toArray).size=4+k:=by simp[ByteArray.size,s0]
       by_cases j0:k<p.n
       ·have ha:=hI.ints.addr (by omega);have hc:∀o,(wr.alloc o).cell? ⟨p.rb,p.ro+k,none⟩=some (.int .i64 (p.R k)):=fun o=>by
         exact(hI.below ((Below.refl _ wr).alloc HB.out.size o) lR).ints.cell k j0
        have R0:=hI.ints.cell k j0;have H0:(k:Int)<(p.n:Int):=by omega
        have hR:=k0.out k j0;have S0:=hR.1;have T0:=hR.2;have m0:=ZJ wr [u8 (p.R k)] #[.int .u8 (p.R k)] (by
         show _=#[Value.int .u8 ((u8 (p.R k)).toNat:Int)];rw[xC hR.1 (by omega)]) 1 rfl
        have g0:Hid (ByteArray.mk (p.pkt.part k).toArray ++ ByteArray.mk [u8 (p.R k)].toArray=ByteArray.mk (p.pkt.part (k+1)).toArray):=hide (by
         rw[ByteArray.mk_append_mk,Pkt.part_succ];rfl)
        have N0:(ByteArray.mk [u8 (p.R k)].toArray).size=1:=by simp[ByteArray.size]
        have C0:=hide (HB.out.alloc HB.out.size (.cells #[.int .u8 (p.R k)] 5));generalize ByteArray.mk (p.pkt.part k).toArray=sa at *;generalize ByteArray.mk [u8 (p.R k)].toArray=sb at *;clear hI hR s0 bb HB B0;go_wp2;go_roundw
        case rel =>
         first
         | exact⟨k+1,by omega,by go_num,by rw[g0.out],C0⟩
         | ((try rw[<-ha]);(repeat apply Exists.intro);refine⟨?_,rfl⟩;exact⟨k+1,by omega,by go_num,by rw[g0.out],C0⟩)
        case measure=>simp[intOf];omega
       ·have O0:k=p.n:=by omega
        subst O0;have HS:=hide (lL (p.pkt.part p.n) wr (by omega));have D0:p.pkt.bytes=p.pkt.part p.n ++ TH (sumOf (p.pkt.part p.n)):=rfl;have hs:=CE (p.pkt.part p.n);generalize sumOf (p.pkt.part p.n)=s at *;have m0:=fun m=>ZJ (wr.drewN m) [UInt8.ofNat (s / 256),UInt8.ofNat (s % 256)] #[.int .u8 ((s:Int) / 256),.int .u8 ((s:Int) % 256)] (by
         show _=#[Value.int .u8 ((UInt8.ofNat (s / 256)).toNat:Int),.int .u8 ((UInt8.ofNat (s % 256)).toNat:Int)];rw[UInt8.toNat_ofNat',UInt8.toNat_ofNat',Nat.mod_eq_of_lt (by omega),Nat.mod_eq_of_lt (by omega)];rfl) 2 rfl
        have g0:Hid (ByteArray.mk (p.pkt.part p.n).toArray ++ ByteArray.mk [UInt8.ofNat (s / 256),UInt8.ofNat (s % 256)].toArray=ByteArray.mk p.pkt.bytes.toArray):=hide (by
         rw[ByteArray.mk_append_mk,D0];rfl)
        have N0:(ByteArray.mk [UInt8.ofNat (s / 256),UInt8.ofNat (s % 256)].toArray).size=2:=by simp[ByteArray.size]
        have d0:Hid (p.pkt.err=0/\p.pkt.text=p.pkt.bytes):=hide ⟨y0.out,by unfold Pkt.text;rw[if_pos y0.out]⟩;simp only[txt]at HS |-;generalize ByteArray.mk (p.pkt.part p.n).toArray=sa at *;generalize ByteArray.mk [UInt8.ofNat (s / 256),UInt8.ofNat (s % 256)].toArray=sb at *;have E0:(s:Int) / 256<256:=by omega
        have U0:0<=(s:Int) / 256:=by omega
        have P0:∀m,(convert 96 9 (.slice (some ⟨wr.heap.size,0,none⟩) 2 2)).run Tryz.prog ((wr.drewN m).alloc (.cells #[.int .u8 ((s:Int) / 256),.int .u8 ((s:Int) % 256)] 5))=.ok (.string sb) ((wr.drewN m).alloc (.cells #[.int .u8 ((s:Int) / 256),.int .u8 ((s:Int) % 256)] 5)):=fun m=>m0 m;have F0:=hide (i0.out.trans (HB.out.mono i0.out.size));clear hI s0 bb HB B0 D0;go_wp2_with fail;go_at_call 88;refine HS.out.mono ?_;rintro e w3 ⟨rfl,m,rfl⟩;go_wp2;go_ret2;exact⟨by rw[d0.out.1,d0.out.2];unfold txt;rw[<-g0.out];rfl,(below_drewN F0.out m).alloc (below_drewN F0.out m).size _⟩
  ·have u0:inB p.T=false:=by simpa using hT
   have d0:=hide (f0.out (by rw[HF.out,u0,Bool.and_false,Bool.false_and]));rw[u0];clear hF hT u0 HF f0;go_wp2;go_ret2;exact⟨by rw[d0.out.1,d0.out.2];rfl,i0.out⟩
 ·have v0:inB p.F=false:=by simpa using hF
  have d0:=hide (f0.out (by rw[HF.out,v0,Bool.false_and,Bool.false_and]));rw[v0];clear hF v0 HF f0;go_wp2;go_ret2;exact⟨by rw[d0.out.1,d0.out.2];rfl,i0.out⟩
end Go.Proofs.YtjhkadffaephmacGreat
