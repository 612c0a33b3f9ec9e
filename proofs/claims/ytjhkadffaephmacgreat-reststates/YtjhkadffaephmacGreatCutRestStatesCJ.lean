import Derived.Test.YtjhkadffaephmacGreatCutRestStatesCI
namespace Go.Proofs.YtjhkadffaephmacGreat
set_option maxHeartbeats 16000000
set_option maxRecDepth 100000
open Go.RowKit
theorem tQ (l:List UInt8){pl:Nat}(h:pl<l.length)(u:UInt8):(ByteArray.mk l.toArray).extract 0 pl ++ ByteArray.mk [u].toArray ++ (ByteArray.mk l.toArray).extract (pl+1) l.length=ByteArray.mk (l.set pl u).toArray:=by
 rw[ByteArray.extract_mk,ByteArray.extract_mk,ByteArray.mk_append_mk,ByteArray.mk_append_mk];congr 2;have hd:(l.drop (pl+1)).take (l.length-(pl+1))=l.drop (pl+1):=List.take_of_length_le (by simp);rw[List.set_eq_take_append_cons_drop,if_pos h,List.drop_zero,Nat.sub_zero,hd];simp
theorem QM (x:UInt8){c:Nat}(h:c<=255):u8 ((ZC x.toNat c 8:Nat):Int)=x ^^^ u8 (c:Int):=by
 have hx:=x.toNat_lt;have h1:=SH x.toNat c 8;have h2:((u8 ((ZC x.toNat c 8:Nat):Int)).toNat:Int)=_:=xC (by omega) (by omega);have h3:((u8 (c:Int)).toNat:Int)=_:=xC (by omega) (by omega);refine UInt8.toNat_inj.1 ?_;rw[UInt8.toNat_xor,show (u8 (c:Int)).toNat=c by omega,<-zM (a:=x.toNat) (b:=c) (by omega) (by omega)];omega
theorem lT (W:World){g:Nat}{xs:Nat}(hx:xs<256)(hb:Blk W g #[.int .u8 (xs:Int)] 5):
 (convert 96 9 (.slice (some ⟨g,0,none⟩) 1 1)).run Tryz.prog W=.ok (.string (ByteArray.mk [u8 (xs:Int)].toArray)) W:=by
 refine run_convert_bytes_back (P:=Tryz.prog) W 96 9 5 ⟨g,0,none⟩ 1 [u8 (xs:Int)] Tryz.underlying96 Tryz.underlying5 Tryz.underlying9 (fun j hj=>?_);obtain rfl:j=0:=by simpa using hj
 rw[Go.WideShapes.add_plain,hb.cell];have:=xC (x:=(xs:Int)) (by omega) (by omega);simp[this]
def spE (vs:List Value) (xs q:Nat) (v:Value) (W:World):Prop :=
 if q=11 then ∃g,v=.slice (some ⟨g,0,none⟩) 1 1/\Blk W g #[.int .u8 (xs:Int)] 5 else vs[q]? = some v
theorem kS {vs:List Value}{xs q:Nat}{v:Value}{W W':World}(hb:Below W.heap.size W W')(h:spE vs xs q v W):spE vs xs q v W':=by
 unfold spE at h |-;split
 ·next e=>rw[if_pos e]at h;obtain⟨g,h1,h2⟩:=h;exact⟨g,h1,h2.below hb h2.lt⟩
 ·next e=>rw[if_neg e]at h;exact h
theorem IB {vs:List Value}{xs q:Nat}{v:Value}{W:World}(hq:q≠11)(h:vs[q]? = some v):spE vs xs q v W:=by unfold spE;rw[if_neg hq];exact h
theorem JB {vs:List Value}{xs q:Nat}{v u:Value}{W:World}(h:spE vs xs q v W)(hq:q≠11)(hu:vs[q]? = some u):v=u:=by
 unfold spE at h;rw[if_neg hq,hu]at h;exact(Option.some.inj h).symm
theorem lS {vs:List Value}{xs:Nat}{v:Value}{W:World}:spE vs xs 11 v W↔∃g,v=.slice (some ⟨g,0,none⟩) 1 1/\Blk W g #[.int .u8 (xs:Int)] 5:=by unfold spE;rw[if_pos rfl]
theorem tJ (n:dA)(x:iA)(v:EvM)(N:Nat)(w:World)(h:n.In w.heap.size w)(hx:x.In w.heap.size w)(hv:v.In w.heap.size w)(hN:n.nodes=N)(hR:x.Right n.net N)(_hcap:x.bag.bn<=x.bag.bc)(k:Nat)(hk:v.loc=(k:Int))(hkd:v.kind=5)(hkb:k<x.bag.bn)(hbad:(v.b<0\/((x.bag.M k).b.length:Int)<=v.b)\/(v.c<1\/255<v.c)):
 Calls Tryz.prog 19 #[n.val,x.val,v.val] w fun r w'=>EC n.net x v.ev w r w':=by
 obtain⟨p1,q1,J0,K0⟩:=SA hR.check hN;have y0:n.net.nodes=n.nodes:=rfl;have i0:x.eng.bag.length=x.bag.bn:=by show ((List.range x.bag.bn).map x.bag.M).length=_;simp
 have Y0:=hR.bn;obtain⟨m,hm⟩:∃m,m=x.bag.M k:=⟨_,rfl⟩;have j0:x.eng.bag.getD k zA=m:=by rw[hm];exact gG x.bag.M x.bag.bn k hkb
 obtain⟨L,hL⟩:∃L,L=m.b.length:=⟨_,rfl⟩;obtain⟨s,hs⟩:∃s,s=ByteArray.mk m.b.toArray:=⟨_,rfl⟩;have Z0:s.size=L:=by rw[hs,hL];simp[ByteArray.size]
 have B0:=hR.fit.mail m (by rw[<-j0];exact UD (by rw[i0];exact hkb));have L0:L<=60:=by rw[hL];exact B0.2.2
 have h0:x.eng.stepErr n.net v.ev=if (v.b<0\/(L:Int)<=v.b)\/(v.c<1\/255<v.c) then 3 else 0:=by
  have M0:(x.eng.bag.getD v.ev.loc.toNat zA).b.length=L:=by
   show (x.eng.bag.getD v.loc.toNat zA).b.length=L;rw[hk];show (x.eng.bag.getD k zA).b.length=L;rw[j0,hL]
  rw[Eng.err_spoil (v:=v.ev) hkd (show 0<=v.loc by omega) (show v.loc<(x.eng.bag.length:Int) by omega),M0];rfl
 have N0:Hid (x.bag.ba=some ⟨x.bag.bb,x.bag.bo,none⟩):=hide (hx.bag.ba (by omega));have d1:(k:Int)<(x.bag.bn:Int):=by omega
 have Hm:=hide hm;have Hs:=hide hs;have f1:=hide hL;rw[<-hm,<-hL]at hbad;have C0:Hid (x.eng.stepErr n.net v.ev=3):=hide (by rw[h0,if_pos hbad]);clear j0 B0 h0 hm hs hL;obtain⟨W0,q0⟩:∃W0,W0=(((w.alloc (.cells n.cells 27)).alloc (.cells x.cells 31)).alloc (.cells v.cells 34)).alloc (.cells #[.slice none 0 0,.slice none 0 0] 31):=⟨_,rfl⟩;have D0:SB w n x v W0:=by rw[q0];exact SB.start w n x v
 have E0:W0.heap.size=w.heap.size+4:=by rw[q0];simp
 have o0:n.cells=#[.int .i64 n.a.size,.slice n.a.B.ga n.a.B.t.len n.a.B.cap,.slice n.a.E.ga n.a.E.t.len n.a.E.cap,.int .i64 N,.slice n.la n.ln n.lc]:=by simp only[dA.cells,Mat.val,hN]
 have s0:v.cells=#[.int .i64 5,.int .i64 (k:Int),.int .i64 v.b,.int .i64 v.c,.slice v.ra v.rl v.rc]:=by rw[<-hkd,<-hk];rfl
 have u0:x.cells=#[.slice x.rs.ga x.rs.gn x.rs.gc,.slice x.bag.ba x.bag.bn x.bag.bc]:=rfl;have H:=hide h;have Hx:=hide hx;have Hv:=hide hv;have HR:=hide hR;have d0:=hide D0;have O0:=hide E0;have P0:=hide o0;have z0:=hide s0;have Q0:=hide u0;have HN:=hide hN;have R0:=hide i0;have g1:=hide K0;have i1:=hide J0;have j1:=hide hkd;have Hk:=hide hk;have S0:=hide (fun (i:Int) (W:World)=>aC n i W (by omega) (by omega));simp only[dA.val,o0,hN]at S0;rw[o0,s0,u0]at q0;simp only[dA.val,iA.val,EvM.val,o0,s0,u0];have T0:=hide q0;have v0:=d0.out.bv.cell 0;have v1:=d0.out.bv.cell 1;have v2:=d0.out.bv.cell 2;have v3:=d0.out.bv.cell 3;have v4:=d0.out.bv.cell 4;rw[z0.out]at v0 v1 v2 v3 v4;simp at v0 v1 v2 v3 v4;have n0:=d0.out.bn.cell 0;have n1:=d0.out.bn.cell 1;have n2:=d0.out.bn.cell 2;have n3:=d0.out.bn.cell 3;have n4:=d0.out.bn.cell 4;rw[P0.out]at n0 n1 n2 n3 n4;simp at n0 n1 n2 n3 n4;have x0:=d0.out.bx.cell 0;have x1:=d0.out.bx.cell 1;rw[Q0.out]at x0 x1;simp at x0 x1;clear h hx hv hR D0 E0 o0 s0 u0 hN q0 i0 K0 J0 y0 hkd hk;go_enter Tryz.func19,Tryz.ntmps19;go_wp2_with fail;rw[<-T0.out];go_at_call 52;refine(jA _ _ _ _).mono ?_;rintro e w1 ⟨rfl,f0⟩;rw[f0];clear f0;have m0:(decide ((1:Int)<=5) && decide ((5:Int)<=7))=true:=by decide
 rw[m0];clear m0;go_wp2_with fail;go_at_call 52;refine(jA _ _ _ _).mono ?_;rintro e w1 ⟨rfl,f0⟩;rw[f0];clear f0;have F0:(decide ((2:Int)<=5) && decide ((5:Int)<=5))=true:=by decide
 rw[F0];clear F0;go_wp2_with fail;go_at_call 52;refine(jA _ _ _ _).mono ?_;rintro e w1 ⟨rfl,f0⟩;rw[f0];clear f0;have G0:(decide (0<=(k:Int)) && decide ((k:Int)<=(x.bag.bn:Int)-1))=true:=by simp;omega
 rw[G0];clear G0;have c0:=(Hx.out.below d0.out.below lR).bag.c0 k hkb;have c1:=(Hx.out.below d0.out.below lR).bag.c1 k hkb;have c2:=(Hx.out.below d0.out.below lR).bag.c2 k hkb;rw[<-Hm.out]at c0 c1 c2;rw[<-Hs.out]at c2;rw[N0.out]at x1;obtain⟨A0,k0⟩:∃A0,A0=W0.heap.size:=⟨_,rfl⟩;obtain⟨W1,w0⟩:∃W1,W1=W0.alloc (.cells #[.int .i64 m.F,.int .i64 m.T,.string s] 59):=⟨_,rfl⟩;have m0:Below W0.heap.size W0 W1:=by rw[w0];exact(Below.refl _ W0).alloc lR _
 have g0:=hide (d0.out.keep m0);have k1:Hid (Blk W1 A0 #[.int .i64 m.F,.int .i64 m.T,.string s] 59):=hide (by rw[w0];exact Blk.new' k0);have o1:Hid (w.heap.size+4<=W1.heap.size):=hide (by have:=m0.size;have:=O0.out;omega);have va:∀o,(W0.alloc o).cell? ⟨w.heap.size+2,2,none⟩=some (.int .i64 v.b):=fun o=>by have:=(d0.out.bv.alloc o).cell 2;rw[z0.out]at this;simpa using this
 have vb:∀o,(W0.alloc o).cell? ⟨w.heap.size+2,3,none⟩=some (.int .i64 v.c):=fun o=>by have:=(d0.out.bv.alloc o).cell 3;rw[z0.out]at this;simpa using this
 have H0:=hide w0;have U0:=hide k0;clear m0 w0 k0;go_wp2_with fail;go_at_call 52;refine(jA _ _ _ _).mono ?_;rintro e w1 ⟨rfl,f0⟩;rw[f0];clear f0;by_cases h1:0<=v.b/\v.b<(L:Int);rotate_left
 ·have p0:(decide (0<=v.b) && decide (v.b<=(L:Int)-1))=false:=by simp;omega
  rw[p0];clear p0 hbad h1;rw[<-H0.out];have HF:=hide (jE (er:=3) g0.out (C0.out) (by decide));have c7:=(g0.out.br.set 0 (.slice none 0 0)).set 1 (.slice none 0 0);have e0:=c7.cell 0;have e1:=c7.cell 1;simp at e0 e1;have r0:=g0.out.br.cell 0;have r1:=g0.out.br.cell 1;have V0:=g0.out.br.frozen 0;have X0:=g0.out.br.frozen 1;simp at r0 r1;clear c7;go_wp2;exact bodyPost_ret (v:=.tuple #[.agg #[.slice none 0 0,.slice none 0 0],.int .i64 3]) (by simp[results,Tryz.results19,go_sem,e0,e1]) rfl HF.out
 have p0:(decide (0<=v.b) && decide (v.b<=(L:Int)-1))=true:=by simp;omega
 rw[p0];clear p0;go_wp2_with fail;go_at_call 52;refine(jA _ _ _ _).mono ?_;rintro e w1 ⟨rfl,f0⟩;rw[f0];clear f0;have I0:(decide (1<=v.c) && decide (v.c<=255))=false:=by simp;omega
 rw[I0];clear I0 hbad h1;rw[<-H0.out];have HF:=hide (jE (er:=3) g0.out (C0.out) (by decide));have c7:=(g0.out.br.set 0 (.slice none 0 0)).set 1 (.slice none 0 0);have e0:=c7.cell 0;have e1:=c7.cell 1;simp at e0 e1;have r0:=g0.out.br.cell 0;have r1:=g0.out.br.cell 1;have V0:=g0.out.br.frozen 0;have X0:=g0.out.br.frozen 1;simp at r0 r1;clear c7;go_wp2;exact bodyPost_ret (v:=.tuple #[.agg #[.slice none 0 0,.slice none 0 0],.int .i64 3]) (by simp[results,Tryz.results19,go_sem,e0,e1]) rfl HF.out
theorem NL (n:dA)(x:iA)(v:EvM)(N:Nat)(w:World)(h:n.In w.heap.size w)(hx:x.In w.heap.size w)(hv:v.In w.heap.size w)(hN:n.nodes=N)(hR:x.Right n.net N)(_hcap:x.bag.bn<=x.bag.bc)(k:Nat)(hk:v.loc=(k:Int))(hkd:v.kind=5)(hkb:k<x.bag.bn)(pl cv:Nat)(hpl:v.b=(pl:Int))(hcv:v.c=(cv:Int))(hlt:pl<(x.bag.M k).b.length)(hc1:1<=cv)(hc2:cv<=255):
 Calls Tryz.prog 19 #[n.val,x.val,v.val] w fun r w'=>EC n.net x v.ev w r w':=by
 obtain⟨p3,q3,m2,o2⟩:=SA hR.check hN;have s1:n.net.nodes=n.nodes:=rfl;have y0:x.eng.bag.length=x.bag.bn:=by show ((List.range x.bag.bn).map x.bag.M).length=_;simp
 have x3:=hR.bn;obtain⟨m,hm⟩:∃m,m=x.bag.M k:=⟨_,rfl⟩;have i0:x.eng.bag.getD k zA=m:=by rw[hm];exact gG x.bag.M x.bag.bn k hkb
 obtain⟨L,hL⟩:∃L,L=m.b.length:=⟨_,rfl⟩;obtain⟨s,hs⟩:∃s,s=ByteArray.mk m.b.toArray:=⟨_,rfl⟩;have y3:s.size=L:=by rw[hs,hL];simp[ByteArray.size]
 have N1:=hR.fit.mail m (by rw[<-i0];exact UD (by rw[y0];exact hkb));have r2:L<=60:=by rw[hL];exact N1.2.2
 have s0:x.eng.stepErr n.net v.ev=if (v.b<0\/(L:Int)<=v.b)\/(v.c<1\/255<v.c) then 3 else 0:=by
  have t2:(x.eng.bag.getD v.ev.loc.toNat zA).b.length=L:=by
   show (x.eng.bag.getD v.loc.toNat zA).b.length=L;rw[hk];show (x.eng.bag.getD k zA).b.length=L;rw[i0,hL]
  rw[Eng.err_spoil (v:=v.ev) hkd (show 0<=v.loc by omega) (show v.loc<(x.eng.bag.length:Int) by omega),t2];rfl
 have u2:Hid (x.bag.ba=some ⟨x.bag.bb,x.bag.bo,none⟩):=hide (hx.bag.ba (by omega));have w2:(k:Int)<(x.bag.bn:Int):=by omega
 have Hm:=hide hm;have Hs:=hide hs;have z3:=hide hL;rw[<-hm,<-hL]at hlt;have I0:Hid (x.eng.stepErr n.net v.ev=0):=hide (by rw[s0,if_neg (by omega)]);obtain⟨av,j1⟩:∃av,av=(m.b.getD pl 0).toNat:=⟨_,rfl⟩;have O1:av<256:=by rw[j1];exact(m.b.getD pl 0).toNat_lt
 obtain⟨xs,k1⟩:∃xs,xs=ZC av cv 8:=⟨_,rfl⟩;have t1:Hid (ZC av cv 8=xs):=hide k1.symm;have P1:Hid (xs<256):=hide (by rw[k1];exact SH av cv 8);have Hg:Hid (∀h:pl<s.size,(s[pl]'h).toNat=av):=hide (fun h=>by subst hs;rw[eG h,j1]);have J0:Hid (x.eng.step n.net v.ev={ x.eng with bag:=x.eng.bag.set k { x.eng.bag.getD k zA with b:=m.b.set pl (m.b.getD pl 0 ^^^ u8 (cv:Int)) } }):=hide (by
  rw[Eng.does_spoil (v:=v.ev) hkd];show x.eng.spoil v.loc.toNat v.b.toNat (u8 v.c)=_;rw[hk,hpl,hcv];show x.eng.spoil k pl (u8 (cv:Int))=_;unfold Eng.spoil xB.spoil;rw[i0])
 obtain⟨sA,U0⟩:∃sA,sA=s.extract 0 pl:=⟨_,rfl⟩;obtain⟨sB,V0⟩:∃sB,sB=ByteArray.mk [u8 (xs:Int)].toArray:=⟨_,rfl⟩;obtain⟨sC,X0⟩:∃sC,sC=s.extract (pl+1) L:=⟨_,rfl⟩;obtain⟨B0,o0⟩:∃B0,B0=sA ++ sB:=⟨_,rfl⟩;obtain⟨s2,I1⟩:∃s2,s2=B0 ++ sC:=⟨_,rfl⟩;have u1:Hid (s2=ByteArray.mk (m.b.set pl (m.b.getD pl 0 ^^^ u8 (cv:Int))).toArray):=hide (by
  rw[I1,o0,U0,V0,X0,hs,hL,<-tQ m.b (by omega),k1,j1,QM _ (by omega)])
 have HA:Hid (s.extract 0 pl=sA):=hide U0.symm;have x2:Hid (s.extract (pl+1) L=sC):=hide X0.symm;have y2:Hid (sA ++ sB=B0):=hide o0.symm;have z2:Hid (B0 ++ sC=s2):=hide I1.symm;have y1:Hid (sB=ByteArray.mk [u8 (xs:Int)].toArray):=hide V0;have Q1:Hid (sA.size=pl):=hide (by rw[U0,ByteArray.size_extract];omega);have R1:Hid (sB.size=1):=hide (by rw[V0];rfl);have A2:Hid (sC.size=L-(pl+1)/\B0.size=pl+1):=hide ⟨by rw[X0,ByteArray.size_extract];omega,by rw[o0,ByteArray.size_append,Q1.out,R1.out]⟩;have B2:(pl:Int)<(L:Int):=by omega
 clear i0 N1 s0 hm hs hL j1 k1 U0 V0 X0 o0 I1;have z1:=hide (fun W (hb:Below w.heap.size w W)=>JC x N W (hx.grown hb) hR.gn p3 q3 hR.bn hR.rl hR.tl hR.ll);simp only[iA.val,iA.cells]at z1;obtain⟨W0,Y0⟩:∃W0,W0=(((w.alloc (.cells n.cells 27)).alloc (.cells x.cells 31)).alloc (.cells v.cells 34)).alloc (.cells #[.slice none 0 0,.slice none 0 0] 31):=⟨_,rfl⟩;have S1:SB w n x v W0:=by rw[Y0];exact SB.start w n x v
 have T1:W0.heap.size=w.heap.size+4:=by rw[Y0];simp
 have K0:n.cells=#[.int .i64 n.a.size,.slice n.a.B.ga n.a.B.t.len n.a.B.cap,.slice n.a.E.ga n.a.E.t.len n.a.E.cap,.int .i64 N,.slice n.la n.ln n.lc]:=by simp only[dA.cells,Mat.val,hN]
 have Z0:v.cells=#[.int .i64 5,.int .i64 (k:Int),.int .i64 (pl:Int),.int .i64 (cv:Int),.slice v.ra v.rl v.rc]:=by rw[<-hkd,<-hk,<-hpl,<-hcv];rfl
 have d1:x.cells=#[.slice x.rs.ga x.rs.gn x.rs.gc,.slice x.bag.ba x.bag.bn x.bag.bc]:=rfl;have H:=hide h;have Hx:=hide hx;have Hv:=hide hv;have HR:=hide hR;have d0:=hide S1;have C2:=hide T1;have D2:=hide K0;have j0:=hide Z0;have U1:=hide d1;have HN:=hide hN;have L0:=hide y0;have A3:=hide o2;have B3:=hide m2;have C3:=hide hkd;have Hk:=hide hk;have E2:=hide (fun (i:Int) (W:World)=>aC n i W (by omega) (by omega));simp only[dA.val,K0,hN]at E2;rw[K0,Z0,d1]at Y0;simp only[dA.val,iA.val,EvM.val,K0,Z0,d1];have F2:=hide Y0;have v0:=d0.out.bv.cell 0;have v1:=d0.out.bv.cell 1;have v2:=d0.out.bv.cell 2;have v3:=d0.out.bv.cell 3;have v4:=d0.out.bv.cell 4;rw[j0.out]at v0 v1 v2 v3 v4;simp at v0 v1 v2 v3 v4;have n0:=d0.out.bn.cell 0;have n1:=d0.out.bn.cell 1;have n2:=d0.out.bn.cell 2;have n3:=d0.out.bn.cell 3;have n4:=d0.out.bn.cell 4;rw[D2.out]at n0 n1 n2 n3 n4;simp at n0 n1 n2 n3 n4;have x0:=d0.out.bx.cell 0;have x1:=d0.out.bx.cell 1;rw[U1.out]at x0 x1;simp at x0 x1;clear h hx hv hR S1 T1 K0 Z0 d1 hN Y0 y0 o2 m2 s1 hkd hk hpl hcv;go_enter Tryz.func19,Tryz.ntmps19;go_wp2_with fail;rw[<-F2.out];go_at_call 52;refine(jA _ _ _ _).mono ?_;rintro e w1 ⟨rfl,g0⟩;rw[g0];clear g0;have E0:(decide ((1:Int)<=5) && decide ((5:Int)<=7))=true:=by decide
 rw[E0];clear E0;go_wp2_with fail;go_at_call 52;refine(jA _ _ _ _).mono ?_;rintro e w1 ⟨rfl,g0⟩;rw[g0];clear g0;have V1:(decide ((2:Int)<=5) && decide ((5:Int)<=5))=true:=by decide
 rw[V1];clear V1;go_wp2_with fail;go_at_call 52;refine(jA _ _ _ _).mono ?_;rintro e w1 ⟨rfl,g0⟩;rw[g0];clear g0;have F0:(decide (0<=(k:Int)) && decide ((k:Int)<=(x.bag.bn:Int)-1))=true:=by simp;omega
 rw[F0];clear F0;have c0:=(Hx.out.below d0.out.below lR).bag.c0 k hkb;have c1:=(Hx.out.below d0.out.below lR).bag.c1 k hkb;have c2:=(Hx.out.below d0.out.below lR).bag.c2 k hkb;rw[<-Hm.out]at c0 c1 c2;rw[<-Hs.out]at c2;rw[u2.out]at x1;obtain⟨G0,C0⟩:∃G0,G0=W0.heap.size:=⟨_,rfl⟩;obtain⟨W1,o1⟩:∃W1,W1=W0.alloc (.cells #[.int .i64 m.F,.int .i64 m.T,.string s] 59):=⟨_,rfl⟩;have E0:Below W0.heap.size W0 W1:=by rw[o1];exact(Below.refl _ W0).alloc lR _
 have f1:=hide (d0.out.keep E0);have M0:Hid (Blk W1 G0 #[.int .i64 m.F,.int .i64 m.T,.string s] 59):=hide (by rw[o1];exact Blk.new' C0);have G2:Hid (w.heap.size+4<=W1.heap.size):=hide (by have:=E0.size;have:=C2.out;omega);have va:∀o,(W0.alloc o).cell? ⟨w.heap.size+2,2,none⟩=some (.int .i64 (pl:Int)):=fun o=>by have:=(d0.out.bv.alloc o).cell 2;rw[j0.out]at this;simpa using this
 have vb:∀o,(W0.alloc o).cell? ⟨w.heap.size+2,3,none⟩=some (.int .i64 (cv:Int)):=fun o=>by have:=(d0.out.bv.alloc o).cell 3;rw[j0.out]at this;simpa using this
 have X1:=hide o1;have A1:=hide C0;clear E0 o1 C0;go_wp2_with fail;go_at_call 52;refine(jA _ _ _ _).mono ?_;rintro e w1 ⟨rfl,g0⟩;rw[g0];clear g0;have Y1:(decide (0<=(pl:Int)) && decide ((pl:Int)<=(L:Int)-1))=true:=by simp;omega
 rw[Y1];clear Y1;go_wp2_with fail;go_at_call 52;refine(jA _ _ _ _).mono ?_;rintro e w1 ⟨rfl,g0⟩;rw[g0];clear g0;have Z1:(decide (1<=(cv:Int)) && decide ((cv:Int)<=255))=true:=by simp;omega
 rw[Z1];clear Z1;go_wp2_with fail;rw[<-X1.out,<-A1.out];clear c0 c1 c2 va vb v0 v1 v2 v3 v4 n0 n1 n2 n3 n4 x0 x1;refine EA (fun W=>Below W1.heap.size W1 W) (oC [.pointer (some ⟨G0,2,none⟩),.string s,.pointer (some ⟨w.heap.size+1+1,2,none⟩),.int .i64 (pl:Int),.int .u8 (av:Int),.int .i64 (av:Int),.pointer (some ⟨w.heap.size+1+1,3,none⟩),.int .i64 (cv:Int),.int .i64 (av:Int),.int .i64 (cv:Int),.int .i64 0]) (by kernel_rfl) (by kernel_rfl) (by kernel_rfl) (⟨rfl,rfl,rfl,lR,fun _ _=>rfl⟩) ⟨?_,?_,?_,?_,?_,?_,?_,?_,?_,?_,?_,trivial⟩ ?_;rotate_right
 ·intro t W hG hE;have e8:=aA (hE 8 (by decide)) rfl;have e9:=aA (hE 9 (by decide)) rfl;have g1:=aA (hE 10 (by decide)) rfl;have u0:=hide hG;clear hE hG;simp only[fill,Act.put,sX,sY,sU,e8,e9,g1];clear e8 e9 g1;obtain⟨W2,p2⟩:∃W2,W2=W:=⟨_,rfl⟩;rw[<-p2]at u0 |-;clear p2;have H2:=hide (f1.out.keep u0.out);have a2:=hide (M0.out.below u0.out M0.out.lt);have I2:Hid (w.heap.size+4<=W2.heap.size):=hide (by have:=u0.out.size;have:=G2.out;omega);clear u0 M0 f1 X1;go_wp2_with fail
  go_loopw [22,23] (fun c b wr=>∃j:Nat,j<=8/\b=.int .i64 ((2 ^ j:Nat):Int)/\c=.int .i64 ((ZC av cv j:Nat):Int)/\Hid (Below W2.heap.size W2 wr)) (fun _ b _=>256-(intOf b).toNat)
  case atStart=>exact⟨0,by omega,rfl,rfl,hide (Below.refl _ _)⟩
  case round =>
   obtain⟨j,hj,r3,hcv,D0⟩:=hrel;subst r3;subst hcv;have h1:=hide (H2.out.keep D0.out);obtain⟨bt,w0⟩:∃bt,bt=2 ^ j:=⟨_,rfl⟩;rw[<-w0];by_cases hlt:j<8
   ·have J2:2 ^ j<=2 ^ 7:=Nat.pow_le_pow_right (by omega) (by omega);have K2:=Nat.two_pow_pos j;have L2:1<=bt:=by omega
    have M2:bt<=128:=by omega
    have N2:(bt:Int)<256:=by omega
    have f0:Hid (2 ^ (j+1)=2*bt):=hide (by rw[w0,Nat.pow_succ];omega);obtain⟨H0,q0⟩:∃H0,H0=ZC av cv j:=⟨_,rfl⟩;have D3:H0<bt:=by rw[q0,w0];exact SH av cv j
    have N0:Hid (ZC av cv (j+1)=H0+if av / bt % 2≠cv / bt % 2 then bt else 0):=hide (by rw[q0,w0];rfl);rw[<-q0];obtain⟨df,k0⟩:∃df:Bool,df=((av:Int) / (bt:Int) % 2 != (cv:Int) / (bt:Int) % 2):=⟨_,rfl⟩;have B1:=hide k0;have b2:Hid (df=(((av / bt % 2:Nat):Int) != ((cv / bt % 2:Nat):Int))):=hide (by rw[k0,Int.natCast_emod,Int.natCast_emod,Int.natCast_ediv,Int.natCast_ediv];rfl);have O2:av / bt<=av:=Nat.div_le_self _ _;have P2:cv / bt<=cv:=Nat.div_le_self _ _;have E3:=hide w0;have Q2:Hid (IntKind.i64.wrap ((av:Int) / (bt:Int))=(av:Int) / (bt:Int)):=hide (by obtain⟨d,hd⟩:∃d,d=av / bt:=⟨_,rfl⟩;rw[<-Int.natCast_ediv,<-hd];rw[<-hd]at O2;exact rH (by omega) (by omega));have R2:Hid (IntKind.i64.wrap ((cv:Int) / (bt:Int))=(cv:Int) / (bt:Int)):=hide (by obtain⟨d,hd⟩:∃d,d=cv / bt:=⟨_,rfl⟩;rw[<-Int.natCast_ediv,<-hd];rw[<-hd]at P2;exact rH (by omega) (by omega));clear w0 q0 J2 K2 k0;go_wp2_with fail;refine EA (fun W=>Below wr.heap.size wr W) (oC [.int .i64 (av:Int),.int .i64 (bt:Int),.int .i64 ((av:Int) / (bt:Int)),.int .i64 ((av:Int) / (bt:Int) % 2),.int .i64 (cv:Int),.int .i64 (bt:Int),.int .i64 ((cv:Int) / (bt:Int)),.int .i64 ((cv:Int) / (bt:Int) % 2),.bool df]) (by kernel_rfl) (by kernel_rfl) (by kernel_rfl) (⟨rfl,rfl,rfl,lR,fun _ _=>rfl⟩) ⟨?_,?_,?_,?_,?_,?_,?_,?_,?_,trivial⟩ ?_;rotate_right
    ·intro t W hG hE;have e8:=aA (hE 8 (by decide)) rfl;have u0:=hide hG;clear hE hG;simp only[fill,Act.put,sX,sY,sU,e8];clear e8;by_cases hd:av / bt % 2=cv / bt % 2
     ·have k0:df=false:=by rw[b2.out,hd];simp
      rw[k0];have O0:Hid (ZC av cv (j+1)=H0):=hide (by rw[N0.out,if_neg (by omega)];rfl);have Q0:=hide (D0.out.trans (u0.out.mono D0.out.size));clear k0 hd;go_wp2;go_roundw
      case rel =>
       first
       | exact⟨j+1,by omega,by rw[f0.out];go_num,by rw[O0.out],Q0⟩
       | ((repeat apply Exists.intro);refine⟨?_,rfl⟩;exact⟨j+1,by omega,by rw[f0.out];go_num,by rw[O0.out],Q0⟩)
      case measure=>simp[intOf];omega
     ·have k0:df=true:=by rw[b2.out];simp;omega
      rw[k0];have O0:Hid (ZC av cv (j+1)=H0+bt):=hide (by rw[N0.out,if_pos hd]);have Q0:=hide (D0.out.trans (u0.out.mono D0.out.size));clear k0 hd;go_wp2;go_roundw
      case rel =>
       first
       | exact⟨j+1,by omega,by rw[f0.out];go_num,by rw[O0.out];go_num,Q0⟩
       | ((repeat apply Exists.intro);refine⟨?_,rfl⟩;exact⟨j+1,by omega,by rw[f0.out];go_num,by rw[O0.out];go_num,Q0⟩)
      case measure=>simp[intOf];omega
    all_goals intro t W hG hp K hK
    all_goals simp only[fill,Act.put,sX,sY,sU]at hK |-
    ·rw[if_pos (by rfl)];go_simp;exact hK _ _ hG rfl (fun _ _ _ h=>h)
    ·rw[if_pos (by rfl)];go_simp;exact hK _ _ hG rfl (fun _ _ _ h=>h)
    ·have e0:=aA (hp 0 (by decide)) rfl;have e1:=aA (hp 1 (by decide)) rfl;have S2:¬ bt=0:=by omega
     have T2:=Q2.out;simp only[e0,e1]at hK |-;rw[if_pos (by rfl)];go_simp;exact hK _ _ hG rfl (fun _ _ _ h=>h)
    ·have e2:=aA (hp 2 (by decide)) rfl;simp only[e2]at hK |-;rw[if_pos (by rfl)];go_simp;exact hK _ _ hG rfl (fun _ _ _ h=>h)
    ·rw[if_pos (by rfl)];go_simp;exact hK _ _ hG rfl (fun _ _ _ h=>h)
    ·rw[if_pos (by rfl)];go_simp;exact hK _ _ hG rfl (fun _ _ _ h=>h)
    ·have e4:=aA (hp 4 (by decide)) rfl;have e5:=aA (hp 5 (by decide)) rfl;have S2:¬ bt=0:=by omega
     have T2:=R2.out;simp only[e4,e5]at hK |-;rw[if_pos (by rfl)];go_simp;exact hK _ _ hG rfl (fun _ _ _ h=>h)
    ·have e6:=aA (hp 6 (by decide)) rfl;simp only[e6]at hK |-;rw[if_pos (by rfl)];go_simp;exact hK _ _ hG rfl (fun _ _ _ h=>h)
    ·have e3:=aA (hp 3 (by decide)) rfl;have e7:=aA (hp 7 (by decide)) rfl;simp only[e3,e7]at hK |-;rw[if_pos (by rfl)];go_simp;exact hK _ _ hG (by rw[<-B1.out];rfl) (fun _ _ _ h=>h)
   ·have C1:j=8:=by omega
    have N0:Hid (ZC av cv j=xs):=hide (by rw[C1,t1.out]);have R0:bt=256:=by rw[w0,C1]
    rw[N0.out,R0];have HC:=hide (z1.out wr h1.out.below);have d2:=hide (a2.out.below D0.out a2.out.lt);have f2:Hid (w.heap.size+4<=wr.heap.size):=hide (by have:=D0.out.size;have:=I2.out;omega);have x0:=h1.out.bx.cell 0;have x1:=h1.out.bx.cell 1;rw[U1.out]at x0 x1;simp at x0 x1;clear z1 C1 R0 N0 w0;go_wp2_with fail;go_at_call 58;refine HC.out.mono ?_;rintro r W3 ⟨⟨P0,Bv,y,J1,rfl⟩,F0⟩;obtain⟨ba,bc,q2⟩:=QA J1.live.bag;obtain⟨bl,K1⟩:∃bl,bl=(x.eng).bag.length:=⟨_,rfl⟩;rw[<-K1]at q2;subst q2;have g2:=hide K1;obtain⟨P,hP⟩:∃P,P=W3.heap.size:=⟨_,rfl⟩;obtain⟨W4,q1⟩:∃W4,W4=W3.alloc (.cells #[.slice (some ⟨y.G,0,none⟩) N y.gc,.slice ba bl bc] 31):=⟨_,rfl⟩;have S0:Below W3.heap.size W3 W4:=by rw[q1];exact(Below.refl _ W3).alloc lR _
    have z0:=F0.trans (S0.mono F0.size);have D1:=J1.rebox;rw[<-q1,<-hP]at D1;have E1:=hide D1.live;have m0:=hide (h1.out.keep z0);have U2:=hide z0;have V2:=hide q1;have HP:=hide hP;clear J1 F0 S0 z0 D1 q1 hP HC K1 x0 x1;have v0:=m0.out.bv.cell 0;have v1:=m0.out.bv.cell 1;have v2:=m0.out.bv.cell 2;have v3:=m0.out.bv.cell 3;have v4:=m0.out.bv.cell 4;rw[j0.out]at v0 v1 v2 v3 v4;simp at v0 v1 v2 v3 v4;have i1:=hide (d2.out.below U2.out d2.out.lt);have F1:Hid (k<x.eng.bag.length):=hide (by rw[L0.out];exact hkb);obtain⟨gB,cap,hq,_,_,_⟩:=E1.out.mail F1.out;obtain⟨s3,L1,t3⟩:ba=some ⟨gB,0,none⟩/\bl=x.eng.bag.length/\bc=cap:=by simpa using hq
    clear hq L1;subst s3;subst t3;have G1:Hid ((k:Int)<(bl:Int)):=hide (by rw[g2.out,L0.out];exact w2);clear v0 v1 v2 v3 v4;go_wp2_with fail;rw[<-V2.out,<-HP.out];refine KA 23 _ (fun W=>Below W4.heap.size W4 W) (spE [.pointer (some ⟨P,1,none⟩),.slice (some ⟨gB,0,none⟩) bl bc,.pointer (some ⟨w.heap.size+1+1,1,none⟩),.int .i64 (k:Int),.pointer (some ⟨G0,2,none⟩),.string s,.pointer (some ⟨w.heap.size+1+1,2,none⟩),.int .i64 (pl:Int),.string sA,.int .i64 (xs:Int),.int .u8 (xs:Int),undef,.string sB,.string B0,.pointer (some ⟨G0,2,none⟩),.string s,.pointer (some ⟨w.heap.size+1+1,2,none⟩),.int .i64 (pl:Int),.int .i64 ((pl+1:Nat):Int),.string sC,.string s2,.pointer (some ⟨gB,k*3,none⟩),.pointer (some ⟨gB,k*3+2,none⟩)] xs) (fun _ W=>Live wr.heap.size P N (x.eng.step n.net v.ev) (.slice (some ⟨gB,0,none⟩) bl bc) y W/\SB w n x v W) (fun _ _ _=>True) (by kernel_rfl) (by kernel_rfl) (by kernel_rfl) (by kernel_rfl) (by kernel_rfl) rfl (show Below W4.heap.size W4 W4.drew from ⟨rfl,rfl,rfl,lR,fun _ _=>rfl⟩) ⟨?_,?_,?_,?_,?_,?_,?_,?_,?_,?_,?_,?_,?_,?_,?_,?_,?_,?_,?_,?_,?_,?_,?_,trivial⟩ ?_ trivial ?_;rotate_right
    ·intro t W hG _;simp only[fill,Act.put,sX,sY,sU];obtain⟨hL,hS⟩:=hG;have HS:=hide hS;have p0:=hL.head.cell 0;have p1:=hL.head.cell 1;simp at p0 p1;have i2:Hid (x.eng.step n.net v.ev=x.eng.step n.net v.ev):=hide rfl;have HF:=hide (step_fin hL HS.out (by have:=f2.out;omega) HR.out.check HN.out (by rw[<-i2.out];exact HR.out.fit.step (Net.good_of_check HR.out.check) I0.out) i2.out.symm I0.out);have c7:=(HS.out.br.set 0 (.slice (some ⟨y.G,0,none⟩) N y.gc)).set 1 (.slice (some ⟨gB,0,none⟩) bl bc);have e0:=c7.cell 0;have e1:=c7.cell 1;simp at e0 e1;have r0:=HS.out.br.cell 0;have r1:=HS.out.br.cell 1;have F3:=HS.out.br.frozen 0;have G3:=HS.out.br.frozen 1;simp at r0 r1;clear c7 hL hS;go_wp2;exact bodyPost_ret (v:=.tuple #[.agg #[.slice (some ⟨y.G,0,none⟩) N y.gc,.slice (some ⟨gB,0,none⟩) bl bc],.int .i64 0]) (by simp[results,Tryz.results19,go_sem,e0,e1]) rfl HF.out
    rotate_right
    ·intro t W hG hE _ K hK;have X2:=JB (hE 20 (by omega)) (by decide) rfl;have Y2:=JB (hE 22 (by omega)) (by decide) rfl;simp only[fill,Act.put,sX,sY,sU,X2,Y2]at hK |-;rw[if_pos (by rfl)];have T0:=E1.out.below hG;have A0:=T0.setMail F1.out (by rw[<-g2.out]) (m.b.set pl (m.b.getD pl 0 ^^^ u8 (cv:Int)));rw[<-u1.out]at A0;obtain⟨_,_,hq,_,_,k2⟩:=T0.mail F1.out;obtain⟨rfl,M1,rfl⟩:gB=_/\_/\bc=_:=by simpa using hq
     clear M1;have kf:W.frozen? ⟨gB,k*3+2,none⟩=false:=by
      obtain⟨_,u3⟩:=T0.bag;rcases u3 with ⟨h0,_⟩ | ⟨g',cap',cur,e1,hbase,hb,_⟩
      ·cases h0
      ·obtain⟨rfl,_,rfl⟩:gB=g'/\_/\bc=cap':=by simpa using e1
       exact Blk.frozen hb _
     have Z2:=(T0.bag.lt gB rfl).1;have j2:SB w n x v (W.setCell ⟨gB,k*3+2,none⟩ (.string s2)):=(m0.out.keep hG).set (by have:=f2.out;omega) _ _;have l2:=(show Live wr.heap.size P N (x.eng.step n.net v.ev) (.slice (some ⟨gB,0,none⟩) bl bc) y (W.setCell ⟨gB,k*3+2,none⟩ (.string s2)) by rw[J0.out];exact A0);have a3:=hide (And.intro l2 j2);clear A0 T0 hq Z2 j2 l2 hE;go_simp;have h9:=hK undef _ a3.out;simp only[List.getElem_toArray,List.getElem_cons_succ,List.getElem_cons_zero]at h9;exact h9
    all_goals intro t W hG hp ht K hK
    all_goals clear ht
    all_goals simp only[fill,Act.put,sX,sY,sU]at hK |-
    ·rw[if_pos (by rfl)];go_simp;exact hK _ _ hG (IB (by decide) rfl) (fun _ _ _ h=>h)
    ·have e0:=JB (hp 0 (by decide)) (by decide) rfl;have cx:=(E1.out.below hG).head.cell 1;simp at cx;simp only[e0]at hK |-;rw[if_pos (by rfl)];go_simp;exact hK _ _ hG (IB (by decide) rfl) (fun _ _ _ h=>h)
    ·rw[if_pos (by rfl)];go_simp;exact hK _ _ hG (IB (by decide) rfl) (fun _ _ _ h=>h)
    ·have e2:=JB (hp 2 (by decide)) (by decide) rfl;have cx:=(m0.out.keep hG).bv.cell 1;rw[j0.out]at cx;simp at cx;simp only[e2]at hK |-;rw[if_pos (by rfl)];go_simp;exact hK _ _ hG (IB (by decide) rfl) (fun _ _ _ h=>h)
    ·rw[if_pos (by rfl)];go_simp;exact hK _ _ hG (IB (by decide) rfl) (fun _ _ _ h=>h)
    ·have e4:=JB (hp 4 (by decide)) (by decide) rfl;have cx:=(i1.out.below hG i1.out.lt).cell 2;simp at cx;simp only[e4]at hK |-;rw[if_pos (by rfl)];go_simp;exact hK _ _ hG (IB (by decide) rfl) (fun _ _ _ h=>h)
    ·rw[if_pos (by rfl)];go_simp;exact hK _ _ hG (IB (by decide) rfl) (fun _ _ _ h=>h)
    ·have e6:=JB (hp 6 (by decide)) (by decide) rfl;have cx:=(m0.out.keep hG).bv.cell 2;rw[j0.out]at cx;simp at cx;simp only[e6]at hK |-;rw[if_pos (by rfl)];go_simp;exact hK _ _ hG (IB (by decide) rfl) (fun _ _ _ h=>h)
    ·have e5:=JB (hp 5 (by decide)) (by decide) rfl;have e7:=JB (hp 7 (by decide)) (by decide) rfl;have hA:=HA.out;have b3:pl<=L:=by omega
     simp only[e5,e7]at hK |-;rw[if_pos (by rfl)];go_simp;exact hK _ _ hG (IB (by decide) rfl) (fun _ _ _ h=>h)
    ·rw[if_pos (by rfl)];go_simp;exact hK _ _ hG (IB (by decide) rfl) (fun _ _ _ h=>h)
    ·have e9:=JB (hp 9 (by decide)) (by decide) rfl;have H3:IntKind.u8.wrap (xs:Int)=(xs:Int):=wrap_u8 (by omega) (by have:=P1.out;omega);simp only[e9]at hK |-;rw[if_pos (by rfl)];go_simp;exact hK _ _ hG (IB (by decide) rfl) (fun _ _ _ h=>h)
    ·have g1:=JB (hp 10 (by decide)) (by decide) rfl;simp only[g1]at hK |-;rw[if_pos (by rfl)];go_simp;exact hK _ _ (hG.alloc hG.size _) (lS.2 ⟨_,rfl,Blk.new W _ _⟩) (fun _ _ _ h=>kS ((Below.refl _ W).alloc lR _) h)
    ·obtain⟨g,w3,hg⟩:=lS.1 (hp 11 (by decide));simp only[w3]at hK |-;have hcv:=lT W P1.out hg;rw[if_pos (by rfl)];rw[<-y1.out]at hcv;go_simp;exact hK _ _ hG (IB (by decide) rfl) (fun _ _ _ h=>h)
    ·have e8:=JB (hp 8 (by decide)) (by decide) rfl;have d3:=JB (hp 12 (by decide)) (by decide) rfl;have I3:=y2.out;have U0:=Q1.out;have V0:=R1.out;have H1:¬ 9223372036854775807<pl+1:=by omega
     simp only[e8,d3]at hK |-;rw[if_pos (by rfl)];go_simp;exact hK _ _ hG (IB (by decide) rfl) (fun _ _ _ h=>h)
    ·rw[if_pos (by rfl)];go_simp;exact hK _ _ hG (IB (by decide) rfl) (fun _ _ _ h=>h)
    ·have f3:=JB (hp 14 (by decide)) (by decide) rfl;have cx:=(i1.out.below hG i1.out.lt).cell 2;simp at cx;simp only[f3]at hK |-;rw[if_pos (by rfl)];go_simp;exact hK _ _ hG (IB (by decide) rfl) (fun _ _ _ h=>h)
    ·rw[if_pos (by rfl)];go_simp;exact hK _ _ hG (IB (by decide) rfl) (fun _ _ _ h=>h)
    ·have g3:=JB (hp 16 (by decide)) (by decide) rfl;have cx:=(m0.out.keep hG).bv.cell 2;rw[j0.out]at cx;simp at cx;simp only[g3]at hK |-;rw[if_pos (by rfl)];go_simp;exact hK _ _ hG (IB (by decide) rfl) (fun _ _ _ h=>h)
    ·have h3:=JB (hp 17 (by decide)) (by decide) rfl;simp only[h3]at hK |-;rw[if_pos (by rfl)];go_simp;exact hK _ _ hG (IB (by decide) (by rw[rH (by omega) (by omega)];rfl)) (fun _ _ _ h=>h)
    ·have i3:=JB (hp 15 (by decide)) (by decide) rfl;have j3:=JB (hp 18 (by decide)) (by decide) rfl;have hC:=x2.out;have J3:0<=(pl:Int)+1/\(pl:Int)+1<=(L:Int):=by omega
     simp only[i3,j3]at hK |-;rw[if_pos (by rfl)];go_simp;exact hK _ _ hG (IB (by decide) rfl) (fun _ _ _ h=>h)
    ·have k3:=JB (hp 13 (by decide)) (by decide) rfl;have l3:=JB (hp 19 (by decide)) (by decide) rfl;have h2:=z2.out;have X0:=A2.out;have H1:¬ 9223372036854775807<pl+1+(L-(pl+1)):=by omega
     simp only[k3,l3]at hK |-;rw[if_pos (by rfl)];go_simp;exact hK _ _ hG (IB (by decide) rfl) (fun _ _ _ h=>h)
    ·have e1:=JB (hp 1 (by decide)) (by decide) rfl;have e3:=JB (hp 3 (by decide)) (by decide) rfl;have m3:=G1.out;simp only[e1,e3]at hK |-;rw[if_pos (by rfl)];go_simp;exact hK _ _ hG (IB (by decide) rfl) (fun _ _ _ h=>h)
    ·have o3:=JB (hp 21 (by decide)) (by decide) rfl;simp only[o3]at hK |-;rw[if_pos (by rfl)];go_simp;exact hK _ _ hG (IB (by decide) rfl) (fun _ _ _ h=>h)
 all_goals intro t W hG hp K hK
 all_goals simp only[fill,Act.put,sX,sY,sU]at hK |-
 ·rw[if_pos (by rfl)];go_simp;exact hK _ _ hG rfl (fun _ _ _ h=>h)
 ·have e0:=aA (hp 0 (by decide)) rfl;have cx:=(M0.out.below hG M0.out.lt).cell 2;simp at cx;simp only[e0]at hK |-;rw[if_pos (by rfl)];go_simp;exact hK _ _ hG rfl (fun _ _ _ h=>h)
 ·rw[if_pos (by rfl)];go_simp;exact hK _ _ hG rfl (fun _ _ _ h=>h)
 ·have e2:=aA (hp 2 (by decide)) rfl;have cx:=(f1.out.keep hG).bv.cell 2;rw[j0.out]at cx;simp at cx;simp only[e2]at hK |-;rw[if_pos (by rfl)];go_simp;exact hK _ _ hG rfl (fun _ _ _ h=>h)
 ·have e1:=aA (hp 1 (by decide)) rfl;have e3:=aA (hp 3 (by decide)) rfl;have hg:=Hg.out;simp only[e1,e3]at hK |-;rw[if_pos (by rfl)];go_simp;exact hK _ _ hG rfl (fun _ _ _ h=>h)
 ·have e4:=aA (hp 4 (by decide)) rfl;have K3:IntKind.i64.wrap (av:Int)=(av:Int):=rH (by omega) (by omega);simp only[e4]at hK |-;rw[if_pos (by rfl)];go_simp;exact hK _ _ hG rfl (fun _ _ _ h=>h)
 ·rw[if_pos (by rfl)];go_simp;exact hK _ _ hG rfl (fun _ _ _ h=>h)
 ·have e6:=aA (hp 6 (by decide)) rfl;have cx:=(f1.out.keep hG).bv.cell 3;rw[j0.out]at cx;simp at cx;simp only[e6]at hK |-;rw[if_pos (by rfl)];go_simp;exact hK _ _ hG rfl (fun _ _ _ h=>h)
 ·have e5:=aA (hp 5 (by decide)) rfl;simp only[e5]at hK |-;rw[if_pos (by rfl)];go_simp;exact hK _ _ hG rfl (fun _ _ _ h=>h)
 ·have e7:=aA (hp 7 (by decide)) rfl;simp only[e7]at hK |-;rw[if_pos (by rfl)];go_simp;exact hK _ _ hG rfl (fun _ _ _ h=>h)
 ·rw[if_pos (by rfl)];go_simp;exact hK _ _ hG rfl (fun _ _ _ h=>h)
end Go.Proofs.YtjhkadffaephmacGreat
