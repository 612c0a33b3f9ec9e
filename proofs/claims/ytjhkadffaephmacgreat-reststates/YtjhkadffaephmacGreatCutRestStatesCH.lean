import Derived.Test.YtjhkadffaephmacGreatCutRestStatesCG
namespace Go.Proofs.YtjhkadffaephmacGreat
set_option maxHeartbeats 16000000
set_option maxRecDepth 100000
open Go.RowKit
theorem qE.drewN {l:List UInt8}{base:Nat}{e:Ending}{w':World}(h:qE l base e w')(n:Nat):qE l base e (w'.drewN n):=by
 obtain⟨p,h1,h2,h3,h4⟩:=h;exact⟨p,h1,h2,⟨kD h3.ints n,h3.lt,h3.small⟩,fun h0=>⟨(h4 h0).1,(h4 h0).2.grown (below_drewN (Below.refl _ _) n)⟩⟩
theorem wrap_i64 {x:Int}(h0:0<=x)(h1:x<1000):IntKind.i64.wrap x=x:=by
 simp[IntKind.wrap,IntKind.bits,IntKind.signed];omega
theorem dP (l:List UInt8)(w:World)(hl:l.length<=maxLen):
 Calls Tryz.prog 57 #[txt l] w fun e w'=>qE l w.heap.size e w'/\Below w.heap.size w w':=by
 unfold maxLen at hl;have s1:(ByteArray.mk l.toArray).size=l.length:=by simp[ByteArray.size]
 have b0:=Blk.new w #[.int .i64 0,.int .i64 0,.slice none 0 0] 92;have y0:Below w.heap.size w (w.alloc (.cells #[.int .i64 0,.int .i64 0,.slice none 0 0] 92)):=(Below.refl _ w).alloc lR _;by_cases L0:60<l.length
 ·have p0:=hide y0;have d0:=b0.cell 0;have d1:=b0.cell 1;have d2:=b0.cell 2;have df:=b0.frozen;simp at d0 d1 d2;have Hx:Hid (UA l=2):=hide (by unfold UA;rw[if_pos L0]);unfold txt;generalize hs:ByteArray.mk l.toArray=s at *;have D0:(60:Int)<(s.size:Int):=by omega
  clear L0 hs b0 y0;go_enter Tryz.func57,Tryz.ntmps57;go_wp2;exact bodyPost_ret (v:=.tuple #[.agg #[.int .i64 0,.int .i64 0,.slice none 0 0],.int .i64 2]) (by simp[results,Tryz.results57,go_sem]) rfl ⟨EB Hx.out (by decide),p0.out⟩
 by_cases h6:l.length<6
 ·exact EE l w (by omega) (by unfold UA;rw[if_neg L0,if_pos h6]) (Or.inl h6)
 obtain⟨a,b,c,d,r,x,y,e6⟩:=aS l (by omega);have j0:l.length=r.length+6:=by rw[e6];simp
 have s0:=zK (a:=a) (b:=b) (c:=c) (d:=d) (x:=x) (y:=y) (r:=r) (by omega);rw[<-e6]at s0;have q0:l.getD 0 0=a:=by rw[e6];rfl
 have q1:l.getD 1 0=b:=by rw[e6];rfl
 have q2:l.getD 2 0=c:=by rw[e6];rfl
 have q3:l.getD 3 0=d:=by rw[e6];rfl
 by_cases k0:a.toNat=83;rotate_left
 ·exact EE l w (by omega) (by rw[s0,if_neg (fun h=>k0 h.1)]) (Or.inr (Or.inl ⟨by omega,by rw[q0];exact k0⟩))
 by_cases k3:d.toNat=r.length;rotate_left
 ·exact EE l w (by omega) (by rw[s0,if_neg (fun h=>k3 h.2.1)]) (Or.inr (Or.inr (Or.inl ⟨by omega,by rw[q0];exact k0,by rw[q3];omega⟩)))
 by_cases k1:b.toNat<=250;rotate_left
 ·exact EE l w (by omega) (by rw[s0,if_neg (fun h=>k1 h.2.2.1)]) (Or.inr (Or.inr (Or.inr (Or.inl ⟨by omega,by rw[q0];exact k0,by rw[q3];omega,by rw[q1];omega⟩))))
 by_cases k2:c.toNat<=250;rotate_left
 ·exact EE l w (by omega) (by rw[s0,if_neg (fun h=>k2 h.2.2.2.1)]) (Or.inr (Or.inr (Or.inr (Or.inr ⟨by omega,by rw[q0];exact k0,by rw[q3];omega,by rw[q1];omega,by rw[q2];omega⟩))))
 obtain⟨W0,A0⟩:∃W0,W0=w.alloc (.cells #[.int .i64 0,.int .i64 0,.slice none 0 0] 92):=⟨_,rfl⟩;rw[<-A0]at b0 y0;have O0:W0.heap.size=w.heap.size+1:=by rw[A0];simp
 have HG:Hid (∀ (i:Nat) (h:i<(ByteArray.mk l.toArray).size),((ByteArray.mk l.toArray)[i]).toNat=(l.getD i 0).toNat):=hide (fun i h=>by rw[eG h]);have P0:(ByteArray.mk l.toArray).extract 0 (l.length-2)=ByteArray.mk ([a,b,c,d] ++ r).toArray:=by
  rw[ByteArray.extract_mk];congr 2;rw[j0,e6];simp
 have HS:=hide (fun W=>lL ([a,b,c,d] ++ r) W (by simp;omega));unfold txt at HS |-;have gr:∀k,k<r.length->l.getD (4+k) 0=r.getD k 0:=fun k hk=>by
  have h1:=(XC a b c d r x y).2.2.2 k (by rw[(XC a b c d r x y).2.2.1];exact hk);rw[<-e6]at h1;have h2:((l.getD (4+k) 0).toNat:Int)=((r.getD k 0).toNat:Int):=h1;exact UInt8.toNat_inj.1 (by omega)
 have gx:l.getD (l.length-2) 0=x/\l.getD (l.length-1) 0=y:=by
  constructor
  ·rw[j0,e6,List.getD_eq_getElem?_getD,List.getElem?_append_right (by simp)];simp
  ·rw[j0,e6,List.getD_eq_getElem?_getD,List.getElem?_append_right (by simp)];simp
 have Q0:Hid ((LA l).same ⟨(b.toNat:Int),(c.toNat:Int),r.length,fun i=>((r.getD i 0).toNat:Int)⟩):=hide (by rw[e6];exact XC a b c d r x y);have R0:=x.toNat_lt;have S0:=y.toNat_lt;have T0:=CE ([a,b,c,d] ++ r);generalize ByteArray.mk ([a,b,c,d] ++ r).toArray=sb at *;generalize ByteArray.mk l.toArray=s at *;have g0:∀h:0<s.size,(s[0]'h).toNat=83:=fun h=>by rw[HG.out 0 h,q0,k0]
 have g1:∀h:1<s.size,(s[1]'h).toNat=b.toNat:=fun h=>by rw[HG.out 1 h,q1]
 have g2:∀h:2<s.size,(s[2]'h).toNat=c.toNat:=fun h=>by rw[HG.out 2 h,q2]
 have g3:∀h:3<s.size,(s[3]'h).toNat=l.length-6:=fun h=>by rw[HG.out 3 h,q3,k3];omega
 have gs:Hid (∀k,k<r.length->∀h:4+k<s.size,(s[4+k]'h).toNat=(r.getD k 0).toNat):=hide (fun k hk h=>by rw[HG.out _ h,gr k hk]);have g4:∀h:l.length-2<s.size,(s[l.length-2]'h).toNat=x.toNat:=fun h=>by rw[HG.out _ h,gx.1]
 have g5:∀h:l.length-1<s.size,(s[l.length-1]'h).toNat=y.toNat:=fun h=>by rw[HG.out _ h,gx.2]
 have E0:Hid (UA l=if (∀i,i<r.length->(r.getD i 0).toNat<=250)/\sumOf ([a,b,c,d] ++ r)=256*x.toNat+y.toNat then 0 else 1):=hide (by
  rw[s0];by_cases hc:(∀i,i<r.length->(r.getD i 0).toNat<=250)/\sumOf ([a,b,c,d] ++ r)=256*x.toNat+y.toNat
  ·rw[if_pos hc,if_pos ⟨k0,k3,k1,k2,hc⟩]
  ·rw[if_neg hc,if_neg (fun h=>hc h.2.2.2.2)])
 generalize sumOf ([a,b,c,d] ++ r)=sm at *;generalize b.toNat=F at *;generalize c.toNat=T at *;generalize x.toNat=X at *;generalize y.toNat=Y at *;have D0:¬ (60:Int)<(s.size:Int):=by omega
 have t1:¬ (s.size:Int)<6:=by omega
 have u1:¬ (250:Int)<(F:Int):=by omega
 have v1:¬ (250:Int)<(T:Int):=by omega
 have w1:(((l.length-6:Nat):Int) != (l.length:Int)-6)=false:=by simp;omega
 have U0:=hide j0;have V0:r.length<=54:=by omega
 clear j0 e6 s0 q0 q1 q2 q3 k0 k3 HG gr gx;go_enter Tryz.func57,Tryz.ntmps57;go_wp2;rw[<-A0];clear A0
 go_cut [4] from 38 to 44 (fun p4 wx=>∃b4:Nat,p4=.pointer (some ⟨b4,0,none⟩)/\Hid (w.heap.size<b4/\Blk wx b4 #[.int .i64 (F:Int),.int .i64 (T:Int),.slice none 0 0] 92/\Below (w.heap.size+1) W0 wx))
 case first =>
  go_region
  go_wp2_with fail;go_meet;exact⟨_,rfl,hide ⟨by omega,Blk.new' (by simp[O0]),((Below.refl _ W0).alloc (by omega) _).trans ⟨rfl,rfl,rfl,lR,fun _ _=>rfl⟩⟩⟩
 case rest =>
  obtain⟨b4,rfl,HC⟩:=hcut;have z0:Hid (ZG w b4 0 wc.heap.size F T r [] 0 wc):=hide (by
   obtain⟨p1,p2,p3⟩:=HC.out;have x1:=p3.size;exact⟨y0.trans (p3.mono (by omega)),b0.below p3 (by omega),p1,p2.lt,by omega,by have:=p2.lt;omega,⟨_,p2,World.ownsRow_nil _ _ _ _⟩,fun j hj=>absurd hj nZ,lR⟩)
  obtain⟨C,hC⟩:∃C,C=wc.heap.size:=⟨_,rfl⟩;rw[<-hC]at z0;clear hC HC;go_wp2
  go_loopw [5] (fun q wr=>∃k:Nat,k<=r.length/\q=.int .i64 ((4+k:Nat):Int)/\Hid (ZG w b4 0 C F T r [] k wr)/\Hid (∀i,i<k->(r.getD i 0).toNat<=250)) (fun q _=>r.length+4-(intOf q).toNat)
  case atStart=>exact⟨0,zL,rfl,z0,hide (fun i hi=>absurd hi nZ)⟩
  case round =>
   obtain⟨k,hk,rfl,HI,i0⟩:=hrel;have j0:=U0.out;have f0:=HI.out.res;have r0:=f0.cell 0;have r1:=f0.cell 1;have r2:=f0.cell 2;have rf:=f0.frozen;simp at r0 r1 r2;by_cases N0:k<r.length
   ·have X0:((4+k:Nat):Int)<(l.length:Int)-2:=by omega
    have y1:((4+k:Nat):Int)<(s.size:Int):=by omega
    have gk:=gs.out k N0;have z1:=(r.getD k 0).toNat_lt;have F0:Hid (∀W4 (g cap:Nat) v,W4.ownsRow C 3 1 (.slice (some ⟨g,0,none⟩) (k+1) cap) (k+1) (JA (fun i=>((r.getD i 0).toNat:Int)) k ++ [.int .i64 ((r.getD k 0).toNat:Int)])->Blk wr b4 #[.int .i64 F,.int .i64 T,v] 92->Below C wr W4->ZG w b4 0 C F T r [] (k+1) (W4.setCell ⟨b4,2,none⟩ (.slice (some ⟨g,0,none⟩) (k+1) cap))):=hide (fun W4 g cap v h1 h2 h3=>HI.out.put h1 h2 h3);by_cases x0:(r.getD k 0).toNat<=250
    ·have M0:Hid (∀i,i<k+1->(r.getD i 0).toNat<=250):=hide (fun i hi=>by
      by_cases e:i=k
      ·subst e;exact x0
      ·exact i0.out i (by omega))
     obtain⟨v,hv,ho⟩:=HI.out.cur;have A1:=HI.out.lo;have Y0:=HI.out.mid;have Z0:=HI.out.lt;obtain⟨g',u0,w4,w0,o0,H0⟩:=QP wr C v k _ ((r.getD k 0).toNat:Int) ho (by omega) Z0 32;have HN:=hide (F0.out w4 g' u0 v o0 hv H0);have G0:=hv.below H0 (by omega);have v2:=hv.cell 2;have B1:∀o,(wr.alloc o).cell? ⟨b4,2,none⟩=some v:=fun o=>(hv.alloc o).cell 2;have f1:=G0.cell 2;have C1:=G0.frozen 2;simp at v2 f1;have R1:Hid (∀z:Int,z=((r.getD k 0).toNat:Int)->(Builtin.append_ #[32,32] 32 #[v,.slice (some ⟨wr.heap.size,0,none⟩) 1 1]).run Tryz.prog (wr.alloc (.cells #[.int .i64 z] 3)).drew=.ok (.slice (some ⟨g',0,none⟩) (k+1) u0) w4):=hide (fun z hz=>by rw[hz];exact w0);have HZ:Hid (∀h,IntKind.i64.wrap (((s[(4+(k:Int)).toNat]'h).toNat:Nat):Int)=((r.getD k 0).toNat:Int)):=hide (fun h=>by
      have e:(4+(k:Int)).toNat=4+k:=by omega
      simp only[e];rw[gk (by omega)];exact wrap_i64 (by omega) (by omega))
     generalize (r.getD k 0).toNat=rv at *;have v0:¬ (250:Int)<(rv:Int):=by omega
     clear w0 o0 H0 G0 hv ho F0 HI i0 f0 j0;go_wp2
     go_region_law (refine rC rfl (.tmp 58) (.tmp 63) 32 rfl v (.slice (some ⟨wr.heap.size,0,none⟩) 1 1) (by simp[Act.eval]) (by simp[Act.eval]) (.slice (some ⟨g',0,none⟩) (k+1) u0) w4 (R1.out _ (HZ.out _)) ?_)
     all_goals
      go_wp2;go_roundw
      case rel =>
       first
       | exact⟨k+1,by omega,by go_num,HN,M0⟩
       | ((try refine⟨trivial,?_⟩);(repeat apply Exists.intro);refine⟨?_,rfl⟩;exact⟨k+1,by omega,by go_num,HN,M0⟩)
      case measure=>simp[intOf];omega
    ·have Hx:Hid (UA l=1):=hide (by rw[E0.out,if_neg (fun h=>x0 (h.1 k N0))]);have b3:=f0.set3 (.int .i64 0) (.int .i64 0) (.slice none 0 0);have e0:=b3.cell 0;have e1:=b3.cell 1;have e2:=b3.cell 2;unfold st3 at e0 e1 e2;simp at e0 e1 e2;have p0:=hide (iB HI.out.below lR (.int .i64 0) (.int .i64 0) (.slice none 0 0));generalize (r.getD k 0).toNat=rv at *;have v0:(250:Int)<(rv:Int):=by omega
     clear F0 HI i0 f0 j0 b3;go_wp2;exact bodyPost_ret (v:=.tuple #[.agg #[.int .i64 0,.int .i64 0,.slice none 0 0],.int .i64 1]) (by simp[results,Tryz.results57,go_sem,e0,e1,e2]) rfl ⟨EB Hx.out (by decide),p0.out⟩
   ·have i1:k=r.length:=by omega
    subst i1;have X0:¬ ((4+r.length:Nat):Int)<(l.length:Int)-2:=by omega
    have D1:=hide (HS.out);have E1:(2:Int)<=(l.length:Int):=by omega
    have i4:((l.length-2:Nat):Int)=(l.length:Int)-2:=by omega
    have i5:((l.length-1:Nat):Int)=(l.length:Int)-1:=by omega
    have hX:X<256:=R0;have hY:Y<256:=S0
    have j1:s.extract 0 ((l.length:Int)-2).toNat=sb:=by rw[<-P0];congr 1;omega
    have F1:∀h,(s[((l.length:Int)-2).toNat]'h).toNat=X:=fun h=>by
     have e:((l.length:Int)-2).toNat=l.length-2:=by omega
     simp only[e];exact g4 (by omega)
    have G1:∀h,(s[((l.length:Int)-1).toNat]'h).toNat=Y:=fun h=>by
     have e:((l.length:Int)-1).toNat=l.length-1:=by omega
     simp only[e];exact g5 (by omega)
    have j4:0<=(l.length:Int)-2:=by omega
    have j5:0<=(l.length:Int)-1:=by omega
    have j6:(l.length:Int)-2<(s.size:Int):=by omega
    have j7:(l.length:Int)-1<(s.size:Int):=by omega
    have j8:(l.length:Int)-2<=(s.size:Int):=by omega
    obtain⟨p,hp,I0,J0,B0,K0⟩:=HI.out.pkt (by omega);have c0:=hp.cell 0;have c1:=hp.cell 1;have c2:=hp.cell 2;simp[lC.cells]at c0 c1 c2;by_cases C0:sm=256*X+Y
    ·have o1:((sm:Int) != 256*(X:Int)+(Y:Int))=false:=by simp;omega
     have Hx:Hid (UA l=0):=hide (by rw[E0.out,if_pos ⟨i0.out,C0⟩]);have b3:=fun q=>(show Blk (wr.drewN q) w.heap.size #[.int .i64 0,.int .i64 0,.slice none 0 0] 92 from f0).set3 (.int .i64 p.F) (.int .i64 p.T) (.slice p.ra p.n p.rc);have e0:=fun q=>(b3 q).cell 0;have e1:=fun q=>(b3 q).cell 1;have e2:=fun q=>(b3 q).cell 2;unfold st3 at e0 e1 e2;simp at e0 e1 e2;have m0:p.pkt.same (LA l):=by
      have h1:=Q0.out;rw[I0];exact⟨h1.1.symm,h1.2.1.symm,h1.2.2.1.symm,fun i hi=>(h1.2.2.2 i (by have:=h1.2.2.1;simp only at this hi;omega)).symm⟩
     have HA:Hid (qE l w.heap.size (.returned (.tuple #[.agg #[.int .i64 p.F,.int .i64 p.T,.slice p.ra p.n p.rc],.int .i64 0])) (st3 wr w.heap.size (.int .i64 p.F) (.int .i64 p.T) (.slice p.ra p.n p.rc))) :=
      hide ⟨p,by rw[Hx.out];rfl,by unfold XH;rw[if_pos Hx.out];exact m0,J0.set3 B0 _ _ _,fun h0=>⟨Nat.le_of_lt (B0 h0),by unfold st3;exact(((K0 h0).set _ _).set _ _).set _ _⟩⟩
     have p0:=hide (iB HI.out.below lR (.int .i64 p.F) (.int .i64 p.T) (.slice p.ra p.n p.rc));clear m0 I0 J0 B0 K0 hp HI i0 f0 j0 b3 C0 z0;go_wp2_with fail
     go_quiet ((go_at_call 88;refine Calls.quiet_of (HS.out _)))
     go_wp2;exact bodyPost_ret (v:=.tuple #[.agg #[.int .i64 p.F,.int .i64 p.T,.slice p.ra p.n p.rc],.int .i64 0]) (by simp[results,Tryz.results57,go_sem,e0,e1,e2]) rfl ⟨HA.out.drewN _,below_drewN p0.out _⟩
    ·have o1:((sm:Int) != 256*(X:Int)+(Y:Int))=true:=by simp;omega
     have Hx:Hid (UA l=1):=hide (by rw[E0.out,if_neg (fun h=>C0 h.2)]);have b3:=fun q=>(show Blk (wr.drewN q) w.heap.size #[.int .i64 0,.int .i64 0,.slice none 0 0] 92 from f0).set3 (.int .i64 0) (.int .i64 0) (.slice none 0 0);have e0:=fun q=>(b3 q).cell 0;have e1:=fun q=>(b3 q).cell 1;have e2:=fun q=>(b3 q).cell 2;unfold st3 at e0 e1 e2;simp at e0 e1 e2;have p0:=hide (iB HI.out.below lR (.int .i64 0) (.int .i64 0) (.slice none 0 0));clear I0 J0 B0 K0 hp HI i0 f0 j0 b3 C0 z0;go_wp2_with fail
     go_quiet ((go_at_call 88;refine Calls.quiet_of (HS.out _)))
     go_wp2;exact bodyPost_ret (v:=.tuple #[.agg #[.int .i64 0,.int .i64 0,.slice none 0 0],.int .i64 1]) (by simp[results,Tryz.results57,go_sem,e0,e1,e2]) rfl ⟨EB Hx.out (by decide),below_drewN p0.out _⟩
theorem vJ (n:dA)(x:iA)(v:EvM)(N:Nat)(w:World)(h:n.In w.heap.size w)(hx:x.In w.heap.size w)(hv:v.In w.heap.size w)(hN:n.nodes=N)(hR:x.Right n.net N)(hcap:x.bag.bn<=x.bag.bc)(k:Nat)(hk:v.loc=(k:Int))(hkd:v.kind=2)(hkb:k<x.bag.bn):
 Calls Tryz.prog 19 #[n.val,x.val,v.val] w fun r w'=>EC n.net x v.ev w r w':=by
 obtain⟨i4,j4,u3,w3⟩:=SA hR.check hN;have t2:n.net.nodes=n.nodes:=rfl;have L0:x.eng.bag.length=x.bag.bn:=by show ((List.range x.bag.bn).map x.bag.M).length=_;simp
 have m4:=hR.bn;have I1:Hid (x.eng.stepErr n.net v.ev=0):=hide (Eng.err_deliver (v:=v.ev) hkd (show 0<=v.loc by omega) (show v.loc<(x.eng.bag.length:Int) by omega));obtain⟨m,hm⟩:∃m,m=x.bag.M k:=⟨_,rfl⟩;have M0:x.eng.bag.getD k zA=m:=by rw[hm];exact gG x.bag.M x.bag.bn k hkb
 have C0:Hid (x.eng.step n.net v.ev=(x.eng.without k).take n.net m):=hide (by rw[Eng.does_deliver (v:=v.ev) hkd];show x.eng.deliver n.net v.loc.toNat=_;rw[hk,<-M0];rfl);have G3:=hR.fit.mail m (by rw[<-M0];exact UD (by rw[L0];exact hkb));have HW:=hide (fun W (hb:Below w.heap.size w W)=>dG x N k W (hx.grown hb) hR.gn i4 j4 hR.bn hR.rl hR.tl hR.ll hkb hcap);obtain⟨tn,x3⟩:∃tn:Nat,m.T=tn:=⟨m.T.toNat,by omega⟩;obtain⟨fn,y3⟩:∃fn:Nat,m.F=fn:=⟨m.F.toNat,by omega⟩;have D0:tn<N:=by omega
 have S2:fn<N:=by omega
 have T2:=hide (fun (m:iA) W (hb:Below w.heap.size w W) (hm:m.In W.heap.size W) (hr:m.Right n.net N)=>fF n m N tn W (h.grown hb) hm hN hr D0);have U2:=hide (fun W=>dP m.b W (by unfold maxLen;omega));have V2:=hide (fun (i j:Int) (W:World) (hb:Below w.heap.size w W)=>nH n i j W (h.grown hb));have H3:2<=n.a.size:=(Net.good_of_check hR.check).law.good.lo;have u2:n.a.size<=24:=(Net.good_of_check hR.check).law.good.hi;have X2:=hide (fun a l c b o f (W:World) hi hb=>WH n a l c b o f W hi hb H3 u2);have J1:n.cells=#[.int .i64 n.a.size,.slice n.a.B.ga n.a.B.t.len n.a.B.cap,.slice n.a.E.ga n.a.E.t.len n.a.E.cap,.int .i64 N,.slice n.la n.ln n.lc]:=by simp only[dA.cells,Mat.val,hN]
 simp only[iA.val,iA.cells,dA.val,J1]at HW T2 V2 X2;have I3:Hid (x.bag.ba=some ⟨x.bag.bb,x.bag.bo,none⟩):=hide (hx.bag.ba (by omega));have Hm:=hide hm;have s1:=hide x3;have t1:=hide y3;have o4:(k:Int)<(x.bag.bn:Int):=by omega
 clear J1 M0 G3 hm x3 y3;obtain⟨W0,T1⟩:∃W0,W0=(((w.alloc (.cells n.cells 27)).alloc (.cells x.cells 31)).alloc (.cells v.cells 34)).alloc (.cells #[.slice none 0 0,.slice none 0 0] 31):=⟨_,rfl⟩;have Y2:SB w n x v W0:=by rw[T1];exact SB.start w n x v
 have a3:W0.heap.size=w.heap.size+4:=by rw[T1];simp
 have K1:n.cells=#[.int .i64 n.a.size,.slice n.a.B.ga n.a.B.t.len n.a.B.cap,.slice n.a.E.ga n.a.E.t.len n.a.E.cap,.int .i64 N,.slice n.la n.ln n.lc]:=by simp only[dA.cells,Mat.val,hN]
 have b2:v.cells=#[.int .i64 2,.int .i64 (k:Int),.int .i64 v.b,.int .i64 v.c,.slice v.ra v.rl v.rc]:=by rw[<-hkd,<-hk];rfl
 have d2:x.cells=#[.slice x.rs.ga x.rs.gn x.rs.gc,.slice x.bag.ba x.bag.bn x.bag.bc]:=rfl;have H:=hide h;have Hx:=hide hx;have Hv:=hide hv;have HR:=hide hR;have d0:=hide Y2;have J3:=hide a3;have f2:=hide K1;have b3:=hide b2;have w2:=hide d2;have HN:=hide hN;have K3:=hide L0;have p4:=hide w3;have d3:=hide u3;have q4:=hide hkd;have Hk:=hide hk;have L3:=hide (fun (i:Int) (W:World)=>aC n i W (by omega) (by omega));simp only[dA.val,K1,hN]at L3;rw[K1,b2,d2]at T1;simp only[dA.val,iA.val,EvM.val,K1,b2,d2];have M3:=hide T1;have v0:=d0.out.bv.cell 0;have v1:=d0.out.bv.cell 1;have v2:=d0.out.bv.cell 2;have v3:=d0.out.bv.cell 3;have v4:=d0.out.bv.cell 4;rw[b3.out]at v0 v1 v2 v3 v4;simp at v0 v1 v2 v3 v4;have n0:=d0.out.bn.cell 0;have n1:=d0.out.bn.cell 1;have n2:=d0.out.bn.cell 2;have n3:=d0.out.bn.cell 3;have n4:=d0.out.bn.cell 4;rw[f2.out]at n0 n1 n2 n3 n4;simp at n0 n1 n2 n3 n4;have x0:=d0.out.bx.cell 0;have x1:=d0.out.bx.cell 1;rw[w2.out]at x0 x1;simp at x0 x1;clear h hx hv hR Y2 a3 K1 b2 d2 hN T1 L0 w3 u3 hkd t2 hk;go_enter Tryz.func19,Tryz.ntmps19;go_wp2_with fail;rw[<-M3.out];go_at_call 52;refine(jA _ _ _ _).mono ?_;rintro e w1 ⟨rfl,I0⟩;rw[I0];clear I0;have u1:(decide ((1:Int)<=2) && decide ((2:Int)<=7))=true:=by decide
 rw[u1];clear u1;go_wp2_with fail;go_at_call 52;refine(jA _ _ _ _).mono ?_;rintro e w1 ⟨rfl,I0⟩;rw[I0];clear I0;have A1:(decide ((2:Int)<=2) && decide ((2:Int)<=5))=true:=by decide
 rw[A1];clear A1;go_wp2_with fail;go_at_call 52;refine(jA _ _ _ _).mono ?_;rintro e w1 ⟨rfl,I0⟩;rw[I0];clear I0;have f3:(decide (0<=(k:Int)) && decide ((k:Int)<=(x.bag.bn:Int)-1))=true:=by simp;omega
 rw[f3];clear f3;have c0:=(Hx.out.below d0.out.below lR).bag.c0 k hkb;have c1:=(Hx.out.below d0.out.below lR).bag.c1 k hkb;have c2:=(Hx.out.below d0.out.below lR).bag.c2 k hkb;rw[<-Hm.out]at c0 c1 c2;rw[I3.out]at x1;obtain⟨B0,f1⟩:∃B0,B0=W0.heap.size:=⟨_,rfl⟩;obtain⟨W1,p2⟩:∃W1,W1=W0.alloc (.cells #[.int .i64 m.F,.int .i64 m.T,.string ⟨m.b.toArray⟩] 59):=⟨_,rfl⟩;have u1:Below W0.heap.size W0 W1:=by rw[p2];exact(Below.refl _ W0).alloc lR _
 have x2:=hide (d0.out.keep u1);have g2:Hid (Blk W1 B0 #[.int .i64 m.F,.int .i64 m.T,.string ⟨m.b.toArray⟩] 59):=hide (by rw[p2];exact Blk.new' f1);have HC:=hide (HW.out W1 x2.out.below);have xa:∀o,(W0.alloc o).cell? ⟨w.heap.size+1,0,none⟩=some (.slice x.rs.ga x.rs.gn x.rs.gc):=fun o=>by have:=(d0.out.bx.alloc o).cell 0;rw[w2.out]at this;simpa using this
 have xb:∀o,(W0.alloc o).cell? ⟨w.heap.size+1,1,none⟩=some (.slice x.bag.ba x.bag.bn x.bag.bc):=fun o=>by have:=(d0.out.bx.alloc o).cell 1;rw[w2.out]at this;simpa using this
 have va:∀o,(W0.alloc o).cell? ⟨w.heap.size+2,1,none⟩=some (.int .i64 (k:Int)):=fun o=>by have:=(d0.out.bv.alloc o).cell 1;rw[b3.out]at this;simpa using this
 have y2:=hide p2;have A2:=hide f1;have i2:Hid (w.heap.size+4<=W1.heap.size):=hide (by have:=u1.size;have:=J3.out;omega);have N0:Hid (B0<W1.heap.size):=hide g2.out.lt;clear u1 p2 f1 HW;rw[y2.out]at HC;go_wp2_with fail;go_at_call 56;refine HC.out.mono ?_;rw[<-y2.out,<-A2.out];rintro r W2 ⟨⟨P0,Bv,y,J2,rfl⟩,A1⟩;obtain⟨ba,bc,z3⟩:=QA J2.live.bag;obtain⟨bl,A3⟩:∃bl,bl=(x.eng.without k).bag.length:=⟨_,rfl⟩;rw[<-A3]at z3;subst z3;clear A3;obtain⟨P,hP⟩:∃P,P=W2.heap.size:=⟨_,rfl⟩;obtain⟨W3,U1⟩:∃W3,W3=W2.alloc (.cells #[.slice (some ⟨y.G,0,none⟩) N y.gc,.slice ba bl bc] 31):=⟨_,rfl⟩;have L1:Below W2.heap.size W2 W3:=by rw[U1];exact(Below.refl _ W2).alloc lR _
 have O0:=A1.trans (L1.mono A1.size);have B2:=J2.rebox;rw[<-U1,<-hP]at B2;have R0:=hide B2.live;have N3:=hide (x2.out.keep O0);have j2:=hide (g2.out.below O0 g2.out.lt);have S0:=hide (U2.out W3);have m2:=j2.out.cell 2;simp at m2;rw[U1]at S0 m2;have g3:=hide U1;have HP:=hide hP;clear J2 A1 L1 O0 B2 U1 hP HC c0 c1 c2 xa xb va g2 x2 U2  v0 v1 v2 v3 v4 n0 n1 n2 n3 n4 x0 x1;go_wp2_with fail;go_at_call 57;refine S0.out.mono ?_;rw[<-g3.out,<-HP.out];rintro r W4 ⟨⟨p,rfl,J0,K2,L2⟩,M2⟩;obtain⟨V1,i1⟩:∃V1,V1=W4.heap.size:=⟨_,rfl⟩;obtain⟨W5,j1⟩:∃W5,W5=W4.alloc (.cells #[.int .i64 p.F,.int .i64 p.T,.slice p.ra p.n p.rc] 92):=⟨_,rfl⟩;have M1:Below W3.heap.size W3 W5:=by rw[j1];exact M2.alloc M2.size _
 have T0:=hide (R0.out.below M1);have y0:=hide (N3.out.keep M1);have U0:=hide (j2.out.below M1 j2.out.lt);rw[t1.out,s1.out]at U0;have l2:Hid (Blk W5 V1 #[.int .i64 p.F,.int .i64 p.T,.slice p.ra p.n p.rc] 92):=hide (by rw[j1];exact Blk.new' i1);have V0:Hid (p.In W5.heap.size W5):=hide (by rw[j1];exact K2.grown ((Below.refl _ W4).alloc lR _));have O3:Hid (0<p.n->W3.heap.size<=p.rb):=hide (fun h0=>(L2 h0).1);have P3:Hid (0<p.n->yB W5 p.rb):=hide (fun h0=>by rw[j1];exact(L2 h0).2.grown ((Below.refl _ W4).alloc lR _));have N1:=hide J0;have HX:Hid (∀W,Below W5.heap.size W5 W->¬ n.net.heeds m->EC n.net x v.ev w (.returned (.tuple #[.agg #[.slice (some ⟨y.G,0,none⟩) N y.gc,.slice ba bl bc],.int .i64 0])) ((W.setCell ⟨w.heap.size+3,0,none⟩ (.slice (some ⟨y.G,0,none⟩) N y.gc)).setCell ⟨w.heap.size+3,1,none⟩ (.slice ba bl bc))):=hide (fun W hb hn=>step_fin (T0.out.below hb) (y0.out.keep hb) (by have:=i2.out;omega) HR.out.check HN.out (HR.out.fit.without k) (by rw[C0.out];unfold Eng.take;rw[if_neg hn]) I1.out);have HE:Hid (∀W,Below W5.heap.size W5 W->W.cell? ⟨P,0,none⟩=some (.slice (some ⟨y.G,0,none⟩) N y.gc)/\W.cell? ⟨P,1,none⟩=some (.slice ba bl bc)/\W.cell? ⟨w.heap.size+3,0,none⟩=some (.slice none 0 0)/\W.cell? ⟨w.heap.size+3,1,none⟩=some (.slice none 0 0)/\(∀j,W.frozen? ⟨w.heap.size+3,j,none⟩=false)/\((W.setCell ⟨w.heap.size+3,0,none⟩ (.slice (some ⟨y.G,0,none⟩) N y.gc)).setCell ⟨w.heap.size+3,1,none⟩ (.slice ba bl bc)).cell? ⟨w.heap.size+3,0,none⟩=some (.slice (some ⟨y.G,0,none⟩) N y.gc)/\((W.setCell ⟨w.heap.size+3,0,none⟩ (.slice (some ⟨y.G,0,none⟩) N y.gc)).setCell ⟨w.heap.size+3,1,none⟩ (.slice ba bl bc)).cell? ⟨w.heap.size+3,1,none⟩=some (.slice ba bl bc)):=hide (fun W hb=>by
  have h1:=(T0.out.below hb).head;have h2:=(y0.out.keep hb).br;have h3:=(h2.set 0 (.slice (some ⟨y.G,0,none⟩) N y.gc)).set 1 (.slice ba bl bc);refine⟨?_,?_,?_,?_,h2.frozen,?_,?_⟩
  ·have:=h1.cell 0;simpa using this
  ·have:=h1.cell 1;simpa using this
  ·have:=h2.cell 0;simpa using this
  ·have:=h2.cell 1;simpa using this
  ·have:=h3.cell 0;simpa using this
  ·have:=h3.cell 1;simpa using this)
 have E0:=hide j1;have C2:=hide i1;have r4:p.n<=17592186044416:=K2.small;have Q3:=hide M1;have n0:=y0.out.bn.cell 0;have n1:=y0.out.bn.cell 1;have n2:=y0.out.bn.cell 2;have n3:=y0.out.bn.cell 3;have n4:=y0.out.bn.cell 4;rw[f2.out]at n0 n1 n2 n3 n4;simp at n0 n1 n2 n3 n4;have m0:=U0.out.cell 0;have m1:=U0.out.cell 1;simp at m0 m1;rw[j1]at m0 m1 n0 n1 n2 n3 n4;clear J0 K2 L2 M2 M1 j1 i1 S0 j2 m2;simp only[lC.val,lC.cells];by_cases k1:UA m.b=0;rotate_left
 ·have s4:(UA m.b == 0)=false:=by simpa using k1
  have k0:=hide (HX.out W5 (Below.refl _ _) (fun hh=>k1 hh.1));obtain⟨p0,p1,r0,r1,fr,e0,e1⟩:=HE.out W5 (Below.refl _ _);rw[E0.out]at k0 p0 p1 r0 r1 fr e0 e1;have B1:=fr 0;have C1:=fr 1;clear fr HX HE;generalize UA m.b=er at *;go_wp2;exact bodyPost_ret (v:=.tuple #[.agg #[.slice (some ⟨y.G,0,none⟩) N y.gc,.slice ba bl bc],.int .i64 0]) (by simp[results,Tryz.results19,go_sem,e0,e1]) rfl k0.out
 have hS:p.pkt.same (LA m.b):=by have:=N1.out;unfold XH at this;rwa [if_pos k1]at this
 have i3:=hide hS;have j3:Hid (p.F=(LA m.b).F):=hide hS.1;have l3:Hid (p.T=(LA m.b).T):=hide hS.2.1;have m3:Hid (p.n=(LA m.b).n):=hide hS.2.2.1;clear hS;rw[k1];by_cases k2:p.F=(fn:Int);rotate_left
 ·have k0:=hide (HX.out W5 (Below.refl _ _) (fun hh=>k2 (by rw[j3.out,hh.2.1,t1.out])));have t4:(p.F == (fn:Int))=false:=by simpa using k2
  obtain⟨p0,p1,r0,r1,fr,e0,e1⟩:=HE.out W5 (Below.refl _ _);rw[E0.out]at k0 p0 p1 r0 r1 fr e0 e1;have B1:=fr 0;have C1:=fr 1;clear fr HX HE;go_wp2;exact bodyPost_ret (v:=.tuple #[.agg #[.slice (some ⟨y.G,0,none⟩) N y.gc,.slice ba bl bc],.int .i64 0]) (by simp[results,Tryz.results19,go_sem,e0,e1]) rfl k0.out
 have R3:=hide k2;rw[k2]at E0 l2 m0 m1 n0 n1 n2 n3 n4 |-;clear k2;by_cases k3:p.T=(tn:Int);rotate_left
 ·have k0:=hide (HX.out W5 (Below.refl _ _) (fun hh=>k3 (by rw[l3.out,hh.2.2.1,s1.out])));have u4:(p.T == (tn:Int))=false:=by simpa using k3
  obtain⟨p0,p1,r0,r1,fr,e0,e1⟩:=HE.out W5 (Below.refl _ _);rw[E0.out]at k0 p0 p1 r0 r1 fr e0 e1;have B1:=fr 0;have C1:=fr 1;clear fr HX HE;go_wp2;exact bodyPost_ret (v:=.tuple #[.agg #[.slice (some ⟨y.G,0,none⟩) N y.gc,.slice ba bl bc],.int .i64 0]) (by simp[results,Tryz.results19,go_sem,e0,e1]) rfl k0.out
 have S3:=hide k3;rw[k3]at E0 l2 m0 m1 n0 n1 n2 n3 n4 |-;clear k3;have HC:=hide (X2.out p.ra p.n p.rc p.rb p.ro p.R W5 V0.out.ints V0.out.lt);rw[E0.out]at HC;go_wp2_with fail;go_at_call 32;refine HC.out.mono ?_;rw[<-E0.out,<-C2.out];rintro r W6 ⟨rfl,r2⟩;have D1:=hide (y0.out.keep r2);have o3:=hide (U0.out.below r2 U0.out.lt);have O1:Hid (n.net.row p.n p.R=0↔n.net.row (LA m.b).n (LA m.b).R=0):=hide (by
  have h4:=m3.out;have h5:=i3.out.2.2.2;rw[Net.row_zero,Net.row_zero,<-h4];constructor
  ·intro h;exact⟨h.1,fun j hj=>by rw[<-h5 j hj];exact h.2 j hj⟩
  ·intro h;exact⟨h.1,fun j hj=>by have:=h.2 j hj;rw[<-h5 j hj]at this;exact this⟩)
 have o2:=hide r2;clear m0 m1 n0 n1 n2 n3 n4 HC r2;have n0:=D1.out.bn.cell 0;have n1:=D1.out.bn.cell 1;have n2:=D1.out.bn.cell 2;have n3:=D1.out.bn.cell 3;have n4:=D1.out.bn.cell 4;rw[f2.out]at n0 n1 n2 n3 n4;simp at n0 n1 n2 n3 n4;have m0:=o3.out.cell 0;have m1:=o3.out.cell 1;simp at m0 m1;by_cases k4:n.net.row p.n p.R=0;rotate_left
 ·have k0:=hide (HX.out W6 o2.out (fun hh=>k4 (O1.out.2 hh.2.2.2.1)));have w4:(n.net.row p.n p.R == 0)=false:=by simpa using k4
  obtain⟨p0,p1,r0,r1,fr,e0,e1⟩:=HE.out W6 o2.out;have B1:=fr 0;have C1:=fr 1;clear fr HX HE;generalize n.net.row p.n p.R=er at *;go_wp2;exact bodyPost_ret (v:=.tuple #[.agg #[.slice (some ⟨y.G,0,none⟩) N y.gc,.slice ba bl bc],.int .i64 0]) (by simp[results,Tryz.results19,go_sem,e0,e1]) rfl k0.out
 have T3:Hid (p.n=N):=hide (by have h1:=(Net.row_zero.1 k4).1;have h2:=HN.out;have h3:n.net.nodes=n.nodes:=rfl;omega);have U3:=hide k4;rw[k4];clear k4;have HC:=hide (V2.out tn fn W6 D1.out.below);go_wp2_with fail;go_at_call 53;refine HC.out.mono ?_;rintro r W7 ⟨rfl,B3⟩;have P1:Below W6.heap.size W6 W7:=by rw[B3];exact(Below.refl _ W6).alloc lR _
 have p3:Below W5.heap.size W5 W7:=o2.out.trans (P1.mono o2.out.size);have X0:=hide p3;clear m0 m1 n0 n1 n2 n3 n4 HC P1 p3 B3;by_cases k6:0<=n.net.edge tn fn;rotate_left
 ·have k0:=hide (HX.out W7 X0.out (fun hh=>k6 (by have:=hh.2.2.2.2;rwa [s1.out,t1.out]at this)));obtain⟨p0,p1,r0,r1,fr,e0,e1⟩:=HE.out W7 X0.out;have B1:=fr 0;have C1:=fr 1;clear fr HX HE;generalize n.net.edge tn fn=ed at *;go_wp2;exact bodyPost_ret (v:=.tuple #[.agg #[.slice (some ⟨y.G,0,none⟩) N y.gc,.slice ba bl bc],.int .i64 0]) (by simp[results,Tryz.results19,go_sem,e0,e1]) rfl k0.out
 have F0:Hid (n.net.heeds m):=hide ⟨k1,by rw[<-j3.out,t1.out];exact R3.out,by rw[<-l3.out,s1.out];exact S3.out,O1.out.1 U3.out,by rw[s1.out,t1.out];exact k6⟩;have V3:Hid (x.eng.step n.net v.ev=Eng.look n.net ((x.eng.without k).tell tn fn (LA m.b).R) tn):=hide (by rw[C0.out];unfold Eng.take;rw[if_pos F0.out,show m.T.toNat=tn by rw[s1.out];rfl,show m.F.toNat=fn by rw[t1.out];rfl]);clear HX HE k1;generalize n.net.edge tn fn=ed at *;go_wp2_with fail;have f0:Below W5.heap.size W5 W7.drew:=⟨X0.out.os,X0.out.tape,X0.out.output,X0.out.size,X0.out.block⟩;have G0:=T0.out.below f0;have A0:=V0.out.below f0 lR;have q3:=T3.out;have D2:W3.heap.size<=p.rb:=O3.out (by omega);have H0:y.Off P N (.slice ba bl bc) W7.drew p.rb:=⟨by have:=R0.out.head.lt;omega,by have:=R0.out.rtrs.lt;omega,fun k hk=>by have:=(R0.out.tolds k hk).lt;omega,fun hv=>by have:=(R0.out.bag.lt _ hv).2;omega,Nat.lt_of_lt_of_le (A0.lt (by omega)) f0.size,by have:=R0.out.ylo;have:=R0.out.head.lt;omega⟩;have i0:=G0.setTold D0 S2 true (LA m.b).R p.ra p.rc p.rb p.ro (fun _=>⟨A0.ints.addr (by omega),H0,fun j hj=>by rw[A0.ints.cell j (by omega)];exact congrArg (fun z=>some (Value.int .i64 z)) (i3.out.2.2.2 j (by show j<p.n;omega))⟩) (fun _=>(P3.out (by omega)).grown f0);simp only[if_true]at i0;obtain⟨W8,F1⟩:∃W8,W8=W7.drew.setCell ⟨y.Tb tn,fn,none⟩ (.slice p.ra N p.rc):=⟨_,rfl⟩;rw[<-F1]at i0;obtain⟨y8,i0,N2,O2⟩:∃y8:Lay,Live W1.heap.size P N ((x.eng.without k).tell tn fn (LA m.b).R) (.slice ba bl bc) y8 W8/\y8.G=y.G/\y8.gc=y.gc:=⟨_,i0,rfl,rfl⟩;have s0:=(HR.out.fit.without k).tell (i:=tn) (k:=fn) (f:=(LA m.b).R) (fun j hj=>by
  have:=(Net.row_zero.1 F0.out.2.2.2.1).2 j (by have:=m3.out;have:=d3.out;omega);exact this)
 have E2:=T0.out.lt tn D0;have F2:=T0.out.lp;have X3:=hide (y0.out.keep f0);have G2:=hide (U0.out.below f0 U0.out.lt);have Y0:Hid (SB w n x v W8):=hide (by rw[F1];exact X3.out.set (by have:=i2.out;omega) _ _);have Y3:Hid (Blk W8 B0 #[.int .i64 (fn:Int),.int .i64 (tn:Int),.string ⟨m.b.toArray⟩] 59):=hide (by rw[F1];exact G2.out.other (by have:=N0.out;omega) _ _);have E1:W5.heap.size<=W8.heap.size:=by rw[F1];simpa using f0.size
 obtain⟨m8,C3,D3,E3,F3,_⟩:=i0.right HR.out.check HN.out s0;have H2:=hide (T2.out m8 W8 Y0.out.below D3 F3);have r3:#[Value.slice m8.rs.ga m8.rs.gn m8.rs.gc,.slice m8.bag.ba m8.bag.bn m8.bag.bc]=#[.slice (some ⟨y.G,0,none⟩) N y.gc,.slice ba bl bc]:=by rw[<-N2,<-O2,<-C3];rfl
 rw[r3,E3]at H2;have u0:=hide i0.head;rw[N2,O2]at u0;have p0:=u0.out.cell 0;have p1:=u0.out.cell 1;simp at p0 p1;have q0:=G0.head.cell 0;have q1:=G0.rtrs.cell (tn*2+1);rw[G0.r1 tn D0]at q1;have q2:=(G0.tolds tn D0).cell fn;rw[G0.t0 tn D0 fn S2]at q2;have s3:=(G0.tolds tn D0).frozen fn;simp at q0;have t3:=hide (l2.out.below f0 l2.out.lt);rw[q3]at t3;have z0:=G2.out.cell 0;have z1:=G2.out.cell 1;have z2:=t3.out.cell 2;simp at z0 z1 z2;have Q0:=hide q0;have Q1:=hide q1;have Q2:=hide q2;have Z3:=hide s3;have Z0:=hide z0;have Z1:=hide z1;have Z2:=hide z2;have a4:=hide F1;have R1:=hide s0;have b4:Hid (w.heap.size+4<=W8.heap.size/\w.heap.size+3<P/\P<W8.heap.size):=hide ⟨by have:=T0.out.head.lt;have:=i2.out;omega,by have:=i2.out;omega,by have:=T0.out.head.lt;omega⟩;have n0:=Y0.out.bn.cell 0;have n1:=Y0.out.bn.cell 1;have n2:=Y0.out.bn.cell 2;have n3:=Y0.out.bn.cell 3;have n4:=Y0.out.bn.cell 4;rw[f2.out]at n0 n1 n2 n3 n4;simp at n0 n1 n2 n3 n4;have y1:=Y3.out.cell 1;simp at y1;have x4:(tn:Int)<(N:Int):=by omega
 have y4:(fn:Int)<(N:Int):=by omega
 have d4:=hide D0;clear f0 G0 A0 q3 D2 H0 i0 F1 N2 O2 s0 E2 F2 E1 C3 D3 E3 F3 r3 q0 q1 q2 s3 z0 z1 z2 g3 HP E0 y2;refine KA 12 _ (fun W=>W=W7.drew) (oC [.pointer (some ⟨P,0,none⟩),.slice (some ⟨y.G,0,none⟩) N y.gc,.pointer (some ⟨B0,1,none⟩),.int .i64 (tn:Int),.pointer (some ⟨y.G,tn*2,none⟩),.pointer (some ⟨y.G,tn*2+1,none⟩),.slice (some ⟨y.Tb tn,0,none⟩) N (y.Tc tn),.pointer (some ⟨B0,0,none⟩),.int .i64 (fn:Int),.pointer (some ⟨V1,2,none⟩),.slice p.ra N p.rc,.pointer (some ⟨y.Tb tn,fn,none⟩)]) (fun _ W=>W=W8) (fun _ _ _=>True) (by kernel_rfl) (by kernel_rfl) (by kernel_rfl) (by kernel_rfl) (by kernel_rfl) rfl rfl ⟨?_,?_,?_,?_,?_,?_,?_,?_,?_,?_,?_,?_,trivial⟩ ?_ trivial ?_;rotate_right
 ·intro t W hG _;simp only[fill,Act.put,sX,sY,sU];rw[hG];clear hG;go_wp2_with fail;go_at_call 54;refine H2.out.mono ?_;rintro r W9 ⟨⟨P9,B4,y9,P2,rfl⟩,R2⟩;obtain⟨G1,H1,X1⟩:=QA P2.live.bag;obtain⟨K0,Y1⟩:∃K0,K0=(Eng.look n.net ((x.eng.without k).tell tn fn (LA m.b).R) tn).bag.length:=⟨_,rfl⟩;rw[<-Y1]at X1;subst X1;clear Y1;have E1:=b4.out;have d1:=u0.out.below R2 u0.out.lt;obtain⟨a2,w0⟩:∃a2,a2=(W9.setCell ⟨P,0,none⟩ (.slice (some ⟨y9.G,0,none⟩) N y9.gc)).setCell ⟨P,1,none⟩ (.slice G1 K0 H1):=⟨_,rfl⟩;have S1:Live W8.heap.size P9 N (Eng.look n.net ((x.eng.without k).tell tn fn (LA m.b).R) tn) (.slice G1 K0 H1) y9 a2:=by rw[w0];exact P2.live.setOld (by omega) E1.2.2 d1 _ _
  have j0:Hid (SB w n x v a2):=hide (by rw[w0];exact((Y0.out.keep R2).set E1.2.1 _ _).set E1.2.1 _ _);have HF:=hide (step_fin S1 j0.out (by omega) HR.out.check HN.out (R1.out.look (Net.good_of_check HR.out.check) (by have:=d3.out;have:=d4.out;omega)) V3.out.symm I1.out);have c7:=(j0.out.br.set 0 (.slice (some ⟨y9.G,0,none⟩) N y9.gc)).set 1 (.slice G1 K0 H1);have e0:=c7.cell 0;have e1:=c7.cell 1;simp at e0 e1;have r0:=j0.out.br.cell 0;have r1:=j0.out.br.cell 1;have B1:=j0.out.br.frozen 0;have C1:=j0.out.br.frozen 1;simp at r0 r1;have I2:Blk a2 P #[.slice (some ⟨y9.G,0,none⟩) N y9.gc,.slice G1 K0 H1] 31:=by rw[w0];exact(d1.set 0 (.slice (some ⟨y9.G,0,none⟩) N y9.gc)).set 1 (.slice G1 K0 H1)
  have g0:=I2.cell 0;have g1:=I2.cell 1;simp at g0 g1;have o0:=d1.cell 0;have o1:=d1.cell 1;have z4:=d1.frozen 0;have A4:=d1.frozen 1;simp at o0 o1;rw[w0]at HF e0 e1 r0 r1 B1 C1 g0 g1;clear c7 P2 R2 H2 n0 n1 n2 n3 n4 p0 p1 y1 S1 d1 I2 w0 E1;go_wp2;exact bodyPost_ret (v:=.tuple #[.agg #[.slice (some ⟨y9.G,0,none⟩) N y9.gc,.slice G1 K0 H1],.int .i64 0]) (by simp[results,Tryz.results19,go_sem,e0,e1]) rfl HF.out
 rotate_right
 ·intro t W hG hE _ K hK;have f4:=aA (hE 10 (by omega)) rfl;have g4:=aA (hE 11 (by omega)) rfl;subst hG;simp only[fill,Act.put,sX,sY,sU,f4,g4]at hK |-;rw[if_pos (by rfl)];have cq:W7.drew.cell? ⟨y.Tb tn,fn,none⟩=some (.slice (y.ta tn fn) (if (x.eng.without k).told tn fn=true then N else 0) (y.tc tn fn)):=Q2.out;have fq:W7.drew.frozen? ⟨y.Tb tn,fn,none⟩=false:=Z3.out;go_simp;exact hK undef _ a4.out.symm
 all_goals intro t W hG hp ht K hK
 all_goals clear ht
 all_goals subst hG
 all_goals simp only[fill,Act.put,sX,sY,sU]at hK |-
 ·rw[if_pos (by rfl)];go_simp;exact hK _ _ rfl rfl (fun _ _ _ h=>h)
 ·have e0:=aA (hp 0 (by decide)) rfl;have cq:W7.drew.cell? ⟨P,0,none⟩=some (.slice (some ⟨y.G,0,none⟩) N y.gc):=Q0.out;simp only[e0]at hK |-;rw[if_pos (by rfl)];go_simp;exact hK _ _ rfl rfl (fun _ _ _ h=>h)
 ·rw[if_pos (by rfl)];go_simp;exact hK _ _ rfl rfl (fun _ _ _ h=>h)
 ·have e2:=aA (hp 2 (by decide)) rfl;have cq:W7.drew.cell? ⟨B0,1,none⟩=some (.int .i64 (tn:Int)):=Z1.out;simp only[e2]at hK |-;rw[if_pos (by rfl)];go_simp;exact hK _ _ rfl rfl (fun _ _ _ h=>h)
 ·have e1:=aA (hp 1 (by decide)) rfl;have e3:=aA (hp 3 (by decide)) rfl;simp only[e1,e3]at hK |-;rw[if_pos (by rfl)];go_simp;exact hK _ _ rfl rfl (fun _ _ _ h=>h)
 ·have e4:=aA (hp 4 (by decide)) rfl;simp only[e4]at hK |-;rw[if_pos (by rfl)];go_simp;exact hK _ _ rfl rfl (fun _ _ _ h=>h)
 ·have e5:=aA (hp 5 (by decide)) rfl;have cq:W7.drew.cell? ⟨y.G,tn*2+1,none⟩=some (.slice (some ⟨y.Tb tn,0,none⟩) N (y.Tc tn)):=Q1.out;simp only[e5]at hK |-;rw[if_pos (by rfl)];go_simp;exact hK _ _ rfl rfl (fun _ _ _ h=>h)
 ·rw[if_pos (by rfl)];go_simp;exact hK _ _ rfl rfl (fun _ _ _ h=>h)
 ·have e7:=aA (hp 7 (by decide)) rfl;have cq:W7.drew.cell? ⟨B0,0,none⟩=some (.int .i64 (fn:Int)):=Z0.out;simp only[e7]at hK |-;rw[if_pos (by rfl)];go_simp;exact hK _ _ rfl rfl (fun _ _ _ h=>h)
 ·rw[if_pos (by rfl)];go_simp;exact hK _ _ rfl rfl (fun _ _ _ h=>h)
 ·have e9:=aA (hp 9 (by decide)) rfl;have cq:W7.drew.cell? ⟨V1,2,none⟩=some (.slice p.ra N p.rc):=Z2.out;simp only[e9]at hK |-;rw[if_pos (by rfl)];go_simp;exact hK _ _ rfl rfl (fun _ _ _ h=>h)
 ·have e6:=aA (hp 6 (by decide)) rfl;have e8:=aA (hp 8 (by decide)) rfl;simp only[e6,e8]at hK |-;rw[if_pos (by rfl)];go_simp;exact hK _ _ rfl rfl (fun _ _ _ h=>h)
end Go.Proofs.YtjhkadffaephmacGreat
