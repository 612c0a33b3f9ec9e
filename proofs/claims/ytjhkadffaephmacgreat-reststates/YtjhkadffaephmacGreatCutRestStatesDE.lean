import Derived.Test.YtjhkadffaephmacGreatCutRestStatesDD
namespace Go.Proofs.YtjhkadffaephmacGreat
set_option maxHeartbeats 16000000
set_option maxRecDepth 100000
open Go.RowKit
theorem BA.form {lo hi:Nat}{V:Value}{n p:Nat}{Z:Nat->Nat->Int}{w:World}(h:BA lo hi V n p Z w):∃ga cap,V=.slice ga n cap:=by
 obtain⟨g,c,k1,_⟩:=h;rcases Go.Joins.ownsRow_forms k1 with ⟨rfl,rfl⟩ | ⟨gb,cap,rfl⟩
 ·exact⟨_,_,rfl⟩
 ·exact⟨_,_,rfl⟩
theorem iD {w:World}{base:Nat}{e:TypeId}{size:Nat}{v:Value}{n:Nat}{xs:List Value}(h:w.ownsRow base e size v n xs)(m:Nat):(w.drewN m).ownsRow base e size v n xs:=h
theorem pK.drewN {s1 s2 b9 b5 b6 gp gq cp cq:Nat}{W:World}(h:pK s1 s2 b9 b5 b6 gp gq cp cq W)(n:Nat):pK s1 s2 b9 b5 b6 gp gq cp cq (W.drewN n):=⟨h.last,h.ps,h.qs,h.pc,h.qc⟩
theorem nN {x y:FB}{p s2:Nat}(h1:x.size=p+1)(h2:y.size=s2+1)(a b:Nat):YA x y a b=if a=p*s2 then b else if b=p*s2 then a else if a / s2=b / s2 then a / s2*s2+y.best (a % s2) (b % s2) else if x.best (a / s2) (b / s2)=a / s2 then a else b:=by
 unfold YA;simp[h1,h2]
theorem yI {x y:FB}{p s2:Nat}(h1:x.size=p+1)(h2:y.size=s2+1)(e a:Nat):qB x y e a=if a=p*s2 then p*s2 else if x.edge e (a / s2)=p\/y.edge e (a % s2)=s2 then p*s2 else x.edge e (a / s2)*s2+y.edge e (a % s2):=by
 unfold qB;simp[h1,h2]
theorem dN (mx my:xA)(x y:FB)(w:World)(lx:QE mx x)(ly:QE my y)(ix:mx.In w.heap.size w)(iy:my.In w.heap.size w)(hx:x.Ok)(hy:y.Ok)(hel:x.el=y.el)(hsz:(x.size-1)*(y.size-1)+1<=24):
 Calls Tryz.prog 70 #[mx.val,my.val] w fun e w'=>iQ (yC x y) w.heap.size e w'/\Below w.heap.size w w':=by
 have ex:=lx.size;have ey:=ly.size;have o3:mx.B.t.len=x.size:=by rw[lx.B];rfl
 have p3:my.B.t.len=y.size:=by rw[ly.B];rfl
 have q3:mx.E.t.len=x.el:=by rw[lx.E];rfl
 have r3:my.E.t.len=x.el:=by rw[ly.E,hel];rfl
 have H4:=hx.lo;have I4:=hy.lo;have J4:=hx.hi;have K4:=hy.hi;have L4:=hx.el;simp only[xA.val,Mat.val,ex,ey,o3,p3,q3,r3];have b0:Blk (((((w.alloc (.cells #[.int .i64 x.size,.slice mx.B.ga x.size mx.B.cap,.slice mx.E.ga x.el mx.E.cap] 24)).alloc (.cells #[.int .i64 y.size,.slice my.B.ga y.size my.B.cap,.slice my.E.ga x.el my.E.cap] 24)).alloc (.cells #[.int .i64 0,.slice none 0 0,.slice none 0 0] 24)).alloc (.cells #[.slice none 0 0] 32)).alloc (.cells #[.slice none 0 0] 32)) w.heap.size #[.int .i64 x.size,.slice mx.B.ga x.size mx.B.cap,.slice mx.E.ga x.el mx.E.cap] 24:=((((Blk.new w _ _).alloc _).alloc _).alloc _).alloc _;have b1:Blk (((((w.alloc (.cells #[.int .i64 x.size,.slice mx.B.ga x.size mx.B.cap,.slice mx.E.ga x.el mx.E.cap] 24)).alloc (.cells #[.int .i64 y.size,.slice my.B.ga y.size my.B.cap,.slice my.E.ga x.el my.E.cap] 24)).alloc (.cells #[.int .i64 0,.slice none 0 0,.slice none 0 0] 24)).alloc (.cells #[.slice none 0 0] 32)).alloc (.cells #[.slice none 0 0] 32)) (w.heap.size+1) #[.int .i64 y.size,.slice my.B.ga y.size my.B.cap,.slice my.E.ga x.el my.E.cap] 24:=(((Blk.new' (by simp)).alloc _).alloc _).alloc _;have b2:Blk (((((w.alloc (.cells #[.int .i64 x.size,.slice mx.B.ga x.size mx.B.cap,.slice mx.E.ga x.el mx.E.cap] 24)).alloc (.cells #[.int .i64 y.size,.slice my.B.ga y.size my.B.cap,.slice my.E.ga x.el my.E.cap] 24)).alloc (.cells #[.int .i64 0,.slice none 0 0,.slice none 0 0] 24)).alloc (.cells #[.slice none 0 0] 32)).alloc (.cells #[.slice none 0 0] 32)) (w.heap.size+1+1) #[.int .i64 0,.slice none 0 0,.slice none 0 0] 24:=((Blk.new' (by simp)).alloc _).alloc _;have b3:Blk (((((w.alloc (.cells #[.int .i64 x.size,.slice mx.B.ga x.size mx.B.cap,.slice mx.E.ga x.el mx.E.cap] 24)).alloc (.cells #[.int .i64 y.size,.slice my.B.ga y.size my.B.cap,.slice my.E.ga x.el my.E.cap] 24)).alloc (.cells #[.int .i64 0,.slice none 0 0,.slice none 0 0] 24)).alloc (.cells #[.slice none 0 0] 32)).alloc (.cells #[.slice none 0 0] 32)) (w.heap.size+1+1+1) #[.slice none 0 0] 32:=(Blk.new' (by simp)).alloc _;have b4:Blk (((((w.alloc (.cells #[.int .i64 x.size,.slice mx.B.ga x.size mx.B.cap,.slice mx.E.ga x.el mx.E.cap] 24)).alloc (.cells #[.int .i64 y.size,.slice my.B.ga y.size my.B.cap,.slice my.E.ga x.el my.E.cap] 24)).alloc (.cells #[.int .i64 0,.slice none 0 0,.slice none 0 0] 24)).alloc (.cells #[.slice none 0 0] 32)).alloc (.cells #[.slice none 0 0] 32)) (w.heap.size+1+1+1+1) #[.slice none 0 0] 32:=Blk.new' (by simp);have s3:Below w.heap.size w (((((w.alloc (.cells #[.int .i64 x.size,.slice mx.B.ga x.size mx.B.cap,.slice mx.E.ga x.el mx.E.cap] 24)).alloc (.cells #[.int .i64 y.size,.slice my.B.ga y.size my.B.cap,.slice my.E.ga x.el my.E.cap] 24)).alloc (.cells #[.int .i64 0,.slice none 0 0,.slice none 0 0] 24)).alloc (.cells #[.slice none 0 0] 32)).alloc (.cells #[.slice none 0 0] 32)):=(((((Below.refl _ w).alloc lR _).alloc (by simp) _).alloc (by simp;omega) _).alloc (by simp;omega) _).alloc (by simp;omega) _;have d4:=hide hel;obtain⟨i1,Q0,R0,S0,T0⟩:=info_parts Tryz.infoInt;obtain⟨i2,M3,N3,O3,P3⟩:=info_parts Tryz.infoInts;clear hel ex ey o3 p3 q3 r3;obtain⟨s1,Q3⟩:∃s1,x.size=s1+1:=⟨x.size-1,by omega⟩;obtain⟨s2,R3⟩:∃s2,y.size=s2+1:=⟨y.size-1,by omega⟩;have M4:s1*s2<=23:=by
  have e1:x.size-1=s1:=by omega
  have e2:y.size-1=s2:=by omega
  rw[e1,e2]at hsz;omega
 have p1:=hide Q3;have Z0:=hide R3;have e4:=hide (show (x.size:Int)=(s1:Int)+1 by omega);have u3:=hide (show (y.size:Int)=(s2:Int)+1 by omega);have g4:(s1:Int)<=24:=by omega
 have h4:(s2:Int)<=24:=by omega
 clear Q3 R3;go_enter Tryz.func70,Tryz.ntmps70;go_wp2_with fail;generalize hW:(((((w.alloc (.cells #[.int .i64 x.size,.slice mx.B.ga x.size mx.B.cap,.slice mx.E.ga x.el mx.E.cap] 24)).alloc (.cells #[.int .i64 y.size,.slice my.B.ga y.size my.B.cap,.slice my.E.ga x.el my.E.cap] 24)).alloc (.cells #[.int .i64 0,.slice none 0 0,.slice none 0 0] 24)).alloc (.cells #[.slice none 0 0] 32)).alloc (.cells #[.slice none 0 0] 32))=W3 at *;have N4:W3.heap.size=w.heap.size+5:=by rw[<-hW];simp
 clear hW
 go_loopw [7] (fun i wr=>∃ (p:Nat) (V5 V6:Value),p<=s1/\i=.int .i64 p/\Hid (PQ (w.heap.size+5) (w.heap.size+1+1+1) (w.heap.size+1+1+1+1) V5 V6 (p*s2) (fun i=>((i / s2:Nat):Int)) (fun i=>((i % s2:Nat):Int)) wr)/\Hid (Below (w.heap.size+1+1+1) W3 wr)) (fun i _=>s1-(intOf i).toNat)
 case atStart=>exact⟨0,_,_,zL,rfl,hide (by rw[Nat.zero_mul];exact⟨b3,b4,World.ownsRow_nil _ _ _ _,World.ownsRow_nil _ _ _ _,fun j hj=>(by cases hj)⟩),hide (Below.refl _ _)⟩
 case round =>
  obtain⟨p,V5,V6,hp,rfl,H0,HB⟩:=hrel;have K1:=b0.below HB.out (by omega);have q1:=b1.below HB.out (by omega);have x0:=K1.cell 0;have y0:=q1.cell 0;simp at x0 y0;rw[e4.out]at x0;rw[u3.out]at y0;by_cases a4:p<s1
  ·have v3:(p:Int)<(s1:Int):=by omega
   go_wp2_with fail
   go_loopw [8] (fun j wx=>∃ (q:Nat) (V5 V6:Value),q<=s2/\j=.int .i64 q/\Hid (PQ (w.heap.size+5) (w.heap.size+1+1+1) (w.heap.size+1+1+1+1) V5 V6 (p*s2+q) (fun i=>((i / s2:Nat):Int)) (fun i=>((i % s2:Nat):Int)) wx)/\Hid (Below (w.heap.size+1+1+1) W3 wx)) (fun j _=>s2-(intOf j).toNat)
   case atStart=>exact⟨0,_,_,zL,rfl,H0,HB⟩
   case round =>
    clear H0 HB K1 q1 x0 y0;obtain⟨q,V5,V6,hq,rfl,H0,HB⟩:=hrel;have q1:=b1.below HB.out (by omega);have y0:=q1.cell 0;simp at y0;rw[u3.out]at y0;by_cases p2:q<s2
    ·have i4:(q:Int)<(s2:Int):=by omega
     have w3:(p*s2+q) / s2=p:=by rw[Nat.mul_comm,Nat.mul_add_div (by omega),Nat.div_eq_of_lt p2];rfl
     have x3:(p*s2+q) % s2=q:=by rw[Nat.mul_comm,Nat.mul_add_mod,Nat.mod_eq_of_lt p2]
     have k4:p*s2+q<s1*s2:=by
      have:(p+1)*s2<=s1*s2:=Nat.mul_le_mul_right _ (by omega);rw[Nat.succ_mul]at this;omega
     have y3:w.heap.size+5<=wr.heap.size:=by have:=HB.out.size;omega
     have HX:Hid (mK (w.heap.size+5) wr.heap.size (w.heap.size+1+1+1) (w.heap.size+1+1+1+1) V5 V6):=hide ⟨by omega,by omega,by omega,y3,fun j hj=>H0.out.o5.lt j hj,fun j hj=>H0.out.o6.lt j hj,H0.out.ne⟩;have Hk:=hide (And.intro w3 (And.intro x3 k4));clear w3 x3;go_wp2_with fail;refine sK (PQI (w.heap.size+5) wr.heap.size (w.heap.size+1+1+1) (w.heap.size+1+1+1+1) V5 V6 (p*s2+q) (fun i=>((i / s2:Nat):Int)) (fun i=>((i % s2:Nat):Int)) W3) (by kernel_rfl) (by kernel_rfl) (by kernel_rfl) (fun t=>H0.out.start HB.out t) ⟨?_,?_,?_,?_,?_,?_,?_,?_,?_,?_,trivial⟩ ?_;rotate_right
     ·intro d t W hI l2;have hP:=hI.done l2;have hB:=hI.below;clear hI l2;simp only[fill,Act.put,sX,sY,sU];have HP:=hide hP;have z0:=hide hB;clear hP hB;go_wp2;go_roundw
      case rel=>exact⟨q+1,_,_,by omega,by go_num,HP,z0⟩
      case measure=>simp[intOf];omega
     all_goals intro d t W hI hd hp K hK
     all_goals simp only[fill,Act.put,sX,sY,sU]at hK |-
     all_goals rw[if_pos (by rfl)]
     ·have h8:d 8=false:=by
       cases h8:d 8 with
       | false=>rfl
       | true=>have:=hI.h5.sl h8;rw[hd]at this;cases this
      have hc:=(hI.h5.c0 h8).cell 0;simp at hc;go_simp;exact hK _ _ hI.l0
     ·go_simp;exact hK _ _ (hI.m1 (by show _=Value.int .i64 (((p*s2+q) / s2:Nat):Int);rw[Hk.out.1]))
     ·have e0:=hI.h5.m (hp 1 (by decide));have hS:=hI.s2 HX.out;rw[Hk.out.1]at e0 hS;simp only[e0]at hK |-;go_simp;exact hK _ _ hS
     ·have e0:=hI.h5.l (hp 0 (by decide));obtain⟨b,e2,_,X2⟩:=hI.h5.b (hp 2 (by decide));simp only[e0,e2]at hK |-;refine wp_append_lies W _ _ _ (by rfl) (w.heap.size+5) 3 i1 _ 1 8 Tryz.underlying32 Q0 R0 S0 T0 rfl (by decide) V5 (p*s2+q) _ (by rfl) (hI.h5.own hd) ⟨b,0,none⟩ 1 1 [.int .i64 ((fun i=>((i / s2:Nat):Int)) (p*s2+q))] (by rfl) (by rfl) (World.news_of_block X2) (by simp[Value.oneCell']) (by decide) (by unfold maxLen;omega) (by omega) (by have:=hI.size;omega) _ rfl ?_;intro g c w1 F1 f0 k3 _;exact hK _ w1 (hI.app3 HX.out hd f0 F1 k3)
     ·have h8:d 9=false:=by
       cases h8:d 9 with
       | false=>rfl
       | true=>have:=hI.h6.sl h8;rw[hd]at this;cases this
      have hc:=(hI.h6.c0 h8).cell 0;simp at hc;go_simp;exact hK _ _ hI.l4
     ·go_simp;exact hK _ _ (hI.m5 (by show _=Value.int .i64 (((p*s2+q) % s2:Nat):Int);rw[Hk.out.2.1]))
     ·have e0:=hI.h6.m (hp 5 (by decide));have hS:=hI.s6 HX.out;rw[Hk.out.2.1]at e0 hS;simp only[e0]at hK |-;go_simp;exact hK _ _ hS
     ·have e0:=hI.h6.l (hp 4 (by decide));obtain⟨b,e2,_,X2⟩:=hI.h6.b (hp 6 (by decide));simp only[e0,e2]at hK |-;refine wp_append_lies W _ _ _ (by rfl) (w.heap.size+5) 3 i1 _ 1 8 Tryz.underlying32 Q0 R0 S0 T0 rfl (by decide) V6 (p*s2+q) _ (by rfl) (hI.h6.own hd) ⟨b,0,none⟩ 1 1 [.int .i64 ((fun i=>((i % s2:Nat):Int)) (p*s2+q))] (by rfl) (by rfl) (World.news_of_block X2) (by simp[Value.oneCell']) (by decide) (by unfold maxLen;omega) (by omega) (by have:=hI.size;omega) _ rfl ?_;intro g c w1 F1 f0 k3 _;exact hK _ w1 (hI.app7 HX.out hd f0 F1 k3)
     ·have hc:=(hI.h5.c0 hd).cell 0;have hf:=(hI.h5.c0 hd).frozen;simp at hc;obtain⟨g,c,e3,_,_⟩:=hI.h5.a (hp 3 (by decide));have hS:=hI.st8 HX.out hd (hp 0 (by decide)) (hp 3 (by decide)) undef;simp only[e3]at hK hS |-;go_simp;exact hK undef _ hS
     ·have hc:=(hI.h6.c0 hd).cell 0;have hf:=(hI.h6.c0 hd).frozen;simp at hc;obtain⟨g,c,e3,_,_⟩:=hI.h6.a (hp 7 (by decide));have hS:=hI.st9 HX.out hd (hp 4 (by decide)) (hp 7 (by decide)) undef;simp only[e3]at hK hS |-;go_simp;exact hK undef _ hS
    ·have z3:q=s2:=by omega
     have A3:Hid (PQ (w.heap.size+5) (w.heap.size+1+1+1) (w.heap.size+1+1+1+1) V5 V6 ((p+1)*s2) (fun i=>((i / s2:Nat):Int)) (fun i=>((i % s2:Nat):Int)) wr):=hide (by rw[Nat.succ_mul];rw[z3]at H0;exact H0.out);have i4:(s2:Int)<=(q:Int):=by omega
     clear z3;go_wp2;go_roundw
     case rel =>
      first
      | exact⟨p+1,V5,V6,by omega,by go_num,A3,HB⟩
      | ((repeat apply Exists.intro);exact⟨⟨p+1,V5,V6,by omega,by go_num,A3,HB⟩,rfl⟩)
     case measure=>simp[intOf];omega
  ·have g1:p=s1:=by omega
   subst g1;have v3:(p:Int)<=(p:Int):=Int.le_refl _;obtain⟨c5,c6,o5,o6,Y2⟩:=H0.out;have B3:4<=p*s2:=by
    have:=Nat.mul_le_mul (show 2<=p by have:=p1.out;omega) (show 2<=s2 by have:=Z0.out;omega);omega
   obtain⟨gp,cp,rfl,X4,D4⟩:=o5.form (by omega);obtain⟨gq,cq,rfl,Y4,E4⟩:=o6.form (by omega);clear H0 y0;have z5:=c5.cell 0;simp at z5;have C3:((p*s2:Nat):Int)<=23:=by omega
   generalize hinv:p*s2=inv at *;go_wp2_with fail;have b9:=(Blk.new wr #[.int .i64 (inv:Int)] 3).alloc (.cells #[.int .i64 ((inv:Int)+1),.slice none 0 0,.slice none 0 0] 24);have m4:Blk ((wr.alloc (.cells #[.int .i64 (inv:Int)] 3)).alloc (.cells #[.int .i64 ((inv:Int)+1),.slice none 0 0,.slice none 0 0] 24)) (wr.heap.size+1) #[.int .i64 ((inv:Int)+1),.slice none 0 0,.slice none 0 0] 24:=Blk.new' (by simp);have hv:Below wr.heap.size wr ((wr.alloc (.cells #[.int .i64 (inv:Int)] 3)).alloc (.cells #[.int .i64 ((inv:Int)+1),.slice none 0 0,.slice none 0 0] 24)):=((Below.refl _ wr).alloc lR _).alloc (by simp) _;have O4:(((wr.alloc (.cells #[.int .i64 (inv:Int)] 3)).alloc (.cells #[.int .i64 ((inv:Int)+1),.slice none 0 0,.slice none 0 0] 24)):World).heap.size=wr.heap.size+2:=by simp
   generalize ((wr.alloc (.cells #[.int .i64 (inv:Int)] 3)).alloc (.cells #[.int .i64 ((inv:Int)+1),.slice none 0 0,.slice none 0 0] 24))=V at *;have y3:w.heap.size+5<=wr.heap.size:=by have:=HB.out.size;omega
   obtain⟨w9,rfl⟩:∃w9,w9=wr:=⟨wr,rfl⟩;have HS:Hid (∀W',Below (w9.heap.size+1) V W'->pK p s2 w9.heap.size (w.heap.size+1+1+1) (w.heap.size+1+1+1+1) gp gq cp cq W'/\mx.In w.heap.size W'/\my.In w.heap.size W'/\Blk W' w.heap.size #[.int .i64 x.size,.slice mx.B.ga x.size mx.B.cap,.slice mx.E.ga x.el mx.E.cap] 24/\Blk W' (w.heap.size+1) #[.int .i64 y.size,.slice my.B.ga y.size my.B.cap,.slice my.E.ga x.el my.E.cap] 24):=hide (fun W' hb=>by
    have u1:Below w9.heap.size w9 W':=hv.trans (hb.mono (by omega));have D3:=s3.trans ((HB.out.mono (show w.heap.size<=w.heap.size+1+1+1 by omega)).trans (u1.mono (by omega)));refine⟨⟨?_,?_,?_,fun i hi=>?_,fun i hi=>?_⟩,ix.below D3 lR,iy.below D3 lR,K1.below u1 K1.lt,q1.below u1 q1.lt⟩
    ·rw[hinv];exact(b9.below hb (by omega)).cell 0
    ·rw[hinv];exact(c5.below u1 c5.lt).cell 0
    ·rw[hinv];exact(c6.below u1 c6.lt).cell 0
    ·rw[hinv]at hi;rw[u1.cell (p:=⟨gp,i,none⟩) D4,o5.cellAt i (by omega),NB hi]
    ·rw[hinv]at hi;rw[u1.cell (p:=⟨gq,i,none⟩) E4,o6.cellAt i (by omega),NB hi])
   have E0:=hide hinv;have E3:=hide (show 0<s2 by have:=Z0.out;omega);clear hinv c5 c6 o5 o6 Y2 z5 x0 K1 q1 b3 b4 hp a4 v3 hsz
   go_loopw [12] (fun i wx=>∃ (k:Nat) (VB:Value),k<=inv+1/\i=.int .i64 k/\Hid (Blk wx (w9.heap.size+1) #[.int .i64 ((inv:Int)+1),VB,.slice none 0 0] 24)/\Hid (BA (w9.heap.size+2) wx.heap.size VB k (inv+1) (fun a b=>((YA x y a b:Nat):Int)) wx)/\Hid (Below (w9.heap.size+1) V wx)) (fun i _=>inv+1-(intOf i).toNat)
   case atStart=>exact⟨0,_,zL,rfl,hide m4,hide (BA.nil _ _ _ _ _),hide (Below.refl _ _)⟩
   case round =>
    obtain⟨i,VB,hi,rfl,Z2,HT,U0⟩:=hrel;obtain⟨wx,rfl⟩:∃wx,wx=wr:=⟨wr,rfl⟩;obtain⟨HA,S3,T3,a3,U3⟩:=HS.out wx U0.out;have q9:=HA.last;have u0:=E0.out;rw[u0]at q9;by_cases a4:i<inv+1
    ·have n4:(i:Int)<=(inv:Int):=by omega
     clear u0;go_wp2_with fail
     go_loopw [13,14] (fun v j wy=>∃k:Nat,k<=inv+1/\j=.int .i64 k/\Hid (wy.ownsRow wx.heap.size 3 1 v k (JA (fun c=>((YA x y i c:Nat):Int)) k))/\Hid (Below wx.heap.size wx wy)) (fun _ j _=>inv+1-(intOf j).toNat)
     case atStart=>exact⟨0,zL,rfl,hide (World.ownsRow_nil _ _ _ _),hide (Below.refl _ _)⟩
     case round =>
      obtain⟨k,hk,rfl,HO,h0⟩:=hrel;have L1:w9.heap.size+1<=wx.heap.size:=by have:=U0.out.size;omega
      obtain⟨D0,I0,J0,X1,Y1⟩:=HS.out wr (U0.out.trans (h0.out.mono L1));clear HA S3 T3 a3 U3 q9;have q9:=D0.last;have u0:=E0.out;rw[u0]at q9;have s0:=nN p1.out Z0.out i k;rw[u0]at s0;by_cases m3:k<inv+1
      ·have D2:(k:Int)<=(inv:Int):=by omega
       by_cases c1:i=inv
       ·rw[if_pos c1]at s0;have o0:Hid (((YA x y i k:Nat):Int)=(k:Int)):=hide (by rw[s0]);have f1:((i:Int) == (inv:Int))=true:=by simp[c1]
        clear s0 c1 u0 D0 I0 J0 X1 Y1;go_wp2_with (at_builtin;refine wpList_append_lies _ rfl _ _ _ rfl wx.heap.size 3 i1 _ 1 8 Tryz.underlying32 Q0 R0 S0 T0 rfl (by decide) _ k _ rfl (HO.out.alloc _) ⟨wr.heap.size,0,none⟩ 1 1 [.int .i64 (k:Int)] rfl rfl ?c1 ?c2 (by decide) ?c3 ?c4 ?c5 _ rfl ?_)
        case c1=>exact World.news_of_block (Blk.new' (by simp))
        case c2=>simp[Value.oneCell']
        case c3=>unfold maxLen;omega
        case c4=>omega
        case c5=>have:=h0.out.size;simp;omega
        intro g' p0 w2 g0 f0 m0 q0;have C0:=hide (show w2.ownsRow wx.heap.size 3 1 _ (k+1) (JA (fun c=>((YA x y i c:Nat):Int)) (k+1)) by rw[OA,o0.out];exact g0);have z0:=hide ((h0.out.alloc (by have:=h0.out.size;omega) _).trans (nA f0 (fun g hg=>(HO.out.lt g hg).1) (by have:=h0.out.size;simp;omega)));clear g0 f0 m0 q0;go_wp2;go_roundw
        case rel =>
         first
         | exact⟨k+1,by omega,by go_num,C0,z0⟩
         | ((repeat apply Exists.intro);exact⟨⟨k+1,by omega,by go_num,C0,z0⟩,rfl⟩)
        case measure=>simp[intOf];omega
       ·rw[if_neg c1]at s0;have f1:((i:Int) == (inv:Int))=false:=by simp;omega
        by_cases c2:k=inv
        ·rw[if_pos c2]at s0;have o0:Hid (((YA x y i k:Nat):Int)=(i:Int)):=hide (by rw[s0]);have f2:((k:Int) == (inv:Int))=true:=by simp[c2]
         clear s0 c1 c2 u0 D0 I0 J0 X1 Y1;go_wp2_with (at_builtin;refine wpList_append_lies _ rfl _ _ _ rfl wx.heap.size 3 i1 _ 1 8 Tryz.underlying32 Q0 R0 S0 T0 rfl (by decide) _ k _ rfl (HO.out.alloc _) ⟨wr.heap.size,0,none⟩ 1 1 [.int .i64 (i:Int)] rfl rfl ?c1 ?c2 (by decide) ?c3 ?c4 ?c5 _ rfl ?_)
         case c1=>exact World.news_of_block (Blk.new' (by simp))
         case c2=>simp[Value.oneCell']
         case c3=>unfold maxLen;omega
         case c4=>omega
         case c5=>have:=h0.out.size;simp;omega
         intro g' p0 w2 g0 f0 m0 q0;have C0:=hide (show w2.ownsRow wx.heap.size 3 1 _ (k+1) (JA (fun c=>((YA x y i c:Nat):Int)) (k+1)) by rw[OA,o0.out];exact g0);have z0:=hide ((h0.out.alloc (by have:=h0.out.size;omega) _).trans (nA f0 (fun g hg=>(HO.out.lt g hg).1) (by have:=h0.out.size;simp;omega)));clear g0 f0 m0 q0;go_wp2;go_roundw
         case rel =>
          first
          | exact⟨k+1,by omega,by go_num,C0,z0⟩
          | ((repeat apply Exists.intro);exact⟨⟨k+1,by omega,by go_num,C0,z0⟩,rfl⟩)
         case measure=>simp[intOf];omega
        ·rw[if_neg c2]at s0;have f2:((k:Int) == (inv:Int))=false:=by simp;omega
         have F0:=E3.out;have u2:i<p*s2:=by omega
         have M0:k<p*s2:=by omega
         have ql:i / s2<p:=by rw[Nat.div_lt_iff_lt_mul F0];exact u2
         have P4:k / s2<p:=by rw[Nat.div_lt_iff_lt_mul F0];exact M0
         have rl:i % s2<s2:=Nat.mod_lt _ F0;have o4:k % s2<s2:=Nat.mod_lt _ F0;have E2:=p1.out;have F2:=Z0.out;have zp:=D0.ps;have zq:=D0.qs;rw[u0]at zp zq;have Q4:=D0.pc i u2;have R4:=D0.pc k M0;have S4:=D0.qc i u2;have T4:=D0.qc k M0;obtain⟨yg,yr,yc⟩:=NH ly J0 (e:=i % s2) (by omega);have U4:=yc (k % s2) (by omega);have yv:y.best (i % s2) (k % s2)<s2:=hy.blt rl o4;obtain⟨xg,xr,xc⟩:=NH lx I0 (e:=i / s2) (by omega);have V4:=xc (k / s2) (by omega);have zy:=Y1.cell 1;have zx:=X1.cell 1;simp at zy zx;rw[yg]at zy;rw[xg]at zx;have v2:=hide (fun n=>rT p s2 w9.heap.size (w.heap.size+1+1+1) (w.heap.size+1+1+1+1) gp gq cp cq (i / s2) (y.best (i % s2) (k % s2)) (wr.drewN n) (D0.drewN n) F0 (by omega));have I1:aD p s2 (i / s2) (y.best (i % s2) (k % s2))=i / s2*s2+y.best (i % s2) (k % s2):=by unfold aD;rw[if_pos ⟨ql,yv⟩]
         have G2:aD p s2 (i / s2) (y.best (i % s2) (k % s2))<=24:=by
          rw[I1];have:(i / s2+1)*s2<=p*s2:=Nat.mul_le_mul_right _ (by omega);rw[Nat.succ_mul]at this;omega
         rw[<-I1]at s0;have j0:(i:Int)<(inv:Int):=by omega
         have j1:(k:Int)<(inv:Int):=by omega
         have j2:((i % s2:Nat):Int)<(y.size:Int):=by omega
         have j3:((k % s2:Nat):Int)<(y.size:Int):=by omega
         have j4:((i / s2:Nat):Int)<(x.size:Int):=by omega
         have j5:((k / s2:Nat):Int)<(x.size:Int):=by omega
         clear yg xg yc xc E2 F2 D0 I0 J0 X1 Y1 I1 u2 M0 u0 F0;generalize aD p s2 (i / s2) (y.best (i % s2) (k % s2))=av at *;generalize y.best (i % s2) (k % s2)=yb at *;generalize x.best (i / s2) (k / s2)=xb at *;generalize i / s2=qi at *;generalize k / s2=qk at *;generalize i % s2=ri at *;generalize k % s2=rk at *;by_cases c3:qi=qk
         ·rw[if_pos c3]at s0;have f3:((qi:Int) == (qk:Int))=true:=by simp[c3]
          have o0:Hid (((YA x y i k:Nat):Int)=(av:Int)):=hide (by rw[s0]);clear s0 c1 c2 c3;go_wp2_with fail
          go_quiet (fail)
          go_wp2_with fail
          go_quiet ((go_at_call 104;exact(v2.out _).mono (fun _ _ ⟨he,hq⟩=>⟨he,_,hq⟩)))
          go_wp2_with (at_builtin;refine wpList_append_lies _ rfl _ _ _ rfl wx.heap.size 3 i1 _ 1 8 Tryz.underlying32 Q0 R0 S0 T0 rfl (by decide) _ k _ rfl (iD (HO.out.alloc _) _) ⟨wr.heap.size,0,none⟩ 1 1 [.int .i64 (av:Int)] rfl rfl ?c1 ?c2 (by decide) ?c3 ?c4 ?c5 _ rfl ?_)
          case c1=>exact World.news_of_block (Blk.new' (by simp))
          case c2=>simp[Value.oneCell']
          case c3=>unfold maxLen;omega
          case c4=>omega
          case c5=>have:=h0.out.size;simp;omega
          intro g' p0 w2 g0 f0 m0 q0;have C0:=hide (show w2.ownsRow wx.heap.size 3 1 _ (k+1) (JA (fun c=>((YA x y i c:Nat):Int)) (k+1)) by rw[OA,o0.out];exact g0);have z0:=hide ((below_drewN (h0.out.alloc (by have:=h0.out.size;omega) _) _).trans (nA f0 (fun g hg=>(HO.out.lt g hg).1) (by have:=h0.out.size;simp;omega)));clear g0 f0 m0 q0;go_wp2;go_roundw
          case rel =>
           first
           | exact⟨k+1,by omega,by go_num,C0,z0⟩
           | ((repeat apply Exists.intro);exact⟨⟨k+1,by omega,by go_num,C0,z0⟩,rfl⟩)
          case measure=>simp[intOf];omega
         ·rw[if_neg c3]at s0;have f3:((qi:Int) == (qk:Int))=false:=by simp;omega
          by_cases c4:xb=qi
          ·rw[if_pos c4]at s0;have f4:((xb:Int) != (qi:Int))=false:=by simp[c4]
           have o0:Hid (((YA x y i k:Nat):Int)=(i:Int)):=hide (by rw[s0]);clear s0 c1 c2 c3 c4;go_wp2_with fail
           go_quiet (fail)
           go_wp2_with fail
           go_quiet (fail)
           go_wp2_with (at_builtin;refine wpList_append_lies _ rfl _ _ _ rfl wx.heap.size 3 i1 _ 1 8 Tryz.underlying32 Q0 R0 S0 T0 rfl (by decide) _ k _ rfl (iD (HO.out.alloc _) _) ⟨wr.heap.size,0,none⟩ 1 1 [.int .i64 (i:Int)] rfl rfl ?c1 ?c2 (by decide) ?c3 ?c4 ?c5 _ rfl ?_)
           case c1=>exact World.news_of_block (Blk.new' (by simp))
           case c2=>simp[Value.oneCell']
           case c3=>unfold maxLen;omega
           case c4=>omega
           case c5=>have:=h0.out.size;simp;omega
           intro g' p0 w2 g0 f0 m0 q0;have C0:=hide (show w2.ownsRow wx.heap.size 3 1 _ (k+1) (JA (fun c=>((YA x y i c:Nat):Int)) (k+1)) by rw[OA,o0.out];exact g0);have z0:=hide ((below_drewN (h0.out.alloc (by have:=h0.out.size;omega) _) _).trans (nA f0 (fun g hg=>(HO.out.lt g hg).1) (by have:=h0.out.size;simp;omega)));clear g0 f0 m0 q0;go_wp2;go_roundw
           case rel =>
            first
            | exact⟨k+1,by omega,by go_num,C0,z0⟩
            | ((repeat apply Exists.intro);exact⟨⟨k+1,by omega,by go_num,C0,z0⟩,rfl⟩)
           case measure=>simp[intOf];omega
          ·rw[if_neg c4]at s0;have f4:((xb:Int) != (qi:Int))=true:=by simp;omega
           have o0:Hid (((YA x y i k:Nat):Int)=(k:Int)):=hide (by rw[s0]);clear s0 c1 c2 c3 c4;go_wp2_with fail
           go_quiet (fail)
           go_wp2_with fail
           go_quiet (fail)
           go_wp2_with (at_builtin;refine wpList_append_lies _ rfl _ _ _ rfl wx.heap.size 3 i1 _ 1 8 Tryz.underlying32 Q0 R0 S0 T0 rfl (by decide) _ k _ rfl (iD (HO.out.alloc _) _) ⟨wr.heap.size,0,none⟩ 1 1 [.int .i64 (k:Int)] rfl rfl ?c1 ?c2 (by decide) ?c3 ?c4 ?c5 _ rfl ?_)
           case c1=>exact World.news_of_block (Blk.new' (by simp))
           case c2=>simp[Value.oneCell']
           case c3=>unfold maxLen;omega
           case c4=>omega
           case c5=>have:=h0.out.size;simp;omega
           intro g' p0 w2 g0 f0 m0 q0;have C0:=hide (show w2.ownsRow wx.heap.size 3 1 _ (k+1) (JA (fun c=>((YA x y i c:Nat):Int)) (k+1)) by rw[OA,o0.out];exact g0);have z0:=hide ((below_drewN (h0.out.alloc (by have:=h0.out.size;omega) _) _).trans (nA f0 (fun g hg=>(HO.out.lt g hg).1) (by have:=h0.out.size;simp;omega)));clear g0 f0 m0 q0;go_wp2;go_roundw
           case rel =>
            first
            | exact⟨k+1,by omega,by go_num,C0,z0⟩
            | ((repeat apply Exists.intro);exact⟨⟨k+1,by omega,by go_num,C0,z0⟩,rfl⟩)
           case measure=>simp[intOf];omega
      ·have H2:k=inv+1:=by omega
       have D2:(inv:Int)<(k:Int):=by omega
       subst H2;obtain⟨gn,cn,rfl,Z4,a5⟩:=HO.out.form (by omega);have G0:=Z2.out.below h0.out Z2.out.lt;obtain⟨g,c,t1,t2,t3,t4⟩:=HT.out.below h0.out;have n1:=G0.cell 0;have n2:=G0.cell 1;have n3:=G0.cell 2;simp at n1 n2 n3;have I2:∀o,(wr.alloc o).cell? ⟨w9.heap.size+1,1,none⟩=some VB:=fun o=>(G0.alloc o).cell 1;have M1:∀j,VB.ownBlock=some j->w9.heap.size+2<=j:=fun j hj=>(t1.lt j hj).1;have J2:=hide t1;clear t1 s0 u0 D0 I0 J0 X1 Y1;go_wp2_with (at_builtin;refine wpList_append_lies _ rfl _ _ _ rfl (w9.heap.size+2) 32 i2 _ 1 24 Tryz.underlying22 M3 N3 O3 P3 rfl (by decide) _ i _ rfl (J2.out.alloc _) ⟨wr.heap.size,0,none⟩ 1 1 [.slice (some ⟨gn,0,none⟩) (inv+1) cn] rfl rfl ?c1 ?c2 (by decide) ?c3 ?c4 ?c5 _ rfl ?_)
       all_goals try (case c1=>exact World.news_of_block (Blk.new' (by simp)))
       case c2=>simp[Value.oneCell']
       case c3=>unfold maxLen;omega
       case c4=>omega
       case c5=>have:=h0.out.size;simp;omega
       intro g' p0 w2 g0 f0 m0 q0;have p4:=hide (BA.push (J2.out.alloc (.cells #[.slice (some ⟨gn,0,none⟩) (inv+1) cn] 32)) t2 (fun r hr=>⟨(t3 r hr).1.alloc _,(t3 r hr).2⟩) t4 (by have:=U0.out.size;omega) (HO.out.alloc _) g0 f0 (by simpa using m0));have N0:=OB (G0.alloc (.cells #[.slice (some ⟨gn,0,none⟩) (inv+1) cn] 32)) f0 (fun e=>by have:=M1 _ e;omega);have z0:=hide ((U0.out.trans (h0.out.mono L1)).alloc (by have:=h0.out.size;omega) (.cells #[.slice (some ⟨gn,0,none⟩) (inv+1) cn] 32) |>.trans (nA f0 (fun g hg=>by have:=M1 g hg;omega) (by have:=h0.out.size;simp;omega)));have W4:=f0.size;have m1:=N0.cell 1;have mf:=N0.frozen;simp at m1;have K2:=hide N0;clear g0 f0 m0 q0 J2 t2 t3 t4 G0 N0 n1 n2 n3 I2;go_wp2;have B0:=hide (K2.out.set 1 (.slice (some ⟨g',0,none⟩) (i+1) p0));simp at B0;have N1:w2.grownBy (w2.setCell ⟨w9.heap.size+1,1,none⟩ (.slice (some ⟨g',0,none⟩) (i+1) p0)) (some (w9.heap.size+1)):=⟨rfl,rfl,rfl,by simp,fun j _ hne=>by
        show (w2.heap.modify (w9.heap.size+1) _)[j]? = _;rw[Array.getElem?_modify,if_neg (fun e=>hne (by rw[e]))]⟩
       have F3:=hide ((p4.out.kept N1 (fun k hk=>Or.inl (by have e:w9.heap.size+1=k:=(by simpa using hk);omega))).mono lR (Nat.le_of_eq (show w2.heap.size=(w2.setCell ⟨w9.heap.size+1,1,none⟩ (.slice (some ⟨g',0,none⟩) (i+1) p0)).heap.size by simp)));have G3:=hide (z0.out.setCell (p:=⟨w9.heap.size+1,1,none⟩) lR (.slice (some ⟨g',0,none⟩) (i+1) p0));go_roundw
       case rel =>
        first
        | exact⟨i+1,_,by omega,by go_num,B0,F3,G3⟩
        | ((repeat apply Exists.intro);exact⟨⟨i+1,_,by omega,by go_num,B0,F3,G3⟩,rfl⟩)
       case measure=>simp[intOf];omega
    ·have q4:i=inv+1:=by omega
     have n4:(inv:Int)<(i:Int):=by omega
     subst q4;have r4:=HT;have mid:=hide (Nat.le_refl wx.heap.size);have z2:=a3.cell 2;simp at z2;clear u0 HA S3 T3 U3;go_wp2_with fail
     go_loopw [16] (fun i wy=>∃ (e:Nat) (VE:Value),e<=x.el/\i=.int .i64 e/\Hid (Blk wy (w9.heap.size+1) #[.int .i64 ((inv:Int)+1),VB,VE] 24)/\Hid (BA (w9.heap.size+2) wx.heap.size VB (inv+1) (inv+1) (fun a b=>((YA x y a b:Nat):Int)) wy)/\Hid (BA wx.heap.size wy.heap.size VE e (inv+1) (fun a b=>((qB x y a b:Nat):Int)) wy)/\Hid (Below (w9.heap.size+1) V wy)/\Hid (wx.heap.size<=wy.heap.size)) (fun i _=>x.el-(intOf i).toNat)
     case atStart=>exact⟨0,_,zL,rfl,Z2,HT,hide (BA.nil _ _ _ _ _),U0,hide lR⟩
     case round =>
      obtain⟨e,VE,he,rfl,K0,y2,A2,V0,V3⟩:=hrel;obtain⟨wy,rfl⟩:∃wy,wy=wr:=⟨wr,rfl⟩;obtain⟨d3,Z1,a2,g3,X3⟩:=HS.out wy V0.out;have q2:=g3.cell 2;have O1:=d3.last;rw[E0.out]at O1;simp at q2;have L2:w9.heap.size+1<=wy.heap.size:=by have:=V0.out.size;omega
      by_cases r2:e<x.el
      ·have s4:(e:Int)<(x.el:Int):=by omega
       clear q9 z2 a3;go_wp2_with fail
       go_loopw [17,18] (fun v j wz=>∃k:Nat,k<=inv/\j=.int .i64 k/\Hid (wz.ownsRow wy.heap.size 3 1 v k (JA (fun c=>((qB x y e c:Nat):Int)) k))/\Hid (Below wy.heap.size wy wz)) (fun _ j _=>inv-(intOf j).toNat)
       case atStart=>exact⟨0,zL,rfl,hide (World.ownsRow_nil _ _ _ _),hide (Below.refl _ _)⟩
       case round =>
        clear d3 Z1 a2 g3 X3 q2 O1;obtain⟨k,hk,rfl,HO,D1⟩:=hrel;have v1:=V0.out.trans (D1.out.mono L2);obtain⟨B2,g2,h2,Y3,Z3⟩:=HS.out wr v1;have O1:=B2.last;have u0:=E0.out;rw[u0]at O1;by_cases m3:k<inv
        ·have D2:(k:Int)<(inv:Int):=by omega
         have g1:=yI p1.out Z0.out e k;rw[u0,if_neg (by omega)]at g1;have F0:=E3.out;have M0:k<p*s2:=by omega
         have ql:k / s2<p:=by rw[Nat.div_lt_iff_lt_mul F0];exact M0
         have rl:k % s2<s2:=Nat.mod_lt _ F0;have E2:=p1.out;have F2:=Z0.out;have M2:=d4.out;have xv:=hx.elt e (k / s2) r2 (by omega);have yv:=hy.elt e (k % s2) (by omega) (by omega);have HK:Hid (∀w',Below (w9.heap.size+1) V w'->w'.cell? ⟨w.heap.size,2,none⟩=some (.slice (some ⟨mx.E.gb,mx.E.go,none⟩) x.el mx.E.cap)/\w'.cell? ⟨mx.E.gb,mx.E.go+e,none⟩=some (.slice (some ⟨mx.E.RB e,mx.E.RO e,none⟩) x.size (mx.E.C e))/\w'.cell? ⟨mx.E.RB e,mx.E.RO e+k / s2,none⟩=some (.int .i64 ((x.edge e (k / s2):Nat):Int))/\w'.cell? ⟨w.heap.size+1+1+1,0,none⟩=some (.slice (some ⟨gp,0,none⟩) inv cp)/\w'.cell? ⟨gp,k,none⟩=some (.int .i64 ((k / s2:Nat):Int))/\w'.cell? ⟨w.heap.size+1,2,none⟩=some (.slice (some ⟨my.E.gb,my.E.go,none⟩) x.el my.E.cap)/\w'.cell? ⟨my.E.gb,my.E.go+e,none⟩=some (.slice (some ⟨my.E.RB e,my.E.RO e,none⟩) y.size (my.E.C e))/\w'.cell? ⟨my.E.RB e,my.E.RO e+k % s2,none⟩=some (.int .i64 ((y.edge e (k % s2):Nat):Int))/\w'.cell? ⟨w.heap.size+1+1+1+1,0,none⟩=some (.slice (some ⟨gq,0,none⟩) inv cq)/\w'.cell? ⟨gq,k,none⟩=some (.int .i64 ((k % s2:Nat):Int))):=hide (fun w' hb=>by
          obtain⟨C2,h3,i3,F4,G4⟩:=HS.out w' hb;obtain⟨xg,xr,xc⟩:=pG lx h3 (e:=e) r2 (by omega);obtain⟨yg,yr,yc⟩:=pG ly i3 (e:=e) (by omega) (by omega);refine⟨?_,xr,xc _ (by omega),?_,C2.pc k M0,?_,yr,yc _ (by omega),?_,C2.qc k M0⟩
          ·rw[F4.cell 2,<-xg];rfl
          ·rw[<-u0];exact C2.ps
          ·rw[G4.cell 2,<-yg];rfl
          ·rw[<-u0];exact C2.qs)
         have v2:=hide (fun n=>rT p s2 w9.heap.size (w.heap.size+1+1+1) (w.heap.size+1+1+1+1) gp gq cp cq (x.edge e (k / s2)) (y.edge e (k % s2)) (wr.drewN n) (B2.drewN n) F0 (by omega));have I1:qB x y e k=aD p s2 (x.edge e (k / s2)) (y.edge e (k % s2)):=by
          rw[g1];unfold aD;by_cases hc:x.edge e (k / s2)=p\/y.edge e (k % s2)=s2
          ·rw[if_pos hc,if_neg (by omega),u0]
          ·rw[if_neg hc,if_pos (by omega)]
         have G2:aD p s2 (x.edge e (k / s2)) (y.edge e (k % s2))<=24:=by
          unfold aD;split
          ·rename_i hc
           have:(x.edge e (k / s2)+1)*s2<=p*s2:=Nat.mul_le_mul_right _ (by omega);rw[Nat.succ_mul]at this;omega
          ·omega
         have j4:((k / s2:Nat):Int)<(x.size:Int):=by omega
         have j5:((k % s2:Nat):Int)<(y.size:Int):=by omega
         have H3:wy.heap.size<=wr.heap.size:=D1.out.size;have o0:Hid (((qB x y e k:Nat):Int)=((aD p s2 (x.edge e (k / s2)) (y.edge e (k % s2)):Nat):Int)):=hide (by rw[I1]);clear I1 g1 E2 F2 M2 B2 g2 h2 Y3 Z3 M0 ql rl xv yv F0 u0;generalize aD p s2 (x.edge e (k / s2)) (y.edge e (k % s2))=av at *;generalize x.edge e (k / s2)=xe at *;generalize y.edge e (k % s2)=ye at *;generalize k / s2=qk at *;generalize k % s2=rk at *;have HW:=HK.out wr v1;have P1:Hid (∀n o,((wr.alloc o).drewN n).ownsRow wy.heap.size 3 1 u17 k (JA (fun c=>((qB x y e c:Nat):Int)) k)):=hide (fun n o=>iD (HO.out.alloc o) n);have O0:w9.heap.size+1<=wr.heap.size:=by omega
         have x1:k+1<=maxLen:=by unfold maxLen;omega
         have y1:(k+1)*8<=140737488355328:=by omega
         have z1:∀n (o:Obj),wy.heap.size<=((wr.alloc o).drewN n).heap.size:=fun n o=>by simp;omega
         go_wp2_with fail
         go_region_held3 (fun w'=>w'.cell? ⟨w.heap.size,2,none⟩=some (.slice (some ⟨mx.E.gb,mx.E.go,none⟩) x.el mx.E.cap)/\w'.cell? ⟨mx.E.gb,mx.E.go+e,none⟩=some (.slice (some ⟨mx.E.RB e,mx.E.RO e,none⟩) x.size (mx.E.C e))/\w'.cell? ⟨mx.E.RB e,mx.E.RO e+qk,none⟩=some (.int .i64 ((xe:Nat):Int))/\w'.cell? ⟨w.heap.size+1+1+1,0,none⟩=some (.slice (some ⟨gp,0,none⟩) inv cp)/\w'.cell? ⟨gp,k,none⟩=some (.int .i64 ((qk:Nat):Int))/\w'.cell? ⟨w.heap.size+1,2,none⟩=some (.slice (some ⟨my.E.gb,my.E.go,none⟩) x.el my.E.cap)/\w'.cell? ⟨my.E.gb,my.E.go+e,none⟩=some (.slice (some ⟨my.E.RB e,my.E.RO e,none⟩) y.size (my.E.C e))/\w'.cell? ⟨my.E.RB e,my.E.RO e+rk,none⟩=some (.int .i64 ((ye:Nat):Int))/\w'.cell? ⟨w.heap.size+1+1+1+1,0,none⟩=some (.slice (some ⟨gq,0,none⟩) inv cq)/\w'.cell? ⟨gq,k,none⟩=some (.int .i64 ((rk:Nat):Int))) (first | exact HK.out _ (v1.trans ⟨rfl,rfl,rfl,lR,fun _ _=>rfl⟩) | exact HK.out _ (below_drewN v1 _) | exact HK.out _ (below_drewN (v1.alloc O0 _) _) | exact HK.out _ Q1)
          (first
           | (go_at_call 104;refine(v2.out 1).mono ?_;rintro r w' ⟨rfl,rfl⟩)
           | (refine step_append_lies _ (by rfl) _ _ _ (by rfl) wy.heap.size 3 i1 _ 1 8 Tryz.underlying32 Q0 R0 S0 T0 rfl (by decide) u17 k _ (by rfl) (P1.out _ _) ⟨wr.heap.size,0,none⟩ 1 1 [.int .i64 (av:Int)] (by rfl) (by rfl) (World.news_of_block (heap_alloc_new wr _)) (by simp[Value.oneCell']) (by decide) x1 y1 (z1 _ _) _ rfl ?_;intro g' p0 w7 A0 i0 G1 H1;have Q1:=(below_drewN (v1.alloc O0 (.cells #[.int .i64 (av:Int)] 3)) 1).trans (nA i0 (fun g hg=>by have:=(HO.out.lt g hg).1;omega) (by simp;omega))))
         all_goals
          have I3:=hide (show w7.ownsRow wy.heap.size 3 1 (.slice (some ⟨g',0,none⟩) (k+1) p0) (k+1) (JA (fun c=>((qB x y e c:Nat):Int)) (k+1)) by rw[OA,o0.out];exact A0);have J3:=hide ((below_drewN (D1.out.alloc H3 (.cells #[.int .i64 (av:Int)] 3)) 1).trans (nA i0 (fun g hg=>(HO.out.lt g hg).1) (by simp;omega)));clear A0 i0 G1 H1 HW Q1 HK v2 P1;go_wp2;go_roundw
          case rel =>
           first
           | exact⟨k+1,by omega,by go_num,I3,J3⟩
           | ((repeat apply Exists.intro);exact⟨⟨k+1,by omega,by go_num,I3,J3⟩,rfl⟩)
          case measure=>simp[intOf];omega
        ·have H2:k=inv:=by omega
         subst H2;have D2:(k:Int)<=(k:Int):=Int.le_refl _;have G0:=K0.out.below D1.out K0.out.lt;obtain⟨g,c,t1,t2,t3,t4⟩:=A2.out.below D1.out;have N2:=hide (y2.out.below D1.out);have n2:=G0.cell 2;simp at n2;have I2:∀o,(wr.alloc o).cell? ⟨w9.heap.size+1,2,none⟩=some VE:=fun o=>(G0.alloc o).cell 2;have O2:∀j,VE.ownBlock=some j->wx.heap.size<=j:=fun j hj=>(t1.lt j hj).1;have H3:wy.heap.size<=wr.heap.size:=D1.out.size;have u4:=V3.out;have P2:w9.heap.size+2<=wx.heap.size:=by have:=U0.out.size;omega
         have g1:qB x y e k=k:=by
          rw[yI p1.out Z0.out,u0,if_pos rfl]
         have v4:=hide (show ((qB x y e k:Nat):Int)=(k:Int) by rw[g1]);have P1:Hid (∀n o,((wr.alloc o).drewN n).ownsRow wy.heap.size 3 1 u17 k (JA (fun c=>((qB x y e c:Nat):Int)) k)):=hide (fun n o=>iD (HO.out.alloc o) n);have w4:=hide t1;have A1:=hide t3;have Q2:=hide G0;have O0:w9.heap.size+1<=wr.heap.size:=by omega
         have x1:k+1<=maxLen:=by unfold maxLen;omega
         have y1:(k+1)*8<=140737488355328:=by omega
         have R2:e+1<=maxLen:=by unfold maxLen;omega
         have S2:(e+1)*24<=140737488355328:=by omega
         have z1:∀n (o:Obj),wy.heap.size<=((wr.alloc o).drewN n).heap.size:=fun n o=>by simp;omega
         have B1:∀j,j<wy.heap.size->some j≠Value.ownBlock u17:=fun j hj e'=>by have:=(HO.out.lt j e'.symm).1;omega
         have T2:VE.ownBlock=none\/VE.ownBlock≠Value.ownBlock u17:=by
          cases hv:VE.ownBlock with
          | none=>exact Or.inl rfl
          | some j=>exact Or.inr (B1 j (t2 j hv))
         have A7:Hid (∀w7:World,(((wr.alloc (.cells #[.int .i64 (k:Int)] 3)).drewN 1)).grownBy w7 (Value.ownBlock u17)->Below (w9.heap.size+1) V w7/\wr.heap.size<=w7.heap.size/\Blk w7 (w9.heap.size+1) #[.int .i64 ((k:Int)+1),VB,VE] 24/\w7.ownsRow wx.heap.size 32 1 VE e (oF g c (k+1) e)/\(∀r,r<e->w7.ownsRow wx.heap.size 3 1 (.slice (some ⟨g r,0,none⟩) (k+1) (c r)) (k+1) (JA (fun b=>((qB x y r b:Nat):Int)) (k+1))/\g r<wy.heap.size/\VE.ownBlock≠some (g r))/\BA (w9.heap.size+2) wx.heap.size VB (k+1) (k+1) (fun a b=>((YA x y a b:Nat):Int)) w7):=hide (fun w7 hg=>by
          have hs:=hg.size;simp at hs;refine⟨(below_drewN (v1.alloc O0 _) 1).trans (nA hg (fun j hj=>by have:=(HO.out.lt j hj).1;omega) (by simp;omega)),by omega,?_,?_,?_,?_⟩
          ·exact OB ((Q2.out.alloc _).drewN 1) hg (fun e'=>B1 _ (by omega) e'.symm)
          ·exact(iD (w4.out.alloc _) 1).kept hg T2
          ·intro r hr;exact⟨(iD ((A1.out r hr).1.alloc _) 1).kept hg (Or.inr (B1 _ (A1.out r hr).2.1)),(A1.out r hr).2⟩
          ·exact BA.kept (N2.out.kept (w':=(wr.alloc (.cells #[.int .i64 (k:Int)] 3)).drewN 1) (row:=none) ⟨rfl,rfl,rfl,by simp,fun j hj _=>heap_alloc_old (w:=wr) (h:=hj) _⟩ (fun j hj=>by cases hj)) hg (fun j hj=>Or.inr (by have:=(HO.out.lt j hj).1;omega)))
         have x4:wr.drew.cell? ⟨w9.heap.size+1,2,none⟩=some VE:=n2;clear t1 t3 g1 u0 B2 g2 h2 Y3 Z3 G0;go_wp2_with fail
         go_region_law
          (first
           | (refine step_append_lies _ (by rfl) _ _ _ (by rfl) wy.heap.size 3 i1 _ 1 8 Tryz.underlying32 Q0 R0 S0 T0 rfl (by decide) u17 k _ (by rfl) (P1.out 1 _) ⟨wr.heap.size,0,none⟩ 1 1 [.int .i64 (k:Int)] (by rfl) (by rfl) (World.news_of_block (heap_alloc_new wr _)) (by simp[Value.oneCell']) (by decide) x1 y1 (z1 1 _) _ rfl ?_;intro gn cn w7 A0 i0 G1 H1;obtain⟨Q1,b5,W0,E1,L0,k2⟩:=A7.out w7 i0;have K3:=W0.cell 2;have U2:∀o,(w7.alloc o).cell? ⟨w9.heap.size+1,2,none⟩=some VE:=(fun o=>(W0.alloc o).cell 2);simp at K3;have h1:∀ (o:Obj),wx.heap.size<=(w7.alloc o).heap.size:=(fun o=>(by simp;omega)))
           | (refine step_append_lies _ (by rfl) _ _ _ (by rfl) wx.heap.size 32 i2 _ 1 24 Tryz.underlying22 M3 N3 O3 P3 rfl (by decide) VE e _ (by rfl) (E1.alloc _) ⟨w7.heap.size,0,none⟩ 1 1 [.slice (some ⟨gn,0,none⟩) (k+1) cn] (by rfl) (by rfl) (World.news_of_block (heap_alloc_new w7 _)) (by simp[Value.oneCell']) (by decide) R2 S2 (h1 _) _ rfl ?_;intro g8 c8 w8 o1 k0 o2 l3;have P0:=(OB (W0.alloc (.cells #[.slice (some ⟨gn,0,none⟩) (k+1) cn] 32)) k0 (fun e'=>(by have:=O2 _ e';omega)));have m2:=P0.cell 2;have mf:=P0.frozen;simp at m2))
         all_goals
          have k1:w7.ownsRow wy.heap.size 3 1 (.slice (some ⟨gn,0,none⟩) (k+1) cn) (k+1) (JA (fun c=>((qB x y e c:Nat):Int)) (k+1)):=by rw[OA,v4.out];exact A0
          have R1:=BA.push (Z:=fun a b=>((qB x y a b:Nat):Int)) (E1.alloc (.cells #[.slice (some ⟨gn,0,none⟩) (k+1) cn] 32)) t2 (fun r hr=>⟨(L0 r hr).1.alloc _,(L0 r hr).2⟩) t4 u4 (k1.alloc _) o1 k0 (by simpa using o2);have N1:w8.grownBy (w8.setCell ⟨w9.heap.size+1,2,none⟩ (.slice (some ⟨g8,0,none⟩) (e+1) c8)) (some (w9.heap.size+1)):=⟨rfl,rfl,rfl,by simp,fun j _ hne=>by
           show (w8.heap.modify (w9.heap.size+1) _)[j]? = _;rw[Array.getElem?_modify,if_neg (fun e=>hne (by rw[e]))]⟩
          have y4:=k0.size;simp at y4;have S1:=hide ((R1.kept N1 (fun j hj=>Or.inl (by have e':w9.heap.size+1=j:=(by simpa using hj);omega))).mono lR (Nat.le_of_eq (show w8.heap.size=(w8.setCell ⟨w9.heap.size+1,2,none⟩ (.slice (some ⟨g8,0,none⟩) (e+1) c8)).heap.size by simp)));have T1:=hide (((k2.alloc (.cells #[.slice (some ⟨gn,0,none⟩) (k+1) cn] 32)).kept k0 (fun j hj=>Or.inr (O2 j hj))).kept N1 (fun j hj=>Or.inl (by have e':w9.heap.size+1=j:=(by simpa using hj);omega)));have B0:=hide (P0.set 2 (.slice (some ⟨g8,0,none⟩) (e+1) c8));simp at B0;have U1:=hide (((Q1.alloc (by omega) (.cells #[.slice (some ⟨gn,0,none⟩) (k+1) cn] 32)).trans (nA k0 (fun j hj=>by have:=O2 j hj;omega) (by simp;omega))).setCell (p:=⟨w9.heap.size+1,2,none⟩) lR (.slice (some ⟨g8,0,none⟩) (e+1) c8));have V1:=hide (show wx.heap.size<=(w8.setCell ⟨w9.heap.size+1,2,none⟩ (.slice (some ⟨g8,0,none⟩) (e+1) c8)).heap.size by simp;omega);clear k1 R1 N1 A0 i0 G1 H1 Q1 W0 E1 L0 k2 K3 U2 h1 o1 k0 o2 l3 P0 m2 mf A7 P1 n2 I2 x4;go_wp2;go_roundw
          case rel =>
           first
           | exact⟨e+1,_,by omega,by go_num,B0,T1,S1,U1,V1⟩
           | ((repeat apply Exists.intro);exact⟨⟨e+1,_,by omega,by go_num,B0,T1,S1,U1,V1⟩,rfl⟩)
          case measure=>simp[intOf];omega
      ·have z4:e=x.el:=by omega
       subst z4;have s4:(x.el:Int)<=(x.el:Int):=Int.le_refl _;obtain⟨X0,v0,rfl⟩:=y2.out.form;obtain⟨Y0,w0,rfl⟩:=A2.out.form;have C1:Below w9.heap.size w9 wy:=hv.trans (V0.out.mono (by omega));have J1:=(b2.below HB.out (by omega)).below C1 (by omega);have W1:=HB.out.trans (C1.mono (by omega));have n1:=K0.out.cell 0;have n2:=K0.out.cell 1;have n3:=K0.out.cell 2;have d0:=J1.cell 0;have d1:=J1.cell 1;have d2:=J1.cell 2;have df:=J1.frozen;have x2:=J1.set3 (.int .i64 ((inv:Int)+1)) (.slice X0 (inv+1) v0) (.slice Y0 x.el w0);have e0:=x2.cell 0;have e1:=x2.cell 1;have e2:=x2.cell 2;unfold st3 at e0 e1 e2;simp at n1 n2 n3 d0 d1 d2 e0 e1 e2;have P2:w9.heap.size+2<=wx.heap.size:=by have:=U0.out.size;omega
       have HM:Hid (iQ (yC x y) w.heap.size (.returned (.agg #[.int .i64 ((inv:Int)+1),(.slice X0 (inv+1) v0),(.slice Y0 x.el w0)])) (st3 wy (w.heap.size+1+1) (.int .i64 ((inv:Int)+1)) (.slice X0 (inv+1) v0) (.slice Y0 x.el w0))):=hide (by
        have V2:(yC x y).size=inv+1:=by
         show (x.size-1)*(y.size-1)+1=_;have e1:x.size-1=p:=by have:=p1.out;omega
         have e2:y.size-1=s2:=by have:=Z0.out;omega
         rw[e1,e2,E0.out]
        have L3:wy.grownBy (st3 wy (w.heap.size+1+1) (.int .i64 ((inv:Int)+1)) (.slice X0 (inv+1) v0) (.slice Y0 x.el w0)) (some (w.heap.size+1+1)):=⟨rfl,rfl,rfl,by unfold st3;simp,fun j _ hne=>by
         have e:∀ (X:World) (k:Nat) (v:Value),(X.setCell ⟨w.heap.size+1+1,k,none⟩ v).heap[j]? = X.heap[j]?:=fun X k v=>by
          show (X.heap.modify (w.heap.size+1+1) _)[j]? = _;rw[Array.getElem?_modify,if_neg (fun e=>hne (by rw[e]))]
         unfold st3;rw[e,e,e]⟩
        have W2:(st3 wy (w.heap.size+1+1) (.int .i64 ((inv:Int)+1)) (.slice X0 (inv+1) v0) (.slice Y0 x.el w0)).heap.size=wy.heap.size:=by unfold st3;simp
        refine⟨.slice X0 (inv+1) v0,.slice Y0 x.el w0,by rw[V2];rfl,wx.heap.size,by omega,by rw[W2];exact V3.out,?_,?_⟩
        ·rw[V2];exact(y2.out.kept L3 (fun j hj=>Or.inl (by have e':w.heap.size+1+1=j:=(by simpa using hj);omega))).mono (by omega) lR
        ·rw[V2];have A4:(st3 wy (w.heap.size+1+1) (.int .i64 ((inv:Int)+1)) (.slice X0 (inv+1) v0) (.slice Y0 x.el w0)).heap.size=wy.heap.size:=by unfold st3;simp
         rw[A4];exact A2.out.kept L3 (fun j hj=>Or.inl (by have e':w.heap.size+1+1=j:=(by simpa using hj);omega)))
       have B4:=hide (iB (s3.trans (W1.mono (by omega))) (show w.heap.size<=w.heap.size+1+1 by omega) (.int .i64 ((inv:Int)+1)) (.slice X0 (inv+1) v0) (.slice Y0 x.el w0));have C4:=U0;clear d3 Z1 a2 g3 X3 O1 J1 x2 C1 W1 y2 A2 HT r4;go_wp2;exact bodyPost_ret (v:=.agg #[.int .i64 ((inv:Int)+1),(.slice X0 (inv+1) v0),(.slice Y0 x.el w0)]) (by simp[results,Tryz.results70,go_sem,e0,e1,e2]) rfl ⟨HM.out,B4.out⟩
end Go.Proofs.YtjhkadffaephmacGreat
