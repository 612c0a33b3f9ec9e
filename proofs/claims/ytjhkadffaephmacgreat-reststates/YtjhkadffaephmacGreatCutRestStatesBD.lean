import Derived.Test.YtjhkadffaephmacGreatCutRestStatesBC
namespace Go.Proofs.YtjhkadffaephmacGreat
set_option maxHeartbeats 16000000
set_option maxRecDepth 100000
open Go.RowKit
theorem Alg.check_small {a:Alg}(h1:2<=a.size)(h2:a.size<=24)(h3:a.E.len<=8)(h4:(a.B.len:Int)=a.size):
 a.check=if (a.B.append a.E).wide a.size=false then 1 else if (a.B.append a.E).routes a.size=false then 5 else 0:=by
 rw[Tab.append_wide,Tab.append_routes];unfold Alg.check Alg.formOk Alg.routesOk;rw[if_neg (by omega),if_neg (by omega)];simp[h4]
theorem EJ (a:xA)(w:World)(h:a.In w.heap.size w)(h1:2<=a.size)(h2:a.size<=24)(h3:a.E.t.len<=8)(h4:(a.B.t.len:Int)=a.size):
 Calls Tryz.prog 68 #[a.val] w fun e w'=>e=.returned (.int .i64 a.alg.check)/\Below w.heap.size w w':=by
 have R0:=hide (Alg.check_small (a:=a.alg) h1 h2 h3 h4);have H4:=hide h4;have y1:(a.E.t.len:Int)<=8:=by omega
 have z1:((a.B.t.len:Int) != a.size)=false:=by simp[h4]
 have A1:a.B.t.len<=24:=by omega
 have p1:=h.E.len;have q1:=h.B.len;unfold maxLen at p1 q1;have J0:∀o,Below w.heap.size w (w.alloc o):=fun o=>(Below.refl _ _).alloc lR _;clear h4;obtain⟨size,B,E⟩:=a;simp only[xA.val,xA.alg]at *;have K0:B.val=.slice B.ga B.t.len B.cap:=rfl;have L0:E.val=.slice E.ga E.t.len E.cap:=rfl;rw[K0,L0];have S0:=hide K0;have T0:=hide L0;clear K0 L0;go_enter Tryz.func68,Tryz.ntmps68;go_wp2_with (go_at_call 52;refine(jA _ _ _ _).mono ?_;rintro e w' ⟨rfl,rfl⟩);have M0:=h.below (((J0 (.cells #[.int .i64 size,.slice B.ga B.t.len B.cap,.slice E.ga E.t.len E.cap] 24)).alloc (by simp) (.cells #[] 32)).trans (Below.mono (jO _) (by simp;omega))) lR;have U0:Blk ((w.alloc (.cells #[.int .i64 size,.slice B.ga B.t.len B.cap,.slice E.ga E.t.len E.cap] 24)).alloc (.cells #[] 32)).drew w.heap.size #[.int .i64 size,.slice B.ga B.t.len B.cap,.slice E.ga E.t.len E.cap] 24:=(Blk.new w _ _).alloc _;have V0:=(((J0 (.cells #[.int .i64 size,.slice B.ga B.t.len B.cap,.slice E.ga E.t.len E.cap] 24)).alloc (by simp) (.cells #[] 32)).trans (Below.mono (jO _) (by simp;omega)));have s0:((w.alloc (.cells #[.int .i64 size,.slice B.ga B.t.len B.cap,.slice E.ga E.t.len E.cap] 24)).alloc (.cells #[] 32)).drew.heap.size=w.heap.size+2:=by
  show ((w.alloc (.cells #[.int .i64 size,.slice B.ga B.t.len B.cap,.slice E.ga E.t.len E.cap] 24)).alloc (.cells #[] 32)).heap.size=_;simp
 have u0:World.ownsRow ((w.alloc (.cells #[.int .i64 size,.slice B.ga B.t.len B.cap,.slice E.ga E.t.len E.cap] 24)).alloc (.cells #[] 32)).drew (w.heap.size+1) 32 1 (.slice (some ⟨w.heap.size+1,0,none⟩) 0 0) 0 []:=by
  have:=World.ownsRow_made (w.alloc (.cells #[.int .i64 size,.slice B.ga B.t.len B.cap,.slice E.ga E.t.len E.cap] 24)) #[] 0 (base:=w.heap.size+1) (e:=32) (size:=1) (by simp) zL (by simp);simp only[World.size_alloc]at this;exact this
 obtain⟨g1,c1,W1,h0,i0,E0⟩:=gK _ (w.heap.size+1) w.heap.size (w.heap.size+1) 0 0 [] u0 B M0.B (by rw[s0];omega) (by omega) 22;have x0:Below (w.heap.size+1) _ W1:=(Below.refl _ _).grown E0 (by rw[s0];omega) (fun k e=>by cases e;exact lR);have y0:=U0.below x0 (by omega);have N0:=M0.below x0 (by omega);have z0:=x0.size;rw[s0]at z0;simp only[Nat.zero_add,List.nil_append]at h0 i0;obtain⟨g2,c2,W2,p0,v0,F0⟩:=gK _ (w.heap.size+1) w.heap.size g1 c1 B.t.len B.rows i0 E N0.E (by omega) (by omega) 22;have W0:=(i0.lt g1 rfl).1;have A0:Below (w.heap.size+1) W1 W2:=(Below.refl _ _).grown F0 (by omega) (fun k e=>by cases e;exact W0);have X0:=y0.below A0 (by omega);have q0:=N0.below A0 (by omega);have O0:=A0.size;have B0:=V0.trans ((x0.trans A0).mono (by omega));obtain⟨m,j1,k1,o1⟩:=wU v0 q0.B q0.E (by omega) (by omega);have Hm:=hide (show ∃m:Mat,Value.slice (some ⟨g2,0,none⟩) (B.t.len+E.t.len) c2=.slice m.ga m.t.len m.cap/\Hid (m.In W2.heap.size W2)/\Hid (m.t=B.t.append E.t)/\Hid (Blk W2 w.heap.size #[.int .i64 size,.slice B.ga B.t.len B.cap,.slice E.ga E.t.len E.cap] 24)/\Hid (Below w.heap.size w W2) from ⟨m,j1.symm,k1,o1,X0,B0⟩);rw[S0.out]at h0;rw[T0.out]at p0;have d0:=y0.cell 0;have d1:=y0.cell 1;have d2:=y0.cell 2;simp at d0 d1 d2;have R1:=hide h0;have R2:=hide p0;clear j1 k1 o1 m B0 O0 q0 X0 A0 W0 F0 v0 p0 h0 z0 N0 y0 x0 E0 i0 u0 s0 V0 U0 M0
 go_cut [3] from 21 to 27 (fun s3 wx=>∃m:Mat,s3=.slice m.ga m.t.len m.cap/\Hid (m.In wx.heap.size wx)/\Hid (m.t=B.t.append E.t)/\Hid (Blk wx w.heap.size #[.int .i64 size,.slice B.ga B.t.len B.cap,.slice E.ga E.t.len E.cap] 24)/\Hid (Below w.heap.size w wx))
 case first =>
  go_region_law (first
   | (refine rC rfl (.tmp 21) (.tmp 23) 22 rfl _ _ (by simp[Act.eval]) (by simp[Act.eval]) _ _ R1.out ?_)
   | (refine rC rfl (.tmp 24) (.tmp 26) 22 rfl _ _ (by simp[Act.eval]) (by simp[Act.eval]) _ _ R2.out ?_))
  all_goals
   go_wp2_with fail;go_meet;exact Hm.out
 case rest =>
  obtain⟨m,rfl,HI,HT,HA,HB⟩:=hcut;clear Hm R1 R2 d0 d1 d2 S0 T0 J0;have s1:=HI.out.len;unfold maxLen at s1;have B1:Hid (m.t.len<=32):=hide (by rw[HT.out];show B.t.len+E.t.len<=32;omega);have Y0:Hid (Alg.check ⟨size,B.t,E.t⟩=if m.t.wide size=false then 1 else if m.t.routes size=false then 5 else 0):=hide (by rw[HT.out];exact R0.out);clear R0;go_wp2
  go_loopw [4] (fun i wr=>∃k:Nat,k<=m.t.len/\i=.int .i64 k/\Hid (∀r,r<k->(m.t.L r:Int)=size)/\Hid (Below wc.heap.size wc wr)) (fun i _=>m.t.len-(intOf i).toNat)
  case atStart=>exact⟨0,zL,rfl,hide (fun r hr=>absurd hr nZ),hide (Below.refl _ _)⟩
  case round =>
   obtain⟨k,hk,rfl,j0,g0⟩:=hrel;have I0:=HA.out.below g0.out HA.out.lt;have c0:=I0.cell 0;simp at c0;have w0:=hide (HB.out.trans (g0.out.mono HB.out.size));by_cases Q0:k<m.t.len
   ·have q0:=HI.out.below g0.out lR;have t1:=HI.out.ga (by omega);have C0:=q0.row k Q0;have m0:=HI.out.lens k Q0;unfold maxLen at m0;have u1:(k:Int)<(m.t.len:Int):=by omega
    clear q0;by_cases he:(m.t.L k:Int)=size
    ·have v1:((m.t.L k:Int) != size)=false:=by simp[he]
     have He:=hide he;clear he;go_wp2_with fail
     go_quiet (fail)
     go_wp2;go_roundw
     case rel=>exact⟨k+1,by omega,by go_num,hide (fun r hr=>by
      by_cases e:r=k
      ·subst e;exact He.out
      ·exact j0.out r (by omega)),hide (below_drewN g0.out _)⟩
     case measure=>simp[intOf];omega
    ·have v1:((m.t.L k:Int) != size)=true:=by simp[he]
     have f0:=hide (show Alg.check ⟨size,B.t,E.t⟩=1 by rw[Y0.out];simp[Tab.wide_false Q0 he]);clear he;go_wp2_with fail
     go_quiet (fail)
     go_wp2;go_ret;exact⟨by rw[f0.out];rfl,below_drewN w0.out _⟩
   ·have o0:m.t.wide size=true:=(m.t.wide_iff size).2 (fun r hr=>j0.out r (by omega));have D0:Hid (Alg.check ⟨size,B.t,E.t⟩=if m.t.routes size=false then 5 else 0):=hide (by rw[Y0.out,o0];rfl);have HW:=hide o0;clear o0;go_wp2
    go_loopw [5,6] (fun i _ wr=>∃k:Nat,k<=m.t.len/\i=.int .i64 k/\Hid (∀r,r<k->∀c,c<m.t.L r->0<=m.t.Z r c/\m.t.Z r c<size)/\Hid (Below wc.heap.size wc wr)) (fun i _ _=>m.t.len-(intOf i).toNat)
    case atStart=>exact⟨0,zL,rfl,hide (fun r hr=>absurd hr nZ),g0⟩
    case round =>
     clear j0 I0 c0 w0 g0;obtain⟨i,hi,rfl,j0,g0⟩:=hrel;by_cases k0:i<m.t.len
     ·have t1:=HI.out.ga (by omega);have m0:=HI.out.lens i k0;unfold maxLen at m0;have Z0:Hid ((m.t.L i:Int)=size):=hide ((m.t.wide_iff size).1 HW.out i k0);have u1:(i:Int)<(m.t.len:Int):=by omega
      go_wp2
      go_loopw [6] (fun j wr=>∃c:Nat,(c:Int)<=size/\j=.int .i64 c/\Hid (∀c',c'<c->0<=m.t.Z i c'/\m.t.Z i c'<size)/\Hid (Below wc.heap.size wc wr)) (fun j _=>size.toNat-(intOf j).toNat)
      case atStart=>exact⟨0,by omega,rfl,hide (fun r hr=>absurd hr nZ),g0⟩
      case round =>
       clear g0;obtain⟨c,hc,rfl,G0,g0⟩:=hrel;have I0:=HA.out.below g0.out HA.out.lt;have c0:=I0.cell 0;simp at c0;have w0:=hide (HB.out.trans (g0.out.mono HB.out.size));by_cases D1:(c:Int)<size
       ·have q0:=HI.out.below g0.out lR;have f1:c<m.t.L i:=by have:=Z0.out;omega
        have C0:=q0.row i k0;have hA:=(HI.out.addr i k0 (by omega)).1;rw[hA]at C0;have i1:=q0.cell i k0 c f1;have C1:(c:Int)<(m.t.L i:Int):=by omega
        clear q0 hA;by_cases H0:0<=m.t.Z i c/\m.t.Z i c<=size-1
        ·have hb:(decide (0<=m.t.Z i c) && decide (m.t.Z i c<=size-1))=true:=by simp[H0]
         have CB:=hide (fun W=>show Calls Tryz.prog 52 #[.int .i64 (m.t.Z i c),.int .i64 0,.int .i64 (size-1)] W fun e w'=>e=.returned (.bool true)/\w'=W from by rw[<-hb];exact jA _ _ _ W);have w1:=hide H0;clear H0 hb;go_wp2_with fail
         go_quiet ((go_at_call 52;exact Calls.quiet_of_same (CB.out _)))
         go_wp2;go_roundw
         case rel=>exact⟨c+1,by omega,by go_num,hide (fun c' x1=>by
          by_cases e:c'=c
          ·subst e;have:=w1.out;omega
          ·exact G0.out c' (by omega)),hide (below_drewN g0.out _)⟩
         case measure=>simp[intOf];omega
        ·have hb:(decide (0<=m.t.Z i c) && decide (m.t.Z i c<=size-1))=false:=by rw[Bool.eq_false_iff];simpa using H0
         have CB:=hide (fun W=>show Calls Tryz.prog 52 #[.int .i64 (m.t.Z i c),.int .i64 0,.int .i64 (size-1)] W fun e w'=>e=.returned (.bool false)/\w'=W from by rw[<-hb];exact jA _ _ _ W);have f0:=hide (show Alg.check ⟨size,B.t,E.t⟩=5 by rw[D0.out];simp[Tab.routes_false (s:=size) k0 f1 (by omega)]);clear H0 hb;go_wp2_with fail
         go_quiet ((go_at_call 52;exact Calls.quiet_of_same (CB.out _)))
         go_wp2;go_ret;exact⟨by rw[f0.out];rfl,below_drewN w0.out _⟩
       ·have f0:∀r,r<i+1->∀c,c<m.t.L r->0<=m.t.Z r c/\m.t.Z r c<size:=fun r hr=>by
         by_cases e:r=i
         ·subst e;intro c' x1;exact G0.out c' (by have:=Z0.out;omega)
         ·exact j0.out r (by omega)
        have P0:=hide f0;clear f0;go_wp2;go_roundw
        case rel=>exact⟨i+1,by omega,by go_num,P0,g0⟩
        case measure=>simp[intOf];omega
     ·have f0:=hide (show Alg.check ⟨size,B.t,E.t⟩=0 by rw[D0.out];simp[(m.t.routes_iff size).2 (fun r hr=>j0.out r (by omega))]);have w0:=hide (HB.out.trans (g0.out.mono HB.out.size));go_wp2;go_ret;exact⟨by rw[f0.out];rfl,w0.out⟩
theorem VL (a:xA)(w:World)(h:a.In w.heap.size w):
 Calls Tryz.prog 68 #[a.val] w fun e w'=>e=.returned (.int .i64 a.alg.check)/\Below w.heap.size w w':=by
 have f0:∀o,Below w.heap.size w (w.alloc o):=fun o=>(Below.refl _ _).alloc lR _;by_cases h1:2<=a.size/\a.size<=24
 ·by_cases h3:a.E.t.len<=8
  ·by_cases h4:(a.B.t.len:Int)=a.size
   ·exact EJ a w h h1.1 h1.2 h3 h4
   ·obtain⟨g1,g2⟩:=h1;have g0:=h.B.len;unfold maxLen at g0;have d0:=hide (show a.alg.check=1 by simp[Alg.check,Alg.formOk,xA.alg,h4];omega);have h0:(a.E.t.len:Int)<=8:=by omega
    have:((a.B.t.len:Int) != a.size)=true:=by simp[h4]
    have:=hide h4;clear h4;simp only[xA.val,Mat.val];go_enter Tryz.func68,Tryz.ntmps68;go_wp2_with (go_at_call 52;refine(jA _ _ _ _).mono ?_;rintro e w' ⟨rfl,rfl⟩);go_ret;exact⟨by rw[d0.out];rfl,f0 _⟩
  ·obtain⟨g1,g2⟩:=h1;have i0:=h.E.len;unfold maxLen at i0;have d0:=hide (show a.alg.check=2 by simp[Alg.check,xA.alg];omega);have h0:8<(a.E.t.len:Int):=by omega
   simp only[xA.val,Mat.val];go_enter Tryz.func68,Tryz.ntmps68;go_wp2_with (go_at_call 52;refine(jA _ _ _ _).mono ?_;rintro e w' ⟨rfl,rfl⟩);go_ret;exact⟨by rw[d0.out];rfl,f0 _⟩
 ·have d0:=hide (show a.alg.check=3 by simp[Alg.check,xA.alg];omega);have hb:(decide (2<=a.size) && decide (a.size<=24))=false:=by rw[Bool.eq_false_iff];simpa using h1
  have CB:=hide (fun W=>show Calls Tryz.prog 52 #[.int .i64 a.size,.int .i64 2,.int .i64 24] W fun e w'=>e=.returned (.bool false)/\w'=W from by rw[<-hb];exact jA _ _ _ W);clear hb h1;simp only[xA.val];go_enter Tryz.func68,Tryz.ntmps68;go_wp2_with (go_at_call 52;refine(CB.out _).mono ?_;rintro e w' ⟨rfl,rfl⟩);go_ret;exact⟨by rw[d0.out];rfl,f0 _⟩
theorem qI (n l m:Int)(w:World):
 Calls Tryz.prog 52 #[.int .i64 n,.int .i64 l,.int .i64 m] w fun e w'=>e=.returned (.bool (decide (l<=n) && decide (n<=m)))/\∃q,w'=w.drewN q :=
 (jA n l m w).mono (fun _ _ ⟨h1,h2⟩=>⟨h1,0,h2⟩)
theorem bP (w:World):
 Calls Tryz.prog 103 #[] w fun e w'=>e=.returned (.slice (some ⟨w.heap.size,0,none⟩) 7 7)/\w'=w.alloc (.cells #[.int .i64 1,.int .i64 2,.int .i64 3,.int .i64 4,.int .i64 5,.int .i64 6,.int .i64 7] 3):=by
 go_enter Tryz.func103,Tryz.ntmps103;go_wp2;go_ret;exact⟨rfl,rfl⟩
structure xU (w:World) (a:xA) (W:World):Prop where
 below:Below w.heap.size w W
 blk:Blk W w.heap.size #[.int .i64 a.size,a.B.val,a.E.val] 24
def ZP (a:xA) (i:Nat) (v:Value) (W:World):Prop :=
 match i with
 | 0=>v=a.val
 | 1=>∃b,v=.slice (some ⟨b,0,none⟩) 7 7/\Blk W b #[.int .i64 1,.int .i64 2,.int .i64 3,.int .i64 4,.int .i64 5,.int .i64 6,.int .i64 7] 3
 | 2=>v=(a.alg.firstOf [1,2,3,4,5,6,7]).val
 | 3=>v=.int .i64 (a.alg.firstOf [1,2,3,4,5,6,7]).law
 | _=>v=.bool ((a.alg.firstOf [1,2,3,4,5,6,7]).law == 0)
theorem xU.keep {w:World}{a:xA}{W W':World}(h:xU w a W)(hb:Below W.heap.size W W'):xU w a W':=⟨h.below.trans (hb.mono h.below.size),h.blk.below hb h.blk.lt⟩
theorem ZP.keep {a:xA}{W W':World}(hb:Below W.heap.size W W')(i:Nat)(v:Value)(h:ZP a i v W):ZP a i v W':=by
 unfold ZP at *;split at h
 all_goals first | exact h | skip
 obtain⟨b,h1,h2⟩:=h;exact⟨b,h1,h2.below hb h2.lt⟩
theorem lM (a:xA)(w:World)(h:a.In w.heap.size w)(hc:a.alg.check=0):
 Calls Tryz.prog 69 #[a.val] w fun e w'=>e=.returned (.bool ((a.alg.tell [1,2,3,4,5,6,7]).law == 0))/\Below w.heap.size w w':=by
 have ht:a.alg.tell [1,2,3,4,5,6,7]=a.alg.firstOf [1,2,3,4,5,6,7]:=by unfold Alg.tell;rw[if_pos hc]
 rw[ht];have g:=Alg.good_of_check hc;have d0:Below w.heap.size w (w.alloc (.cells #[.int .i64 a.size,a.B.val,a.E.val] 24)):=(Below.refl _ w).alloc lR _;have b0:=Blk.new w #[.int .i64 a.size,a.B.val,a.E.val] 24;have HF:=hide (fun W (hb:Below w.heap.size w W) b (hbk:Blk W b #[.int .i64 1,.int .i64 2,.int .i64 3,.int .i64 4,.int .i64 5,.int .i64 6,.int .i64 7] 3)=>UL a g [1,2,3,4,5,6,7] (by decide) (by decide) b W ((h.below hb lR).mono hb.size) hbk.lt (fun i hi=>by
  rw[hbk.cell i]
  match i,hi with
  | 0,_=>rfl
  | 1,_=>rfl
  | 2,_=>rfl
  | 3,_=>rfl
  | 4,_=>rfl
  | 5,_=>rfl
  | 6,_=>rfl))
 clear ht g hc h;simp only[xA.val]at HF |-;go_enter Tryz.func69,Tryz.ntmps69;go_wp2_with fail;refine XF (xU w a) (ZP a) (by kernel_rfl) (by kernel_rfl) (by kernel_rfl) ⟨below_drewN d0 1,b0.drewN 1⟩ ⟨?_,?_,?_,?_,?_,?_,trivial⟩ ?_
 all_goals clear d0 b0
 rotate_right
 ·intro t W hG hE;have e4:t 4=.bool ((a.alg.firstOf [1,2,3,4,5,6,7]).law == 0):=hE 4 (by decide);have e5:t 5=.bool ((a.alg.firstOf [1,2,3,4,5,6,7]).law == 0):=hE 5 (by decide);have g0:=hG.below;clear hE hG;simp only[fill,Act.put,sX,sY,sU,e4,e5];go_wp2;go_ret;exact⟨rfl,g0⟩
 all_goals intro t W hG hp K hK
 all_goals simp only[fill,Act.put,sX,sY,sU]at hK |-
 all_goals rw[if_pos (by rfl)]
 ·have c0:=hG.blk.cell 0;have c1:=hG.blk.cell 1;have c2:=hG.blk.cell 2;simp at c0 c1 c2;go_simp;exact hK _ W hG rfl (fun _ _ _ h=>h)
 ·go_simp;go_at_call 103;refine(bP W).mono ?_;rintro e W' ⟨rfl,rfl⟩;have hb:Below W.heap.size W (W.alloc (.cells #[.int .i64 1,.int .i64 2,.int .i64 3,.int .i64 4,.int .i64 5,.int .i64 6,.int .i64 7] 3)):=(Below.refl _ W).alloc lR _;go_simp;exact hK _ _ (hG.keep hb) ⟨W.heap.size,rfl,Blk.new W _ _⟩ (fun j u _=>ZP.keep hb j u)
 ·have e0:t 0=a.val:=hp 0 (by decide);obtain⟨b,e1,hb⟩:=hp 1 (by decide);rw[xA.val]at e0;simp only[e0,e1]at hK |-;go_simp;go_at_call 102;refine(HF.out W hG.below b hb).mono ?_;rintro e W' ⟨rfl,f0⟩;go_simp;exact hK _ _ (hG.keep f0) rfl (fun j u _=>ZP.keep f0 j u)
 ·have e2:t 2=(a.alg.firstOf [1,2,3,4,5,6,7]).val:=hp 2 (by decide);rw[Brk.val]at e2;simp only[e2]at hK |-;go_simp;exact hK _ W hG rfl (fun _ _ _ h=>h)
 ·have e3:t 3=.int .i64 (a.alg.firstOf [1,2,3,4,5,6,7]).law:=hp 3 (by decide);simp only[e3]at hK |-;go_simp;exact hK _ W hG rfl (fun _ _ _ h=>h)
 ·have e4:t 4=.bool ((a.alg.firstOf [1,2,3,4,5,6,7]).law == 0):=hp 4 (by decide);simp only[e4]at hK |-;go_simp;exact hK _ W hG rfl (fun _ _ _ h=>h)
theorem aC (n:dA)(i:Int)(w:World)(h1:1<=n.nodes)(h6:n.nodes<=6):
 Calls Tryz.prog 33 #[n.val,.int .i64 i] w fun e w'=>e=.returned (.bool (decide (0<=i) && decide (i<=n.nodes-1)))/\w'=w.alloc (.cells n.cells 27):=by
 simp only[dA.val,dA.cells,Mat.val];go_enter Tryz.func33,Tryz.ntmps33;go_wp2_with fail;go_at_call 52;refine(jA _ _ _ _).mono ?_;rintro e w' ⟨rfl,rfl⟩;go_wp2;go_ret;exact⟨rfl,rfl⟩
theorem Net.edge_at {n:Net}{i k:Int}{l:Nat}(hl:l<n.ln)(h0:∀j,j<l->¬ (n.F j=i/\n.T j=k))(h1:n.F l=i)(h2:n.T l=k):n.edge i k=n.E l:=by
 unfold Net.edge;have:(List.range n.ln).find? (fun l=>n.F l == i && n.T l == k)=some l:=by
  rw[List.find?_range_eq_some];refine⟨by simp[h1,h2],by simpa using hl,fun j hj=>?_⟩;have:=h0 j hj;simp only[Bool.not_eq_true',Bool.and_eq_false_iff,beq_eq_false_iff_ne];exact Classical.byContradiction fun hc=>this ⟨Classical.byContradiction fun e=>hc (Or.inl e),Classical.byContradiction fun e=>hc (Or.inr e)⟩
 rw[this];rfl
theorem Net.edge_no {n:Net}{i k:Int}(h0:∀j,j<n.ln->¬ (n.F j=i/\n.T j=k)):n.edge i k = -1:=by
 unfold Net.edge;have:(List.range n.ln).find? (fun l=>n.F l == i && n.T l == k)=none:=by
  rw[List.find?_eq_none];intro j hj hx;simp at hj hx;exact h0 j hj hx
 rw[this];rfl
def Net.noLink (n:Net) (i k:Int) (l:Nat):Prop:=∀j,j<l->¬ (n.F j=i/\n.T j=k)
theorem nH (n:dA)(i k:Int)(w:World)(h:n.In w.heap.size w):
 Calls Tryz.prog 53 #[n.val,.int .i64 i,.int .i64 k] w fun e w'=>e=.returned (.int .i64 (n.net.edge i k))/\w'=w.alloc (.cells n.cells 27):=by
 have i0:=h.len;unfold maxLen at i0;have H:=hide (fun o=>h.below ((Below.refl _ w).alloc lR o) lR);have j0:=hide h.la;clear h;simp only[dA.val,dA.cells,Mat.val]at *;go_enter Tryz.func53,Tryz.ntmps53;go_wp2
 go_loop [7] (fun q=>∃l:Nat,l<=n.ln/\q=.int .i64 l/\Hid (n.net.noLink i k l)) (fun q=>n.ln-(intOf q).toNat)
 case atStart=>exact⟨0,zL,rfl,hide fun r hr=>absurd hr nZ⟩
 case round =>
  obtain⟨l,hl,rfl,d0⟩:=hrel;by_cases h0:l<n.ln
  ·have g0:=j0.out (by omega);have:=fun o=>(H.out o).f l h0;have:=fun o=>(H.out o).t l h0;have:=fun o=>(H.out o).e l h0;have k0:(l:Int)<(n.ln:Int):=by omega
   by_cases hF:n.F l=i
   ·have m0:(n.F l == i)=true:=by simp[hF]
    by_cases hT:n.T l=k
    ·have o0:(n.T l == k)=true:=by simp[hT]
     have f0:=hide (Net.edge_at (n:=n.net) (i:=i) (k:=k) h0 d0.out hF hT);clear hF hT;go_wp2;go_ret;exact⟨by rw[f0.out];rfl,rfl⟩
    ·have o0:(n.T l == k)=false:=by simp[hT]
     have Hn:Hid (n.net.noLink i k (l+1)):=hide (fun j hj=>by
      by_cases e:j=l
      ·subst e;exact fun hx=>hT hx.2
      ·exact d0.out j (by omega))
     clear hF hT;go_wp2
     go_round
     case rel =>
      first
      | exact⟨l+1,by omega,by go_num,Hn⟩
      | ((try rw[<-g0]);(repeat apply Exists.intro);refine⟨?_,rfl⟩;exact⟨l+1,by omega,by go_num,Hn⟩)
      | (rw[<-g0];refine⟨trivial,?_⟩;(repeat apply Exists.intro);refine⟨?_,rfl⟩;exact⟨l+1,by omega,by go_num,Hn⟩)
     case measure=>simp[intOf];omega
   ·have m0:(n.F l == i)=false:=by simp[hF]
    have Hn:Hid (n.net.noLink i k (l+1)):=hide (fun j hj=>by
     by_cases e:j=l
     ·subst e;exact fun hx=>hF hx.1
     ·exact d0.out j (by omega))
    clear hF;go_wp2
    go_round
    case rel =>
     first
     | exact⟨l+1,by omega,by go_num,Hn⟩
     | ((try rw[<-g0]);(repeat apply Exists.intro);refine⟨?_,rfl⟩;exact⟨l+1,by omega,by go_num,Hn⟩)
     | (rw[<-g0];refine⟨trivial,?_⟩;(repeat apply Exists.intro);refine⟨?_,rfl⟩;exact⟨l+1,by omega,by go_num,Hn⟩)
    case measure=>simp[intOf];omega
  ·have f0:=hide (Net.edge_no (n:=n.net) (i:=i) (k:=k) (fun j hj=>d0.out j (by have:j<n.ln:=hj;omega)));have k0:(n.ln:Int)<=(l:Int):=by omega
   go_wp2;go_ret;exact⟨by rw[f0.out];rfl,rfl⟩
theorem Net.linkErr_six {n:Net}{k:Nat}(h0:¬ ((n.F k<0\/n.nodes<=n.F k)\/(n.T k<0\/n.nodes<=n.T k)\/(n.E k<0\/(n.a.E.len:Int)<=n.E k)))(h1:¬ n.F k=n.T k){j:Nat}(hj:j<k)(hF:n.F j=n.F k)(hT:n.T j=n.T k):n.linkErr k=6:=by
 unfold Net.linkErr;rw[if_neg h0,if_neg h1,if_pos];unfold Net.twice;rw[List.any_eq_true];exact⟨j,by simpa using hj,by simp[hF,hT]⟩
theorem Net.linkErr_zero {n:Net}{k:Nat}(h0:¬ ((n.F k<0\/n.nodes<=n.F k)\/(n.T k<0\/n.nodes<=n.T k)\/(n.E k<0\/(n.a.E.len:Int)<=n.E k)))(h1:¬ n.F k=n.T k)(h2:n.noLink (n.F k) (n.T k) k):n.linkErr k=0:=by
 unfold Net.linkErr;rw[if_neg h0,if_neg h1,if_neg];unfold Net.twice;intro hx;rw[List.any_eq_true]at hx;obtain⟨j,hj,hx⟩:=hx;simp at hj hx;exact h2 j hj hx
theorem gH (n:dA)(w:World)(h:n.In w.heap.size w):
 Calls Tryz.prog 30 #[n.val] w fun e w'=>e=.returned (.int .i64 n.net.check)/\Below w.heap.size w w':=by
 have J0:=h.len;unfold maxLen at J0;have X0:=h.a.E.len;unfold maxLen at X0;have p0:Below w.heap.size w (w.alloc (.cells n.cells 27)):=(Below.refl _ w).alloc lR _;have b0:=Blk.new w n.cells 27;have HC:=hide (VL n.a _ ((h.a.below p0 lR).mono p0.size));have HL:=hide (fun W (hb:Below w.heap.size w W) (hc:n.a.alg.check=0)=>lM n.a W ((h.a.below hb lR).mono hb.size) hc);have h0:Hid (n.net.check=if n.a.alg.check≠0 then n.a.alg.check else if (n.a.alg.tell [1,2,3,4,5,6,7]).law≠0 then 4
  else if n.nodes<1\/6<n.nodes then 3 else aB n.net.linkErr n.ln):=hide rfl
 have H:=hide h;generalize n.a.alg.tell [1,2,3,4,5,6,7]=fb at *;generalize n.a.alg.check=ck at *;clear h;simp only[dA.val,dA.cells,xA.val,Mat.val]at HC HL b0 p0 |-;go_enter Tryz.func30,Tryz.ntmps30;go_wp2_with fail;go_at_call 68;refine HC.out.mono ?_;rintro e w1 ⟨rfl,P0⟩;have q0:=p0.trans (P0.mono p0.size);have b1:=b0.below P0 b0.lt;clear HC p0 b0 P0;by_cases hc:ck=0;rotate_left
 ·have f0:Hid (n.net.check=ck):=hide (by rw[h0.out];simp[hc]);have s1:(ck != 0)=true:=by simp[hc]
  have HB:=hide q0;clear h0 hc HL q0;go_wp2;go_ret;exact⟨by rw[f0.out];rfl,HB.out⟩
 subst hc;have x0:=b1.cell 0;have x1:=b1.cell 1;have x2:=b1.cell 2;simp at x0 x1 x2;have R0:=hide (HL.out w1 q0 rfl);clear HL;go_wp2_with fail;go_at_call 69;refine R0.out.mono ?_;rintro e w2 ⟨rfl,Q0⟩;have s0:=q0.trans (Q0.mono q0.size);have b2:=b1.below Q0 b1.lt;clear R0 q0 b1 Q0 x0 x1 x2;by_cases hl:fb.law=0;rotate_left
 ·have f0:Hid (n.net.check=4):=hide (by rw[h0.out];simp[hl]);have z0:(fb.law == 0)=false:=by simp[hl]
  have HB:=hide s0;clear h0 hl s0;rw[z0];go_wp2;go_ret;exact⟨by rw[f0.out];rfl,HB.out⟩
 have z0:(fb.law == 0)=true:=by simp[hl]
 rw[z0];have x3:=b2.cell 3;simp at x3;go_wp2_with fail;go_at_call 52;refine(jA _ _ _ _).mono ?_;rintro e w' ⟨rfl,e1⟩;have e2:=e1.symm;subst e2;clear e1;by_cases hn:1<=n.nodes/\n.nodes<=6;rotate_left
 ·have f0:Hid (n.net.check=3):=hide (by
   rw[h0.out];have:n.nodes<1\/6<n.nodes:=by omega
   simp[hl,this])
  have A0:(decide (1<=n.nodes) && decide (n.nodes<=6))=false:=by simp;omega
  have HB:=hide s0;clear h0 hl s0 hn;rw[A0];go_wp2;go_ret;exact⟨by rw[f0.out];rfl,HB.out⟩
 have A0:(decide (1<=n.nodes) && decide (n.nodes<=6))=true:=by simp[hn]
 rw[A0];have S0:Hid (n.net.check=aB n.net.linkErr n.ln):=hide (by
  rw[h0.out];have:¬ (n.nodes<1\/6<n.nodes):=by omega
  simp[hl,this])
 obtain⟨o1,p1⟩:=hn;have i0:=hide s0;have HN:=hide (fun i W=>aC n i W o1 p1);simp only[dA.val,dA.cells,Mat.val]at HN;clear h0 hl z0 A0 s0 x3;go_wp2_with fail
 go_loopw [4,5,6] (fun q _ _ wr=>∃k:Nat,k<=n.ln/\q=.int .i64 k/\Hid (∀r,r<k->n.net.linkErr r=0)/\Hid (Below w2.heap.size w2 wr)) (fun q _ _ _=>n.ln-(intOf q).toNat)
 case atStart=>exact⟨0,zL,rfl,hide fun r hr=>absurd hr nZ,hide (Below.refl _ _)⟩
 case round =>
  obtain⟨k,hk,rfl,o0,HB⟩:=hrel;have u0:=i0.out.trans (HB.out.mono i0.out.size);have bN:=b2.below HB.out b2.lt;have x4:=bN.cell 4;simp at x4;by_cases I0:k<n.ln
  ·have B0:=H.out.la (by omega);have hI:=H.out.below u0 lR;have c0:=hI.f k I0;have c1:=hI.t k I0;have c2:=hI.e k I0;have Y0:(k:Int)<(n.ln:Int):=by omega
   have j0:Hid (n.net.linkErr k≠0->n.net.check=n.net.linkErr k):=hide (fun hne=>S0.out.trans (nG I0 o0.out hne));have n0:=fun o=>(bN.alloc o).cell 0;have n1:=fun o=>(bN.alloc o).cell 1;have n2:=fun o=>(bN.alloc o).cell 2;have n3:=fun o=>(bN.alloc o).cell 3;have n4:=fun o=>(bN.alloc o).cell 4;simp at n0 n1 n2 n3 n4;have Z0:=hide (HB.out.alloc HB.out.size (.cells #[.int .i64 (n.F k),.int .i64 (n.T k),.int .i64 (n.E k)] 81));have K0:=hide (u0.alloc u0.size (.cells #[.int .i64 (n.F k),.int .i64 (n.T k),.int .i64 (n.E k)] 81));have L0:=bN.alloc (.cells #[.int .i64 (n.F k),.int .i64 (n.T k),.int .i64 (n.E k)] 81);have bL:=Blk.new wr #[.int .i64 (n.F k),.int .i64 (n.T k),.int .i64 (n.E k)] 81;have C0:=hide (fun i W=>HN.out i W);rw[B0]at C0;clear hI u0;go_wp2_with fail;go_at_call 33;refine(C0.out _ _).mono ?_;rintro e w3 ⟨rfl,e1⟩;have D0:Below (wr.alloc (.cells #[.int .i64 (n.F k),.int .i64 (n.T k),.int .i64 (n.E k)] 81)).heap.size (wr.alloc (.cells #[.int .i64 (n.F k),.int .i64 (n.T k),.int .i64 (n.E k)] 81)) w3:=by rw[e1];exact(Below.refl _ _).alloc lR _
   clear e1;have E0:=hide (HB.out.trans ((((Below.refl _ wr).alloc lR _).trans (D0.mono (by simp))).mono HB.out.size));have b3:=L0.below D0 L0.lt;have v0:=bL.below D0 bL.lt;have x0:=b3.cell 0;have x1:=b3.cell 1;have x2:=b3.cell 2;have x3:=b3.cell 3;have x4:=b3.cell 4;have l0:=v0.cell 0;have l1:=v0.cell 1;have l2:=v0.cell 2;simp at x0 x1 x2 x3 x4 l0 l1 l2;clear n0 n1 n2 n3 n4 D0 L0 bL Z0 K0 bN;by_cases hF:0<=n.F k/\n.F k<=n.nodes-1;rotate_left
   ·have g0:n.net.linkErr k=5:=dC (Or.inl (by show n.F k<0\/n.nodes<=n.F k;omega));have f0:=hide ((j0.out (by rw[g0];decide)).trans g0);have hb:(decide (0<=n.F k) && decide (n.F k<=n.nodes-1))=false:=by simp;omega
    have k0:=hide (i0.out.trans (E0.out.mono i0.out.size));rw[hb];clear g0 hF hb;go_wp2;go_ret;exact⟨by rw[f0.out];rfl,k0.out⟩
   have hb:(decide (0<=n.F k) && decide (n.F k<=n.nodes-1))=true:=by simp[hF]
   rw[hb];have HF:=hide hF;clear hb hF;go_wp2_with fail;go_at_call 33;refine(C0.out _ _).mono ?_;rintro e w4 ⟨rfl,e1⟩;have F0:Below w3.heap.size w3 w4:=by rw[e1];exact(Below.refl _ _).alloc lR _
   clear e1;have w0:=hide (E0.out.trans (F0.mono E0.out.size));have b4:=b3.below F0 b3.lt;have G0:=v0.below F0 v0.lt;clear x0 x1 x2 x3 x4 l0 l1 l2 F0 b3 v0 E0;have x2:=b4.cell 2;have x4:=b4.cell 4;have l0:=G0.cell 0;have l1:=G0.cell 1;have l2:=G0.cell 2;simp at x2 x4 l0 l1 l2;by_cases hT:0<=n.T k/\n.T k<=n.nodes-1;rotate_left
   ·have g0:n.net.linkErr k=5:=dC (Or.inr (Or.inl (by show n.T k<0\/n.nodes<=n.T k;omega)));have f0:=hide ((j0.out (by rw[g0];decide)).trans g0);have hb:(decide (0<=n.T k) && decide (n.T k<=n.nodes-1))=false:=by simp;omega
    have k0:=hide (i0.out.trans (w0.out.mono i0.out.size));rw[hb];clear g0 hT hb;go_wp2;go_ret;exact⟨by rw[f0.out];rfl,k0.out⟩
   have hb:(decide (0<=n.T k) && decide (n.T k<=n.nodes-1))=true:=by simp[hT]
   rw[hb];have HT:=hide hT;clear hb hT;go_wp2_with fail;go_at_call 52;refine(jA _ _ _ _).mono ?_;rintro e w' ⟨rfl,e1⟩;have e2:=e1.symm;subst e2;clear e1;by_cases hE:0<=n.E k/\n.E k<=(n.a.E.t.len:Int)-1;rotate_left
   ·have g0:n.net.linkErr k=5:=dC (Or.inr (Or.inr (by show n.E k<0\/(n.a.E.t.len:Int)<=n.E k;omega)));have f0:=hide ((j0.out (by rw[g0];decide)).trans g0);have hb:(decide (0<=n.E k) && decide (n.E k<=(n.a.E.t.len:Int)-1))=false:=by simp;omega
    have k0:=hide (i0.out.trans (w0.out.mono i0.out.size));rw[hb];clear g0 hE hb;go_wp2;go_ret;exact⟨by rw[f0.out];rfl,k0.out⟩
   have hb:(decide (0<=n.E k) && decide (n.E k<=(n.a.E.t.len:Int)-1))=true:=by simp[hE]
   rw[hb];have M0:Hid (¬ ((n.net.F k<0\/n.net.nodes<=n.net.F k)\/(n.net.T k<0\/n.net.nodes<=n.net.T k)\/(n.net.E k<0\/(n.net.a.E.len:Int)<=n.net.E k))):=hide (by
    have h1:=HF.out;have h2:=HT.out;show ¬ ((n.F k<0\/n.nodes<=n.F k)\/(n.T k<0\/n.nodes<=n.T k)\/(n.E k<0\/(n.a.E.t.len:Int)<=n.E k));omega)
   clear hb hE;by_cases y0:n.F k=n.T k
   ·have g0:n.net.linkErr k=1:=by unfold Net.linkErr;rw[if_neg M0.out,if_pos (show n.net.F k=n.net.T k from y0)]
    have f0:=hide ((j0.out (by rw[g0];decide)).trans g0);have N0:(n.F k == n.T k)=true:=by simp[y0]
    have k0:=hide (i0.out.trans (w0.out.mono i0.out.size));clear y0 g0;go_wp2;go_ret;exact⟨by rw[f0.out];rfl,k0.out⟩
   have N0:(n.F k == n.T k)=false:=by simp[y0]
   have T0:=hide y0;clear y0;go_wp2_with fail;obtain⟨wq,W0⟩:∃wq,wq=wr.heap.size:=⟨_,rfl⟩;simp only[<-W0]at G0 l0 l1 l2 |-;clear W0 x2 C0 HN
   go_loopw [6] (fun q wr=>∃j:Nat,j<=k/\q=.int .i64 j/\Hid (n.net.noLink (n.net.F k) (n.net.T k) j)/\Hid (∃z,wr=w4.drewN z)) (fun q _=>k-(intOf q).toNat)
   case atStart=>exact⟨0,zL,rfl,hide fun r hr=>absurd hr nZ,hide ⟨0,rfl⟩⟩
   case round =>
    obtain⟨j,hj,rfl,H0,HD⟩:=hrel;by_cases q1:j<k
    ·have O0:=H.out.below (i0.out.trans (w0.out.mono i0.out.size)) lR;have d0:wr.cell? ⟨n.lb,n.lo+j*3,none⟩=some (.int .i64 (n.F j)):=by obtain⟨z,rfl⟩:=HD.out;exact O0.f j (by omega)
     have d1:wr.cell? ⟨n.lb,n.lo+j*3+1,none⟩=some (.int .i64 (n.T j)):=by obtain⟨z,rfl⟩:=HD.out;exact O0.t j (by omega)
     have y4:wr.cell? ⟨w.heap.size,4,none⟩=some (.slice n.la n.ln n.lc):=by obtain⟨z,rfl⟩:=HD.out;exact x4
     have m0:wr.cell? ⟨wq,0,none⟩=some (.int .i64 (n.F k)):=by obtain⟨z,rfl⟩:=HD.out;exact l0
     have m1:wr.cell? ⟨wq,1,none⟩=some (.int .i64 (n.T k)):=by obtain⟨z,rfl⟩:=HD.out;exact l1
     have f1:(j:Int)<(k:Int):=by omega
     have t1:(j:Int)<(n.ln:Int):=by omega
     have k0:Hid (Below w.heap.size w wr):=hide (by obtain⟨z,rfl⟩:=HD.out;exact below_drewN (i0.out.trans (w0.out.mono i0.out.size)) z);clear O0;by_cases hF:n.F j=n.F k
     ·have g1:(n.F j == n.F k)=true:=by simp[hF]
      by_cases hT:n.T j=n.T k
      ·have i1:(n.T j == n.T k)=true:=by simp[hT]
       have g0:=Net.linkErr_six M0.out T0.out q1 (show n.net.F j=n.net.F k from hF) (show n.net.T j=n.net.T k from hT);have f0:=hide ((j0.out (by rw[g0];decide)).trans g0);clear hF hT g0;go_wp2_with fail
       go_quiet (fail)
       go_wp2;go_ret;exact⟨by rw[f0.out];rfl,below_drewN k0.out _⟩
      ·have i1:(n.T j == n.T k)=false:=by simp[hT]
       have Hn:Hid (n.net.noLink (n.net.F k) (n.net.T k) (j+1)):=hide (fun i hi=>by
        by_cases e:i=j
        ·subst e;exact fun hx=>hT hx.2
        ·exact H0.out i (by omega))
       clear hF hT;go_wp2_with fail
       go_quiet (fail)
       go_wp2;go_roundw
       case rel =>
        first
        | exact⟨j+1,by omega,by go_num,Hn,hide (by obtain⟨m,rfl⟩:=HD.out;exact⟨_,by rw[World.drewN_drewN]⟩)⟩
        | ((try rw[<-B0]);(repeat apply Exists.intro);refine⟨?_,rfl⟩;exact⟨j+1,by omega,by go_num,Hn,hide (by obtain⟨m,rfl⟩:=HD.out;exact⟨_,by rw[World.drewN_drewN]⟩)⟩)
       case measure=>simp[intOf];omega
     ·have g1:(n.F j == n.F k)=false:=by simp[hF]
      have Hn:Hid (n.net.noLink (n.net.F k) (n.net.T k) (j+1)):=hide (fun i hi=>by
       by_cases e:i=j
       ·subst e;exact fun hx=>hF hx.1
       ·exact H0.out i (by omega))
      clear hF;go_wp2_with fail
      go_quiet (fail)
      go_wp2;go_roundw
      case rel =>
       first
       | exact⟨j+1,by omega,by go_num,Hn,hide (by obtain⟨m,rfl⟩:=HD.out;exact⟨_,by rw[World.drewN_drewN]⟩)⟩
       | ((try rw[<-B0]);(repeat apply Exists.intro);refine⟨?_,rfl⟩;exact⟨j+1,by omega,by go_num,Hn,hide (by obtain⟨m,rfl⟩:=HD.out;exact⟨_,by rw[World.drewN_drewN]⟩)⟩)
      case measure=>simp[intOf];omega
    ·have j1:j=k:=by omega
     have g0:=Net.linkErr_zero M0.out T0.out (by rw[j1]at H0;exact H0.out);have U0:Hid (∀r,r<k+1->n.net.linkErr r=0):=hide (fun r hr=>by
      by_cases e:r=k
      ·subst e;exact g0
      ·exact o0.out r (by omega))
     have V0:Hid (Below w2.heap.size w2 wr):=hide (by obtain⟨z,rfl⟩:=HD.out;exact below_drewN w0.out z);have f1:(k:Int)<=(j:Int):=by omega
     clear g0;go_wp2;go_roundw
     case rel =>
      first
      | exact⟨k+1,by omega,by go_num,U0,V0⟩
      | ((try rw[<-B0]);(repeat apply Exists.intro);refine⟨?_,rfl⟩;exact⟨k+1,by omega,by go_num,U0,V0⟩)
     case measure=>simp[intOf];omega
  ·have f0:=hide (S0.out.trans (jC.2 (fun r (hr:r<n.ln)=>o0.out r (by omega))));have Y0:(n.ln:Int)<=(k:Int):=by omega
   have k1:=hide u0;clear u0;go_wp2;go_ret;exact⟨by rw[f0.out];rfl,k1.out⟩
theorem KO (n:dA)(x:Mat)(w:World)(hx:x.In w.heap.size w)(h2:2<=n.a.size)(h24:n.a.size<=24):
 Calls Tryz.prog 31 #[n.val,x.val] w fun e w'=>e=.returned (.int .i64 (n.net.rows x.t))/\Below w.heap.size w w':=by
 have o0:=hx.len;unfold maxLen at o0;have p0:Below w.heap.size w (w.alloc (.cells n.cells 27)):=(Below.refl _ w).alloc lR _;have b0:=Blk.new w n.cells 27;have HX:=hide (hx.below p0 lR);have h0:=hide p0;have g0:Hid (n.net.rows x.t=if (x.t.len:Int)≠n.nodes\/x.t.wide n.nodes=false then 1 else if x.t.routes n.a.size=false then 5 else 0):=hide rfl;clear hx p0;simp only[dA.val,dA.cells,Mat.val]at *;by_cases hl:(x.t.len:Int)=n.nodes;rotate_left
 ·have B0:((x.t.len:Int) != n.nodes)=true:=by simp[hl]
  have d0:Hid (n.net.rows x.t=1):=hide (by rw[g0.out,if_pos (Or.inl hl)]);clear hl g0;go_enter Tryz.func31,Tryz.ntmps31;go_wp2;go_ret;exact⟨by rw[d0.out];rfl,h0.out⟩
 have B0:((x.t.len:Int) != n.nodes)=false:=by simp[hl]
 have HL:=hide hl;clear hl;obtain⟨W0,k0⟩:∃W0,W0=w.alloc (.cells #[.int .i64 n.a.size,.slice n.a.B.ga n.a.B.t.len n.a.B.cap,.slice n.a.E.ga n.a.E.t.len n.a.E.cap,.int .i64 n.nodes,.slice n.la n.ln n.lc] 27):=⟨_,rfl⟩;have x0:W0.cell? ⟨w.heap.size,0,none⟩=some (.int .i64 n.a.size):=by rw[k0];exact b0.cell 0
 have x3:W0.cell? ⟨w.heap.size,3,none⟩=some (.int .i64 n.nodes):=by rw[k0];exact b0.cell 3
 rw[<-k0]at HX h0;clear b0;go_enter Tryz.func31,Tryz.ntmps31;go_wp2_with fail;rw[<-k0];clear k0
 go_loopw [5] (fun q wr=>∃k:Nat,k<=x.t.len/\q=.int .i64 k/\Hid (∀r,r<k->(x.t.L r:Int)=n.nodes)/\Hid (∃z,wr=W0.drewN z)) (fun q _=>x.t.len-(intOf q).toNat)
 case atStart=>exact⟨0,zL,rfl,hide fun r hr=>absurd hr nZ,hide ⟨0,rfl⟩⟩
 case round =>
  obtain⟨k,hk,rfl,f0,HD⟩:=hrel;have y3:wr.cell? ⟨w.heap.size,3,none⟩=some (.int .i64 n.nodes):=by obtain⟨z,rfl⟩:=HD.out;exact x3
  by_cases u0:k<x.t.len
  ·have C0:=HX.out.ga (by omega);have:wr.cell? ⟨x.gb,x.go+k,none⟩=some (.slice (x.A k) (x.t.L k) (x.C k)):=by obtain⟨z,rfl⟩:=HD.out;exact HX.out.row k u0
   have i0:=HX.out.lens k u0;unfold maxLen at i0;have D0:(k:Int)<(x.t.len:Int):=by omega
   by_cases he:(x.t.L k:Int)=n.nodes
   ·have E0:((x.t.L k:Int) != n.nodes)=false:=by simp[he]
    have Hn:Hid (∀r,r<k+1->(x.t.L r:Int)=n.nodes):=hide (fun r hr=>by
     by_cases e:r=k
     ·subst e;exact he
     ·exact f0.out r (by omega))
    clear he;go_wp2_with fail
    go_quiet (fail)
    go_wp2;go_roundw
    case rel =>
     first
     | exact⟨k+1,by omega,by go_num,Hn,hide (by obtain⟨m,rfl⟩:=HD.out;exact⟨_,by rw[World.drewN_drewN]⟩)⟩
     | ((try rw[<-C0]);(repeat apply Exists.intro);refine⟨?_,rfl⟩;exact⟨k+1,by omega,by go_num,Hn,hide (by obtain⟨m,rfl⟩:=HD.out;exact⟨_,by rw[World.drewN_drewN]⟩)⟩)
    case measure=>simp[intOf];omega
   ·have E0:((x.t.L k:Int) != n.nodes)=true:=by simp[he]
    have d0:Hid (n.net.rows x.t=1):=hide (by rw[g0.out,if_pos (Or.inr (Tab.wide_false u0 he))]);clear he;go_wp2_with fail
    go_quiet (fail)
    go_wp2;go_ret;exact⟨by rw[d0.out];rfl,by obtain⟨m,rfl⟩:=HD.out;exact below_drewN (below_drewN h0.out m) _⟩
  ·have D0:(x.t.len:Int)<=(k:Int):=by omega
   have Hw:Hid (x.t.wide n.nodes=true):=hide ((x.t.wide_iff n.nodes).2 (fun r hr=>f0.out r (by omega)));have F0:Hid (∀r,r<x.t.len->(x.t.L r:Int)=n.nodes):=hide (fun r hr=>f0.out r (by omega));have y0:Hid (n.net.rows x.t=if x.t.routes n.a.size=false then 5 else 0):=hide (by rw[g0.out,if_neg (by simp[HL.out,Hw.out])]);clear g0 Hw f0;obtain⟨W1,q0⟩:∃W1,W1=wr:=⟨wr,rfl⟩;have G0:Hid (∃z,W1=W0.drewN z):=by rw[q0];exact HD
   go_wp2_with fail;rw[<-q0];clear q0 HD y3
   go_loopw [6,7] (fun q _ wr=>∃k:Nat,k<=x.t.len/\q=.int .i64 k/\Hid (∀r,r<k->∀c,c<x.t.L r->0<=x.t.Z r c/\x.t.Z r c<n.a.size)/\Hid (∃z,wr=W0.drewN z)) (fun q _ _=>x.t.len-(intOf q).toNat)
   case atStart=>exact⟨0,zL,rfl,hide fun r hr=>absurd hr nZ,G0⟩
   case round =>
    obtain⟨r,hr,rfl,f0,HD⟩:=hrel;by_cases v0:r<x.t.len
    ·have H0:(r:Int)<(x.t.len:Int):=by omega
     have:x.t.L r=x.t.len:=by have:=F0.out r v0;have:=HL.out;omega
     obtain⟨W2,s0⟩:∃W2,W2=wr:=⟨wr,rfl⟩;have I0:Hid (∃z,W2=W0.drewN z):=by rw[s0];exact HD
     go_wp2_with fail;rw[<-s0];clear s0 HD
     go_loopw [7] (fun q wr=>∃c:Nat,c<=x.t.len/\q=.int .i64 c/\Hid (∀c',c'<c->0<=x.t.Z r c'/\x.t.Z r c'<n.a.size)/\Hid (∃z,wr=W0.drewN z)) (fun q _=>x.t.len-(intOf q).toNat)
     case atStart=>exact⟨0,zL,rfl,hide fun r hr=>absurd hr nZ,I0⟩
     case round =>
      obtain⟨c,hc,rfl,m0,HD⟩:=hrel;by_cases K0:c<x.t.len
      ·have J0:(c:Int)<(x.t.len:Int):=by omega
       have:(c:Int)<(x.t.L r:Int):=by omega
       obtain⟨a1,a2,a3⟩:=HX.out.at v0 (show c<x.t.L r by omega);have:wr.cell? ⟨x.gb,x.go+r,none⟩=some (.slice (some ⟨x.RB r,x.RO r,none⟩) (x.t.L r) (x.C r)):=by obtain⟨z,rfl⟩:=HD.out;exact a2
       have:wr.cell? ⟨x.RB r,x.RO r+c,none⟩=some (.int .i64 (x.t.Z r c)):=by obtain⟨z,rfl⟩:=HD.out;exact a3
       have:wr.cell? ⟨w.heap.size,0,none⟩=some (.int .i64 n.a.size):=by obtain⟨z,rfl⟩:=HD.out;exact x0
       clear a2 a3;by_cases w0:0<=x.t.Z r c/\x.t.Z r c<=n.a.size-1
       ·have hb:(decide (0<=x.t.Z r c) && decide (x.t.Z r c<=n.a.size-1))=true:=by simp[w0]
        have HQ:=hide (fun W=>qI (x.t.Z r c) 0 (n.a.size-1) W);rw[hb]at HQ;have Hn:Hid (∀c',c'<c+1->0<=x.t.Z r c'/\x.t.Z r c'<n.a.size):=hide (fun c' hc'=>by
         by_cases e:c'=c
         ·subst e;omega
         ·exact m0.out c' (by omega))
        clear w0 hb;go_wp2_with fail
        go_quiet ((go_at_call 52;exact Calls.quiet_of (HQ.out _)))
        go_wp2;go_roundw
        case rel =>
         first
         | exact⟨c+1,by omega,by go_num,Hn,hide (by obtain⟨m,rfl⟩:=HD.out;exact⟨_,by rw[World.drewN_drewN]⟩)⟩
         | ((try rw[<-a1]);(repeat apply Exists.intro);refine⟨?_,rfl⟩;exact⟨c+1,by omega,by go_num,Hn,hide (by obtain⟨m,rfl⟩:=HD.out;exact⟨_,by rw[World.drewN_drewN]⟩)⟩)
        case measure=>simp[intOf];omega
       ·have hb:(decide (0<=x.t.Z r c) && decide (x.t.Z r c<=n.a.size-1))=false:=by simp;omega
        have HQ:=hide (fun W=>qI (x.t.Z r c) 0 (n.a.size-1) W);rw[hb]at HQ;have j0:x.t.routes n.a.size=false:=Tab.routes_false (c:=c) v0 (by omega) (by omega);have d0:Hid (n.net.rows x.t=5):=hide (by rw[y0.out,j0];rfl);clear w0 hb j0;go_wp2_with fail
        go_quiet ((go_at_call 52;exact Calls.quiet_of (HQ.out _)))
        go_wp2;go_ret;exact⟨by rw[d0.out];rfl,by obtain⟨m,rfl⟩:=HD.out;exact below_drewN (below_drewN h0.out m) _⟩
      ·have J0:(x.t.len:Int)<=(c:Int):=by omega
       have A0:Hid (∀r',r'<r+1->∀c,c<x.t.L r'->0<=x.t.Z r' c/\x.t.Z r' c<n.a.size):=hide (fun r' hr'=>by
        by_cases e:r'=r
        ·subst e;exact fun c' hc'=>m0.out c' (by omega)
        ·exact f0.out r' (by omega))
       go_wp2;go_roundw
       case rel =>
        first
        | exact⟨r+1,by omega,by go_num,A0,HD⟩
        | ((repeat apply Exists.intro);refine⟨?_,rfl⟩;exact⟨r+1,by omega,by go_num,A0,HD⟩)
       case measure=>simp[intOf];omega
    ·have H0:(x.t.len:Int)<=(r:Int):=by omega
     have j0:x.t.routes n.a.size=true:=(x.t.routes_iff n.a.size).2 (fun r' hr'=>f0.out r' (by omega));have d0:Hid (n.net.rows x.t=0):=hide (by rw[y0.out,j0];rfl);clear j0;go_wp2;go_ret;exact⟨by rw[d0.out];rfl,by obtain⟨m,rfl⟩:=HD.out;exact below_drewN h0.out m⟩
end Go.Proofs.YtjhkadffaephmacGreat
