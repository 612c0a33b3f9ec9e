import Derived.Test.YtjhkadffaephmacGreatCutRestStatesAE
import Derived.Laws.BitsLemmas
import Derived.Laws.Bits64
namespace Go.Proofs.YtjhkadffaephmacGreat
set_option maxHeartbeats 16000000
set_option maxRecDepth 100000
open Go.RowKit
theorem WK (h:yA)(N:Nat)(w:World)(hh:h.In w.heap.size w)(h1:1<=N)(h2:N<=22)(he:h.en<=8)(hv:∀i,i<h.en->1<=h.ev i/\h.ev i<=N):
 Calls Tryz.prog 85 #[.int .i64 N,.slice h.eg h.en h.ec] w fun e w'=>Made (YF N h.en h.evN) w.heap.size e w'/\Below w.heap.size w w':=by
 have b0:=(Blk.new w #[.slice h.eg h.en h.ec] 32).alloc (.cells #[.int .i64 0,.slice none 0 0,.slice none 0 0] 24);have b1:Blk ((w.alloc (.cells #[.slice h.eg h.en h.ec] 32)).alloc (.cells #[.int .i64 0,.slice none 0 0,.slice none 0 0] 24)) (w.heap.size+1) #[.int .i64 0,.slice none 0 0,.slice none 0 0] 24:=Blk.new' (by simp);have p0:Below w.heap.size w ((w.alloc (.cells #[.slice h.eg h.en h.ec] 32)).alloc (.cells #[.int .i64 0,.slice none 0 0,.slice none 0 0] 24)):=((Below.refl _ w).alloc lR _).alloc (by simp) _;go_enter Tryz.func85,Tryz.ntmps85;go_wp2_with fail;generalize hW:((w.alloc (.cells #[.slice h.eg h.en h.ec] 32)).alloc (.cells #[.int .i64 0,.slice none 0 0,.slice none 0 0] 24))=W at *;have s0:W.heap.size=w.heap.size+2:=by rw[<-hW];simp
 clear hW;have x0:=b0.cell 0;simp at x0;have HL:=hide (MJ (N+2) W.drew (by omega));have HT:=hide (fun (w1:World) (hb:Below W.heap.size W w1)=>vE 120 #[.pointer (some ⟨w.heap.size,0,none⟩)] h.en (N+2) (fun e a=>((max a (h.evN e):Nat):Int)) w1 (by omega) (by omega) aO (fun e a W' hi _ hb'=>by
  have q0:=hb.trans (hb'.mono hb.size);have:=lQ h N w.heap.size e a w.heap.size W' (hh.below (p0.trans (q0.mono (by omega))) lR) ((b0.below q0 b0.lt).cell 0) hi (hv e hi);simpa using this))
 have e2:((N+2:Nat):Int)=(N:Int)+2:=by omega
 simp only[e2]at HL HT;have y0:IntKind.i64.wrap ((N:Int)+2)=(N:Int)+2:=by rw[IntKind.wrap_i64];omega
 go_region_held3 (fun w'=>w'.cell? ⟨w.heap.size,0,none⟩=some (.slice h.eg h.en h.ec)) (first | go_keep | exact k1 | exact k2 | exact((i0.far3 (by omega) _ _ _).cell 0))
  (first
   | (go_at_call 117;refine HL.out.mono ?_;rintro e w1 ⟨rfl,m0⟩;have g0:=Below.trans (⟨rfl,rfl,rfl,lR,fun _ _=>rfl⟩:Below W.heap.size W W.drew) m0.below;have k1:=(b0.below g0 b0.lt).cell 0;have u0:=hide m0;clear m0)
   | (go_at_call 118;refine(HT.out _ g0).mono ?_;rintro e w2 ⟨rfl,o0⟩;have h0:=g0.trans (o0.below.mono g0.size);have i0:=b0.below h0 b0.lt;have k2:=i0.cell 0;have f0:=b1.below h0 b1.lt;have d0:=f0.cell 0;have d1:=f0.cell 1;have d2:=f0.cell 2;have df:=f0.frozen;simp at d0 d1 d2;have v0:=hide o0;clear o0))
 all_goals
  have HM:=hide (LJ (B:=w.heap.size+1) (b:=w.heap.size) (IL (ev:=h.evN) h1 h2 he (fun e hi=>by have:=hv e hi;unfold yA.evN;omega)) u0.out v0.out (by show w.heap.size+1<W.heap.size;omega) (by show w.heap.size<=W.heap.size;omega) (.int .i64 ((N:Int)+2)) (.slice (some ⟨w.heap.size+2,0,none⟩) (N+2) (N+2)) (.slice (some ⟨w1.heap.size,0,none⟩) h.en h.en));have w0:=hide (iB (p0.trans (h0.mono (by omega))) (show w.heap.size<=w.heap.size+1 by omega) (.int .i64 ((N:Int)+2)) (.slice (some ⟨w.heap.size+2,0,none⟩) (N+2) (N+2)) (.slice (some ⟨w1.heap.size,0,none⟩) h.en h.en));have j0:=f0.set3 (.int .i64 ((N:Int)+2)) (.slice (some ⟨w.heap.size+2,0,none⟩) (N+2) (N+2)) (.slice (some ⟨w1.heap.size,0,none⟩) h.en h.en);have e0:=j0.cell 0;have e1:=j0.cell 1;have k0:=j0.cell 2;unfold st3 at e0 e1 k0;simp at e0 e1 k0;clear d0 d1 d2 df k1 k2 i0 f0;go_wp2;refine bodyPost_ret (v:=.agg #[.int .i64 ((N:Int)+2),.slice (some ⟨w.heap.size+2,0,none⟩) (N+2) (N+2),.slice (some ⟨w1.heap.size,0,none⟩) h.en h.en]) (by simp[results,Tryz.results85,go_sem,e0,e1,k0]) rfl ⟨?_,w0.out⟩;have:=HM.out;rw[show W.drew.heap.size=w.heap.size+2 from s0]at this;exact this
theorem VK (args:Array Value)(W:World):(callFunc 123 args).run Tryz.prog W=.ok (.enter 123 args) W:=by rfl
theorem GL (n:Int)(h₀:0<=n)(h₁:n<2 ^ 62):IntKind.i64.wrap n=n:=by rw[IntKind.wrap_i64];omega
theorem qU (v a:Nat)(hv:v<2 ^ 24):bits .and .i64 ((v:Int) / 2 ^ a) 1=if v.testBit a then 1 else 0:=by
 have hq:v / 2 ^ a<2 ^ 62:=Nat.lt_of_le_of_lt (Nat.div_le_self _ _) (by omega);have h:=(bits_nat .i64 62 (by decide) GL (v / 2 ^ a) 1 hq (by decide)).1;have e:((v:Int) / 2 ^ a)=((v / 2 ^ a:Nat):Int):=by simp
 rw[e];have h1:((1:Nat):Int)=1:=rfl;rw[h1]at h;rw[h,Nat.and_one_is_mod,Nat.testBit_eq_decide_div_mod_eq];by_cases hb:v / 2 ^ a % 2=1
 ·simp[hb]
 ·have:v / 2 ^ a % 2=0:=by omega
  simp[this]
structure QE (m:xA) (x:FB):Prop where
 size:m.size=(x.size:Int)
 B:m.B.t=x.B
 E:m.E.t=x.E
theorem kM {m:xA}{x:FB}(h:m.alg=x.alg):QE m x:=by
 unfold xA.alg FB.alg at h;injection h with h1 h2 h3;exact⟨h1,h2,h3⟩
theorem pG {m:xA}{x:FB}{n:Nat}{W:World}(hl:QE m x)(hi:m.In n W){e:Nat}(he:e<x.el)(hx:0<x.size):
 m.E.ga=some ⟨m.E.gb,m.E.go,none⟩/\W.cell? ⟨m.E.gb,m.E.go+e,none⟩=some (.slice (some ⟨m.E.RB e,m.E.RO e,none⟩) x.size (m.E.C e))/\∀a,a<x.size->W.cell? ⟨m.E.RB e,m.E.RO e+a,none⟩=some (.int .i64 (x.edge e a)):=by
 have:m.E.t.len=x.el:=by rw[hl.E];rfl
 have hL:m.E.t.L e=x.size:=by rw[hl.E];rfl
 refine⟨hi.E.ga (by omega),?_,fun a ha=>?_⟩
 ·have h1:=hi.E.row e (by omega);rw[(hi.E.addr e (by omega) (by omega)).1,hL]at h1;exact h1
 ·have h1:=hi.E.cell e (by omega) a (by omega);rw[hl.E]at h1;exact h1
theorem NH {m:xA}{x:FB}{n:Nat}{W:World}(hl:QE m x)(hi:m.In n W){e:Nat}(he:e<x.size):
 m.B.ga=some ⟨m.B.gb,m.B.go,none⟩/\W.cell? ⟨m.B.gb,m.B.go+e,none⟩=some (.slice (some ⟨m.B.RB e,m.B.RO e,none⟩) x.size (m.B.C e))/\∀a,a<x.size->W.cell? ⟨m.B.RB e,m.B.RO e+a,none⟩=some (.int .i64 (x.best e a)):=by
 have:m.B.t.len=x.size:=by rw[hl.B];rfl
 have hL:m.B.t.L e=x.size:=by rw[hl.B];rfl
 refine⟨hi.B.ga (by omega),?_,fun a ha=>?_⟩
 ·have h1:=hi.B.row e (by omega);rw[(hi.B.addr e (by omega) (by omega)).1,hL]at h1;exact h1
 ·have h1:=hi.B.cell e (by omega) a (by omega);rw[hl.B]at h1;exact h1
theorem KN (h:yA)(m:xA)(x:FB)(bs bi bp e a n:Nat)(W:World)(hh:h.In n W)(hl:QE m x)(hm:m.In n W)(hx:x.Ok)
 (hs:W.cell? ⟨bs,0,none⟩=some (.slice h.eg h.en h.ec)) (hi:W.cell? ⟨bi,0,none⟩=some (.int .i64 ((x.size:Int)-1))) (hp:W.cell? ⟨bp,2,none⟩=some m.E.val)
 (he:e<x.el) (hen:h.en=x.el) (hv:0<=h.ev e/\h.ev e<=2 ^ x.size-1) (ha:a<x.size) :
 Calls Tryz.prog 123 #[.int .i64 e,.int .i64 a,.pointer (some ⟨bs,0,none⟩),.pointer (some ⟨bi,0,none⟩),.pointer (some ⟨bp,0,none⟩)] W fun r w'=>r=.returned (.int .i64 (((KE x h.evN).edge e a:Nat):Int))/\∃m,w'=W.drewN m:=by
 have:=hx.lo;have f0:=hx.hi;have i0:=hh.ea (by omega);have hc:=hh.ecell e (by omega);have:(e:Int)<(h.en:Int):=by omega
 have o0:=hh.elen;unfold maxLen at o0;obtain⟨r0,r1,r2⟩:=pG hl hm he (by omega);have:=r2 a ha;have g0:m.E.t.len=x.el:=by rw[hl.E];rfl
 have:=hx.el;simp only[Mat.val]at hp;rw[r0,g0]at hp;obtain⟨v,m0⟩:∃v:Nat,h.ev e=(v:Int):=⟨(h.ev e).toNat,by omega⟩;have j0:h.evN e=v:=by unfold yA.evN;omega
 have h0:v<2 ^ 24:=by
  have:2 ^ x.size<=2 ^ 24:=Nat.pow_le_pow_right (by omega) f0;have:((2 ^ x.size:Nat):Int)=(2:Int) ^ x.size:=by simp
  omega
 have d0:=qU v a h0;have:(e:Int)<(x.el:Int):=by omega
 have:(a:Int)<(x.size:Int):=by omega
 have k0:(KE x h.evN).edge e a=if v.testBit a then x.size-1 else x.edge e a:=by
  show (if (h.evN e).testBit a then x.size-1 else x.edge e a)=_;rw[j0]
 rw[k0];rw[m0]at hc;rw[i0]at hs;clear hv m0 j0 hh i0 k0 r2 hm hl;cases hb:v.testBit a with
 | true =>
  rw[hb]at d0;simp at d0;clear hb;simp only[if_true];go_enter Tryz.func123,Tryz.ntmps123;go_wp2;go_ret;exact⟨zF (by omega),0,rfl⟩
 | false =>
  rw[hb]at d0;simp at d0;clear hb;simp only[Bool.false_eq_true,if_false];go_enter Tryz.func123,Tryz.ntmps123;go_wp2;go_ret;exact⟨rfl,0,rfl⟩
theorem XI (h:yA)(m:xA)(x:FB)(b:Nat)(w:World)(hbw:b<=w.heap.size)(hfr:m.FromS b w)(hh:h.In w.heap.size w)(hl:QE m x)(hm:m.In w.heap.size w)(hx:x.Ok)(hen:h.en=x.el)(hv:∀i,i<h.en->0<=h.ev i/\h.ev i<=2 ^ x.size-1):
 Calls Tryz.prog 87 #[m.val,.slice h.eg h.en h.ec] w fun e w'=>Made (KE x h.evN) b e w'/\Below w.heap.size w w':=by
 have lo:=hx.lo;have A0:=hx.hi;have E0:=hx.el;have b0:Blk ((((w.alloc (.cells #[.int .i64 x.size,(.slice m.B.ga m.B.t.len m.B.cap),(.slice m.E.ga m.E.t.len m.E.cap)] 24)).alloc (.cells #[.slice h.eg h.en h.ec] 32)).alloc (.cells #[.int .i64 0,.slice none 0 0,.slice none 0 0] 24)).alloc (.cells #[.int .i64 ((x.size:Int)-1)] 3)) w.heap.size #[.int .i64 x.size,(.slice m.B.ga m.B.t.len m.B.cap),(.slice m.E.ga m.E.t.len m.E.cap)] 24:=(((Blk.new w _ _).alloc _).alloc _).alloc _;have b1:Blk ((((w.alloc (.cells #[.int .i64 x.size,(.slice m.B.ga m.B.t.len m.B.cap),(.slice m.E.ga m.E.t.len m.E.cap)] 24)).alloc (.cells #[.slice h.eg h.en h.ec] 32)).alloc (.cells #[.int .i64 0,.slice none 0 0,.slice none 0 0] 24)).alloc (.cells #[.int .i64 ((x.size:Int)-1)] 3)) (w.heap.size+1) #[.slice h.eg h.en h.ec] 32:=((Blk.new' (by simp)).alloc _).alloc _;have b2:Blk ((((w.alloc (.cells #[.int .i64 x.size,(.slice m.B.ga m.B.t.len m.B.cap),(.slice m.E.ga m.E.t.len m.E.cap)] 24)).alloc (.cells #[.slice h.eg h.en h.ec] 32)).alloc (.cells #[.int .i64 0,.slice none 0 0,.slice none 0 0] 24)).alloc (.cells #[.int .i64 ((x.size:Int)-1)] 3)) (w.heap.size+1+1) #[.int .i64 0,.slice none 0 0,.slice none 0 0] 24:=(Blk.new' (by simp)).alloc _;have b3:Blk ((((w.alloc (.cells #[.int .i64 x.size,(.slice m.B.ga m.B.t.len m.B.cap),(.slice m.E.ga m.E.t.len m.E.cap)] 24)).alloc (.cells #[.slice h.eg h.en h.ec] 32)).alloc (.cells #[.int .i64 0,.slice none 0 0,.slice none 0 0] 24)).alloc (.cells #[.int .i64 ((x.size:Int)-1)] 3)) (w.heap.size+1+1+1) #[.int .i64 ((x.size:Int)-1)] 3:=Blk.new' (by simp);have v0:Below w.heap.size w ((((w.alloc (.cells #[.int .i64 x.size,(.slice m.B.ga m.B.t.len m.B.cap),(.slice m.E.ga m.E.t.len m.E.cap)] 24)).alloc (.cells #[.slice h.eg h.en h.ec] 32)).alloc (.cells #[.int .i64 0,.slice none 0 0,.slice none 0 0] 24)).alloc (.cells #[.int .i64 ((x.size:Int)-1)] 3)):=((((Below.refl _ w).alloc lR _).alloc (by simp) _).alloc (by simp;omega) _).alloc (by simp;omega) _;simp only[xA.val,Mat.val,hl.size];have o0:=hide hen;have B0:h.en<=8:=by omega
 clear hen;go_enter Tryz.func87,Tryz.ntmps87;go_wp2_with fail;generalize hW:((((w.alloc (.cells #[.int .i64 x.size,(.slice m.B.ga m.B.t.len m.B.cap),(.slice m.E.ga m.E.t.len m.E.cap)] 24)).alloc (.cells #[.slice h.eg h.en h.ec] 32)).alloc (.cells #[.int .i64 0,.slice none 0 0,.slice none 0 0] 24)).alloc (.cells #[.int .i64 ((x.size:Int)-1)] 3))=W at *;have C0:W.heap.size=w.heap.size+4:=by rw[<-hW];simp
 clear hW;have x0:=b0.cell 0;have x1:=b0.cell 1;have x2:=b1.cell 0;simp at x0 x1 x2;have HT:=hide (vE 123 #[.pointer (some ⟨w.heap.size+1,0,none⟩),.pointer (some ⟨w.heap.size+1+1+1,0,none⟩),.pointer (some ⟨w.heap.size,0,none⟩)] h.en x.size (fun e a=>(((KE x h.evN).edge e a:Nat):Int)) W.drew (by omega) (by omega) VK (fun e a W' hi hk hb'=>by
  have j0:Below W.heap.size W W':=Below.trans (⟨rfl,rfl,rfl,lR,fun _ _=>rfl⟩:Below W.heap.size W W.drew) hb';have g0:=v0.trans (j0.mono (by omega));have:=KN h m x (w.heap.size+1) (w.heap.size+1+1+1) w.heap.size e a w.heap.size W' (hh.below g0 lR) hl (hm.below g0 lR) hx ((b1.below j0 b1.lt).cell 0) ((b3.below j0 b3.lt).cell 0) ((b0.below j0 b0.lt).cell 2) (by have:=o0.out;omega) o0.out (hv e hi) hk;simpa using this))
 have w0:w.heap.size≠w.heap.size+1+1:=by omega
 have D0:w.heap.size+1≠w.heap.size+1+1:=by omega
 go_region_held3 (fun w'=>w'.cell? ⟨w.heap.size,0,none⟩=some (.int .i64 x.size)/\w'.cell? ⟨w.heap.size,1,none⟩=some (.slice m.B.ga m.B.t.len m.B.cap)/\w'.cell? ⟨w.heap.size+1,0,none⟩=some (.slice h.eg h.en h.ec)) (first | (go_keep;done) | exact⟨i0.cell 0,i0.cell 1,p0.cell 0⟩ | exact⟨(i0.far3 w0 _ _ _).cell 0,(i0.far3 w0 _ _ _).cell 1,(p0.far3 D0 _ _ _).cell 0⟩)
  (first
   | (go_at_call 118;refine HT.out.mono ?_;rintro e w2 ⟨rfl,u0⟩;have k0:=Below.trans (⟨rfl,rfl,rfl,lR,fun _ _=>rfl⟩:Below W.heap.size W W.drew) u0.below;have i0:=b0.below k0 b0.lt;have p0:=b1.below k0 b1.lt;have f0:=b2.below k0 b2.lt;have d0:=f0.cell 0;have d1:=f0.cell 1;have d2:=f0.cell 2;have df:=f0.frozen;simp at d0 d1 d2;have y0:=hide u0;clear u0))
 all_goals
  have m0:=hide (iB (v0.trans (k0.mono (by omega))) (show w.heap.size<=w.heap.size+1+1 by omega) (.int .i64 x.size) (.slice m.B.ga m.B.t.len m.B.cap) (.slice (some ⟨w.heap.size+4,0,none⟩) h.en h.en));have q0:=f0.set3 (.int .i64 x.size) (.slice m.B.ga m.B.t.len m.B.cap) (.slice (some ⟨w.heap.size+4,0,none⟩) h.en h.en);have e0:=q0.cell 0;have e1:=q0.cell 1;have s0:=q0.cell 2;unfold st3 at e0 e1 s0;simp at e0 e1 s0;have HM:Hid (Made (KE x h.evN) b (.returned (.agg #[.int .i64 x.size,(.slice m.B.ga m.B.t.len m.B.cap),.slice (some ⟨w.heap.size+4,0,none⟩) h.en h.en])) (st3 w2 (w.heap.size+1+1) (.int .i64 x.size) (.slice m.B.ga m.B.t.len m.B.cap) (.slice (some ⟨w.heap.size+4,0,none⟩) h.en h.en))):=hide (by
   have z0:W.drew.heap.size=w.heap.size+4:=C0;have o2:=y0.out.out;have r2:=y0.out.rows;rw[z0]at o2;simp only[z0]at r2;refine⟨⟨x.size,m.B,yH (w.heap.size+4) h.en x.size (fun e a=>(((KE x h.evN).edge e a:Nat):Int))⟩,rfl,?_,⟨(hm.B.below m0.out lR).mono m0.out.size,?_⟩,⟨hfr.B,(fI _ _ _ _).mono (by omega),fun r hr h0=>(hfr.sB r hr h0).below m0.out (hfr.sB r hr h0).lt,fun r hr _=>⟨_,(r2 r hr).far3 (by omega) _ _ _⟩⟩⟩
   ·unfold xA.alg FB.alg;simp only[hl.B];rw[o0.out];rfl
   ·exact oP (by omega) (by omega) (o2.far3 (by omega) _ _ _) (fun r hr=>(r2 r hr).far3 (by omega) _ _ _))
  clear d0 d1 d2 df i0 f0 p0;go_wp2;exact bodyPost_ret (v:=.agg #[.int .i64 x.size,(.slice m.B.ga m.B.t.len m.B.cap),.slice (some ⟨w.heap.size+4,0,none⟩) h.en h.en]) (by simp[results,Tryz.results87,go_sem,e0,e1,s0]) rfl ⟨HM.out,m0.out⟩
theorem dO (args:Array Value)(W:World):(callFunc 121 args).run Tryz.prog W=.ok (.enter 121 args) W:=by rfl
theorem cO (args:Array Value)(W:World):(callFunc 122 args).run Tryz.prog W=.ok (.enter 122 args) W:=by rfl
structure lK (x y:FB) (mx my:xA) (bi bs by' bx n:Nat) (W:World):Prop where
 lx:QE mx x
 ly:QE my y
 ix:mx.In n W
 iy:my.In n W
 ci:W.cell? ⟨bi,0,none⟩=some (.int .i64 (((x.size-1)*(y.size-1):Nat):Int))
 cs:W.cell? ⟨bs,0,none⟩=some (.int .i64 ((y.size-1:Nat):Int))
 cyb:W.cell? ⟨by',1,none⟩=some my.B.val
 cye:W.cell? ⟨by',2,none⟩=some my.E.val
 cxb:W.cell? ⟨bx,1,none⟩=some mx.B.val
 cxe:W.cell? ⟨bx,2,none⟩=some mx.E.val
theorem CQ (x y:FB)(mx my:xA)(bi bs by' bx n a b:Nat)(W:World)(h:lK x y mx my bi bs by' bx n W)(hx:x.Ok)(hy:y.Ok)(hsz:(x.size-1)*(y.size-1)+1<=24)(ha:a<(x.size-1)*(y.size-1)+1)(hb:b<(x.size-1)*(y.size-1)+1):
 Calls Tryz.prog 121 #[.int .i64 a,.int .i64 b,.pointer (some ⟨bi,0,none⟩),.pointer (some ⟨bs,0,none⟩),.pointer (some ⟨by',0,none⟩),.pointer (some ⟨bx,0,none⟩)] W fun r w'=>r=.returned (.int .i64 (YA x y a b:Nat))/\∃m,w'=W.drewN m:=by
 have:=hx.lo;have:=hy.lo;have d0:=hx.hi;have f0:=hy.hi;obtain⟨s1,j0⟩:∃s1,x.size=s1+1:=⟨x.size-1,by omega⟩;obtain⟨s2,k0⟩:∃s2,y.size=s2+1:=⟨y.size-1,by omega⟩;have ci:=h.ci;have cs:=h.cs;have cyb:=h.cyb;have cxb:=h.cxb;have g0:mx.B.t.len=s1+1:=by rw[h.lx.B];exact j0
 have h0:my.B.t.len=s2+1:=by rw[h.ly.B];exact k0
 simp only[Mat.val,g0,h0]at cyb cxb;unfold YA;have e1:x.size-1=s1:=by omega
 have e2:y.size-1=s2:=by omega
 simp only[e1,e2]at ci cs hsz ha hb |-;generalize hinv:s1*s2=inv at *;have i0:0<s2:=by omega
 by_cases c1:a=inv
 ·rw[if_pos c1];have f1:((a:Int) == (inv:Int))=true:=by simp[c1]
  clear c1 hinv;go_enter Tryz.func121,Tryz.ntmps121;go_wp2;go_ret;exact⟨rfl,0,rfl⟩
 ·rw[if_neg c1];have f1:((a:Int) == (inv:Int))=false:=by simp;omega
  by_cases c2:b=inv
  ·rw[if_pos c2];have f2:((b:Int) == (inv:Int))=true:=by simp[c2]
   clear c1 c2 hinv;go_enter Tryz.func121,Tryz.ntmps121;go_wp2;go_ret;exact⟨rfl,0,rfl⟩
  ·rw[if_neg c2];have f2:((b:Int) == (inv:Int))=false:=by simp;omega
   have:a / s2<s1:=by rw[Nat.div_lt_iff_lt_mul i0];omega
   have:b / s2<s1:=by rw[Nat.div_lt_iff_lt_mul i0];omega
   have rl:a % s2<s2:=Nat.mod_lt _ i0;have m0:b % s2<s2:=Nat.mod_lt _ i0;have:(a:Int) / (s2:Int)=((a / s2:Nat):Int):=(Int.natCast_ediv a s2).symm;have:(b:Int) / (s2:Int)=((b / s2:Nat):Int):=(Int.natCast_ediv b s2).symm;have:(a:Int) % (s2:Int)=((a % s2:Nat):Int):=(Int.natCast_emod a s2).symm;have:(b:Int) % (s2:Int)=((b % s2:Nat):Int):=(Int.natCast_emod b s2).symm;obtain⟨yg,yr,yc⟩:=NH h.ly h.iy (e:=a % s2) (by omega);have:=yc (b % s2) (by omega);have:y.best (a % s2) (b % s2)<s2:=hy.blt rl m0;obtain⟨xg,xr,xc⟩:=NH h.lx h.ix (e:=a / s2) (by omega);have:=xc (b / s2) (by omega);rw[yg]at cyb;rw[xg]at cxb;have:((a / s2:Nat):Int)*(s2:Int)=((a / s2*s2:Nat):Int):=by rw[Int.natCast_mul]
   have:a / s2*s2<=24:=Nat.le_trans (Nat.div_mul_le_self a s2) (by omega);rw[k0]at yr f0;rw[j0]at xr d0;clear yg xg yc xc j0 k0 e1 e2 g0 h0 h;generalize a / s2=qa at *;generalize b / s2=qb at *;generalize a % s2=ra at *;generalize b % s2=rb at *;generalize y.best ra rb=yb at *;generalize x.best qa qb=xb at *;generalize qa*s2=mm at *;have:s1+1<=24:=d0;have:s2+1<=24:=f0;have:(ra:Int)<=24:=by omega
   have:(rb:Int)<=24:=by omega
   have:(qa:Int)<=24:=by omega
   have:(qb:Int)<=24:=by omega
   have:(mm:Int)<=24:=by omega
   have:(yb:Int)<=24:=by omega
   have:(s2:Int)<=24:=by omega
   have:(0:Int)<(s2:Int):=by omega
   have:((s2:Int) == 0)=false:=by simp;omega
   have:(ra:Int)<(s2:Int)+1:=by omega
   have:(rb:Int)<(s2:Int)+1:=by omega
   have:(qa:Int)<(s1:Int)+1:=by omega
   have:(qb:Int)<(s1:Int)+1:=by omega
   by_cases c3:qa=qb
   ·rw[if_pos c3];have f3:((qa:Int) == (qb:Int))=true:=by simp[c3]
    clear c1 c2 c3 hinv;go_enter Tryz.func121,Tryz.ntmps121;go_wp2_with fail
    go_quiet (fail)
    go_wp2_with fail
    go_quiet (fail)
    go_wp2;go_ret;exact⟨zF (by first | omega | (rw[IntKind.wrap_i64];omega)),_,by rw[World.drewN_drewN]⟩
   ·rw[if_neg c3];have f3:((qa:Int) == (qb:Int))=false:=by simp;omega
    by_cases c4:xb=qa
    ·rw[if_pos c4];have f4:((xb:Int) == (qa:Int))=true:=by simp[c4]
     clear c1 c2 c3 c4 hinv;go_enter Tryz.func121,Tryz.ntmps121;go_wp2_with fail
     go_quiet (fail)
     go_wp2_with fail
     go_quiet (fail)
     go_wp2;go_ret;exact⟨rfl,_,by rw[World.drewN_drewN]⟩
    ·rw[if_neg c4];have f4:((xb:Int) == (qa:Int))=false:=by simp;omega
     clear c1 c2 c3 c4 hinv;go_enter Tryz.func121,Tryz.ntmps121;go_wp2_with fail
     go_quiet (fail)
     go_wp2_with fail
     go_quiet (fail)
     go_wp2;go_ret;exact⟨rfl,_,by rw[World.drewN_drewN]⟩
theorem BQ (x y:FB)(mx my:xA)(bi bs by' bx bf n e a:Nat)(W:World)(h:lK x y mx my bi bs by' bx n W)(hf:W.cell? ⟨bf,0,none⟩=some (.int .i64 ((x.size-1:Nat):Int)))(hx:x.Ok)(hy:y.Ok)(hel:x.el=y.el)(he:e<x.el)(ha:a<(x.size-1)*(y.size-1)+1):
 Calls Tryz.prog 122 #[.int .i64 e,.int .i64 a,.pointer (some ⟨bi,0,none⟩),.pointer (some ⟨bx,0,none⟩),.pointer (some ⟨bs,0,none⟩),.pointer (some ⟨by',0,none⟩),.pointer (some ⟨bf,0,none⟩)] W fun r w'=>r=.returned (.int .i64 (qB x y e a:Nat))/\∃m,w'=W.drewN m:=by
 have:=hx.lo;have:=hy.lo;have g0:=hx.hi;have h0:=hy.hi;have:=hx.el;obtain⟨s1,k0⟩:∃s1,x.size=s1+1:=⟨x.size-1,by omega⟩;obtain⟨s2,m0⟩:∃s2,y.size=s2+1:=⟨y.size-1,by omega⟩;have ci:=h.ci;have cs:=h.cs;have cyb:=h.cye;have cxb:=h.cxe;have d0:mx.E.t.len=x.el:=by rw[h.lx.E];rfl
 have f0:my.E.t.len=x.el:=by rw[h.ly.E];exact hel.symm
 simp only[Mat.val,d0,f0]at cyb cxb;unfold qB;have e1:x.size-1=s1:=by omega
 have e2:y.size-1=s2:=by omega
 simp only[e1,e2]at ci cs ha hf |-;generalize hinv:s1*s2=inv at *;have j0:0<s2:=by omega
 by_cases c1:a=inv
 ·rw[if_pos c1];have f1:((a:Int) == (inv:Int))=true:=by simp[c1]
  clear c1 hinv;go_enter Tryz.func122,Tryz.ntmps122;go_wp2;go_ret;exact⟨rfl,0,rfl⟩
 ·rw[if_neg c1];have f1:((a:Int) == (inv:Int))=false:=by simp;omega
  have:a / s2<s1:=by rw[Nat.div_lt_iff_lt_mul j0];omega
  have:a % s2<s2:=Nat.mod_lt _ j0;have:(a:Int) / (s2:Int)=((a / s2:Nat):Int):=(Int.natCast_ediv a s2).symm;have:(a:Int) % (s2:Int)=((a % s2:Nat):Int):=(Int.natCast_emod a s2).symm;obtain⟨yg,yr,yc⟩:=pG h.ly h.iy (e:=e) (by omega) (by omega);have:=yc (a % s2) (by omega);have yv:=hy.elt e (a % s2) (by omega) (by omega);obtain⟨xg,xr,xc⟩:=pG h.lx h.ix (e:=e) he (by omega);have:=xc (a / s2) (by omega);have xv:=hx.elt e (a / s2) he (by omega);rw[yg]at cyb;rw[xg]at cxb;rw[m0]at yr yv h0;rw[k0]at xr xv g0;clear yg xg yc xc k0 m0 e1 e2 d0 f0 h;generalize y.edge e (a % s2)=yb at *;generalize x.edge e (a / s2)=xb at *;generalize a / s2=qa at *;generalize a % s2=ra at *;have:(0:Int)<(s2:Int):=by omega
  have:((s2:Int) == 0)=false:=by simp;omega
  have:(e:Int)<(x.el:Int):=by omega
  have:(ra:Int)<(s2:Int)+1:=by omega
  have:(qa:Int)<(s1:Int)+1:=by omega
  have:(ra:Int)<=24:=by omega
  have:(qa:Int)<=24:=by omega
  have:(xb:Int)<=24:=by omega
  have:(yb:Int)<=24:=by omega
  have:(s2:Int)<=24:=by omega
  by_cases c2:xb=s1
  ·rw[if_pos (Or.inl c2)];have f2:((xb:Int) == (s1:Int))=true:=by simp[c2]
   clear c1 c2 hinv;go_enter Tryz.func122,Tryz.ntmps122;go_wp2_with fail
   go_quiet (fail)
   go_wp2;go_ret;exact⟨rfl,_,rfl⟩
  ·have f2:((xb:Int) == (s1:Int))=false:=by simp;omega
   by_cases c3:yb=s2
   ·rw[if_pos (Or.inr c3)];have f3:((yb:Int) == (s2:Int))=true:=by simp[c3]
    clear c1 c2 c3 hinv;go_enter Tryz.func122,Tryz.ntmps122;go_wp2_with fail
    go_quiet (fail)
    go_wp2;go_ret;exact⟨rfl,_,rfl⟩
   ·rw[if_neg (fun hh=>by rcases hh with hh | hh;exact c2 hh;exact c3 hh)];have f3:((yb:Int) == (s2:Int))=false:=by simp;omega
    have:(xb:Int)*(s2:Int)=((xb*s2:Nat):Int):=by rw[Int.natCast_mul]
    have:xb*s2<=24*24:=Nat.mul_le_mul (by omega) (by omega);generalize xb*s2=mm at *;have:(mm:Int)<=576:=by omega
    clear c1 c2 c3 hinv;go_enter Tryz.func122,Tryz.ntmps122;go_wp2_with fail
    go_quiet (fail)
    go_wp2;go_ret;exact⟨zF (by omega),_,rfl⟩
theorem XK (mx my:xA)(x y:FB)(w:World)(lx:QE mx x)(ly:QE my y)(ix:mx.In w.heap.size w)(iy:my.In w.heap.size w)(hx:x.Ok)(hy:y.Ok)(hel:x.el=y.el)(hsz:(x.size-1)*(y.size-1)+1<=24):
 Calls Tryz.prog 86 #[mx.val,my.val] w fun e w'=>Made (yC x y) w.heap.size e w'/\Below w.heap.size w w':=by
 have ex:=lx.size;have ey:=ly.size;have E0:mx.B.t.len=x.size:=by rw[lx.B];rfl
 have F0:my.B.t.len=y.size:=by rw[ly.B];rfl
 have G0:mx.E.t.len=x.el:=by rw[lx.E];rfl
 have H0:my.E.t.len=x.el:=by rw[ly.E,hel];rfl
 have f1:=hx.lo;have g1:=hy.lo;have i1:=hx.hi;have j1:=hy.hi;have o1:=hx.el;simp only[xA.val,Mat.val,ex,ey,E0,F0,G0,H0];have b0:Blk (((w.alloc (.cells #[.int .i64 x.size,.slice mx.B.ga x.size mx.B.cap,.slice mx.E.ga x.el mx.E.cap] 24)).alloc (.cells #[.int .i64 y.size,.slice my.B.ga y.size my.B.cap,.slice my.E.ga x.el my.E.cap] 24)).alloc (.cells #[.int .i64 0,.slice none 0 0,.slice none 0 0] 24)) w.heap.size #[.int .i64 x.size,.slice mx.B.ga x.size mx.B.cap,.slice mx.E.ga x.el mx.E.cap] 24:=((Blk.new w _ _).alloc _).alloc _;have b1:Blk (((w.alloc (.cells #[.int .i64 x.size,.slice mx.B.ga x.size mx.B.cap,.slice mx.E.ga x.el mx.E.cap] 24)).alloc (.cells #[.int .i64 y.size,.slice my.B.ga y.size my.B.cap,.slice my.E.ga x.el my.E.cap] 24)).alloc (.cells #[.int .i64 0,.slice none 0 0,.slice none 0 0] 24)) (w.heap.size+1) #[.int .i64 y.size,.slice my.B.ga y.size my.B.cap,.slice my.E.ga x.el my.E.cap] 24:=(Blk.new' (by simp)).alloc _;have b2:Blk (((w.alloc (.cells #[.int .i64 x.size,.slice mx.B.ga x.size mx.B.cap,.slice mx.E.ga x.el mx.E.cap] 24)).alloc (.cells #[.int .i64 y.size,.slice my.B.ga y.size my.B.cap,.slice my.E.ga x.el my.E.cap] 24)).alloc (.cells #[.int .i64 0,.slice none 0 0,.slice none 0 0] 24)) (w.heap.size+1+1) #[.int .i64 0,.slice none 0 0,.slice none 0 0] 24:=Blk.new' (by simp);have Q0:Below w.heap.size w (((w.alloc (.cells #[.int .i64 x.size,.slice mx.B.ga x.size mx.B.cap,.slice mx.E.ga x.el mx.E.cap] 24)).alloc (.cells #[.int .i64 y.size,.slice my.B.ga y.size my.B.cap,.slice my.E.ga x.el my.E.cap] 24)).alloc (.cells #[.int .i64 0,.slice none 0 0,.slice none 0 0] 24)):=(((Below.refl _ w).alloc lR _).alloc (by simp) _).alloc (by simp;omega) _;have p0:=hide hel;clear hel ex ey E0 F0 G0 H0;go_enter Tryz.func86,Tryz.ntmps86;go_wp2_with fail;generalize hW:(((w.alloc (.cells #[.int .i64 x.size,.slice mx.B.ga x.size mx.B.cap,.slice mx.E.ga x.el mx.E.cap] 24)).alloc (.cells #[.int .i64 y.size,.slice my.B.ga y.size my.B.cap,.slice my.E.ga x.el my.E.cap] 24)).alloc (.cells #[.int .i64 0,.slice none 0 0,.slice none 0 0] 24))=W at *;have I0:W.heap.size=w.heap.size+3:=by rw[<-hW];simp
 clear hW;have x0:=b0.cell 0;have y0:=b1.cell 0;simp at x0 y0
 go_cut [5,6] from 11 to 16 (fun p5 p6 wx=>∃b5 b6:Nat,p5=.pointer (some ⟨b5,0,none⟩)/\p6=.pointer (some ⟨b6,0,none⟩)/\Hid (w.heap.size+3<=b5/\w.heap.size+3<=b6/\Blk wx b5 #[.int .i64 ((x.size:Int)-1)] 3/\Blk wx b6 #[.int .i64 ((y.size:Int)-1)] 3/\Below (w.heap.size+3) W wx))
 case first =>
  go_region
  ·go_wp2_with fail;go_meet;exact⟨_,_,rfl,rfl,hide ⟨by omega,by omega,(Blk.new' (by omega)).alloc _,Blk.new' (by simp[I0]),((((Below.refl _ W).alloc (by omega) _).alloc (by simp;omega) _).trans ⟨rfl,rfl,rfl,lR,fun _ _=>rfl⟩)⟩⟩
  ·go_wp2_with fail;go_meet;exact⟨_,_,rfl,rfl,hide ⟨by omega,by omega,Blk.new' (by simp[I0]),(Blk.new' (by omega)).alloc _,((((Below.refl _ W).alloc (by omega) _).alloc (by simp;omega) _).trans ⟨rfl,rfl,rfl,lR,fun _ _=>rfl⟩)⟩⟩
 case rest =>
  obtain⟨b5,b6,rfl,rfl,H⟩:=hcut;obtain⟨l5,l6,k5,k6,B0⟩:=H.out;have c5:=k5.cell 0;have c6:=k6.cell 0;simp at c5 c6;have R0:((x.size:Int)-1)*((y.size:Int)-1)=(((x.size-1)*(y.size-1):Nat):Int):=by
   rw[Int.natCast_mul,Int.ofNat_sub (by omega),Int.ofNat_sub (by omega)];rfl
  obtain⟨inv,i0⟩:∃inv,(x.size-1)*(y.size-1)=inv:=⟨_,rfl⟩;rw[i0]at R0 hsz;have J0:(inv:Int)<=23:=by omega
  have f0:=hide i0;clear i0 x0 y0 H;go_wp2_with fail;have bI:=Blk.new wc #[.int .i64 (inv:Int)] 3;have k0:Below (w.heap.size+3) W (wc.alloc (.cells #[.int .i64 (inv:Int)] 3)):=B0.alloc (by have:=B0.size;omega) _;have K0:=k5.alloc (.cells #[.int .i64 (inv:Int)] 3);have L0:=k6.alloc (.cells #[.int .i64 (inv:Int)] 3);have p1:=B0.size;have q1:wc.heap.size<(wc.alloc (.cells #[.int .i64 (inv:Int)] 3)).heap.size:=bI.lt;generalize wc.alloc (.cells #[.int .i64 (inv:Int)] 3)=V at *;clear c5 c6 k5 k6;have g0:=b0.below k0 (by omega);have m0:=b1.below k0 (by omega);have M0:=b2.below k0 (by omega);have q0:=Q0.trans (k0.mono (by omega));have S0:((x.size-1:Nat):Int)=(x.size:Int)-1:=by omega
  have T0:((y.size-1:Nat):Int)=(y.size:Int)-1:=by omega
  have h0:∀W',Below V.heap.size V W'->lK x y mx my wc.heap.size b6 (w.heap.size+1) w.heap.size w.heap.size W'/\W'.cell? ⟨b5,0,none⟩=some (.int .i64 ((x.size-1:Nat):Int)):=fun W' hb=>by
   have N0:=q0.trans (hb.mono q0.size);refine⟨⟨lx,ly,ix.below N0 lR,iy.below N0 lR,?_,?_,?_,?_,?_,?_⟩,?_⟩
   ·rw[f0.out];exact(bI.below hb bI.lt).cell 0
   ·rw[T0];exact(L0.below hb L0.lt).cell 0
   ·rw[(m0.below hb m0.lt).cell 1];simp only[Mat.val,ly.B,FB.B];rfl
   ·rw[(m0.below hb m0.lt).cell 2];simp only[Mat.val,ly.E,FB.E];rw[<-p0.out];rfl
   ·rw[(g0.below hb g0.lt).cell 1];simp only[Mat.val,lx.B,FB.B];rfl
   ·rw[(g0.below hb g0.lt).cell 2];simp only[Mat.val,lx.E,FB.E];rfl
   ·rw[S0];exact(K0.below hb K0.lt).cell 0
  have O0:Below V.heap.size V V.drew:=⟨rfl,rfl,rfl,lR,fun _ _=>rfl⟩;have U0:=bQ hx hy p0.out (by rw[f0.out];exact hsz);have s0:=hide (vE 121 #[.pointer (some ⟨wc.heap.size,0,none⟩),.pointer (some ⟨b6,0,none⟩),.pointer (some ⟨w.heap.size+1,0,none⟩),.pointer (some ⟨w.heap.size,0,none⟩)] (inv+1) (inv+1) (fun a b=>((YA x y a b:Nat):Int)) V.drew hsz hsz dO (fun a b W' ha hb hb'=>by
   have:=CQ x y mx my wc.heap.size b6 (w.heap.size+1) w.heap.size w.heap.size a b W' (h0 W' (O0.trans hb')).1 hx hy (by rw[f0.out];exact hsz) (by rw[f0.out];exact ha) (by rw[f0.out];exact hb);simpa using this))
  have P0:=hide (fun (w1:World) (hb:Below V.heap.size V w1)=>vE 122 #[.pointer (some ⟨wc.heap.size,0,none⟩),.pointer (some ⟨w.heap.size,0,none⟩),.pointer (some ⟨b6,0,none⟩),.pointer (some ⟨w.heap.size+1,0,none⟩),.pointer (some ⟨b5,0,none⟩)] x.el (inv+1) (fun e a=>((qB x y e a:Nat):Int)) w1 (by omega) hsz cO (fun e a W' he ha hb'=>by
   obtain⟨Z0,cf⟩:=h0 W' (hb.trans (hb'.mono hb.size));have:=BQ x y mx my wc.heap.size b6 (w.heap.size+1) w.heap.size b5 w.heap.size e a W' Z0 cf hx hy p0.out he (by rw[f0.out];exact ha);simpa using this))
  have s1:=hide h0;clear h0;have e2:((inv+1:Nat):Int)=(inv:Int)+1:=by omega
  simp only[e2]at s0 P0;have x2:=g0.cell 2;simp at x2;have V0:w.heap.size≠w.heap.size+1+1:=by omega
  go_region_held3 (fun w'=>w'.cell? ⟨w.heap.size,2,none⟩=some (.slice mx.E.ga x.el mx.E.cap)) (first | (go_keep;done) | exact k1 | exact k2 | exact(v0.far3 V0 _ _ _).cell 2)
   (first
    | (go_at_call 118;refine s0.out.mono ?_;rintro e w1 ⟨rfl,C0⟩;have o0:=O0.trans C0.below;have k1:=(g0.below o0 g0.lt).cell 2;have W0:=hide C0;clear C0 s0)
    | (go_at_call 118;refine(P0.out _ o0).mono ?_;rintro e w2 ⟨rfl,D0⟩;have u0:=o0.trans (D0.below.mono o0.size);have v0:=g0.below u0 g0.lt;have k2:=v0.cell 2;have j0:=M0.below u0 M0.lt;have d0:=j0.cell 0;have d1:=j0.cell 1;have d2:=j0.cell 2;have df:=j0.frozen;simp at d0 d1 d2;have X0:=hide D0;clear D0))
  all_goals
   have HM:Hid (Made (yC x y) w.heap.size (.returned (.agg #[.int .i64 ((inv:Int)+1),.slice (some ⟨V.heap.size,0,none⟩) (inv+1) (inv+1),.slice (some ⟨w1.heap.size,0,none⟩) x.el x.el])) (st3 w2 (w.heap.size+1+1) (.int .i64 ((inv:Int)+1)) (.slice (some ⟨V.heap.size,0,none⟩) (inv+1) (inv+1)) (.slice (some ⟨w1.heap.size,0,none⟩) x.el x.el))):=hide (by
    have w0:(yC x y).size=inv+1:=by show (x.size-1)*(y.size-1)+1=_;rw[f0.out]
    have h1:=W0.out;have h2:=X0.out;have:=LJ (x:=yC x y) (W1:=V.drew) (w1:=w1) (w2:=w2) (B:=w.heap.size+1+1) (b:=w.heap.size) U0 (by rw[w0];exact h1) (by rw[w0];exact h2) (by show w.heap.size+1+1<V.heap.size;omega) (by show w.heap.size<=V.heap.size;omega) (.int .i64 ((inv:Int)+1)) (.slice (some ⟨V.heap.size,0,none⟩) (inv+1) (inv+1)) (.slice (some ⟨w1.heap.size,0,none⟩) x.el x.el);rw[w0,e2]at this;exact this)
   have Y0:=hide (iB (q0.trans (u0.mono (by omega))) (show w.heap.size<=w.heap.size+1+1 by omega) (.int .i64 ((inv:Int)+1)) (.slice (some ⟨V.heap.size,0,none⟩) (inv+1) (inv+1)) (.slice (some ⟨w1.heap.size,0,none⟩) x.el x.el));have z0:=j0.set3 (.int .i64 ((inv:Int)+1)) (.slice (some ⟨V.heap.size,0,none⟩) (inv+1) (inv+1)) (.slice (some ⟨w1.heap.size,0,none⟩) x.el x.el);have e0:=z0.cell 0;have e1:=z0.cell 1;have A0:=z0.cell 2;unfold st3 at e0 e1 A0;simp at e0 e1 A0;clear d0 d1 d2 df k1 k2 v0 j0;go_wp2;exact bodyPost_ret (v:=.agg #[.int .i64 ((inv:Int)+1),.slice (some ⟨V.heap.size,0,none⟩) (inv+1) (inv+1),.slice (some ⟨w1.heap.size,0,none⟩) x.el x.el]) (by simp[results,Tryz.results86,go_sem,e0,e1,A0]) rfl ⟨HM.out,Y0.out⟩
theorem QB {W W':World}{k B:Nat}(h:Below k W W')(hk:k<=B)(u v:Value):Below k W ((W'.setCell ⟨B,0,none⟩ u).setCell ⟨B,1,none⟩ v) :=
 (h.setCell (p:=⟨B,0,none⟩) hk _).setCell (p:=⟨B,1,none⟩) hk _
theorem zQ {n:Nat}(h1:3<=n)(h2:n<=24):(8:Int)<=2 ^ n/\(2:Int) ^ n<=16777216:=by
 have a:2 ^ 3<=2 ^ n:=Nat.pow_le_pow_right (by omega) h1;have b:2 ^ n<=2 ^ 24:=Nat.pow_le_pow_right (by omega) h2;have e:((2 ^ n:Nat):Int)=(2:Int) ^ n:=by simp
 omega
theorem RI (h:yA)(ga:Option Addr)(cap gb:Nat)(s g:Nat->Nat)(w:World)(hh:h.In w.heap.size w)(hs:sI ga h.pn gb s g w)(hr:∀i,i<h.pn->3<=s i/\s i<=24):
 Calls Tryz.prog 100 #[h.val,.slice ga h.pn cap] w fun e w'=>zG (fB h s g) ((s 0-1)*(s 1-1)+1) (g 0) e/\Below w.heap.size w w':=by
 have h0:=hh.elen;unfold maxLen at h0;have:=hh.plen;have f0:∀u v:Value,Below w.heap.size w ((w.alloc (.cells h.cells 37)).alloc (.cells #[u,v] 106)):=fun u v=>((Below.refl _ w).alloc lR _).alloc (by simp) _;have g0:=hs.below (f0 (.int .i64 0) (.int .i64 0));simp only[yA.val,yA.cells]at *;by_cases d0:h.pn=2
 ·have i0:((h.pn:Int) != 2)=false:=by simp[d0]
  by_cases h1:h.n=0
  ·have j0:((h.n:Int) != 0)=false:=by simp[h1]
   by_cases h2:h.en=0
   ·have k0:((h.en:Int) != 0)=false:=by simp[h2]
    have ha:=g0.addr (by omega);subst ha;have x0:=g0.c0 0 (by omega);have x1:=g0.c1 0 (by omega);have y0:=g0.c0 1 (by omega);have y1:=g0.c1 1 (by omega);simp at x0 x1 y0 y1;have:=hr 0 (by omega);have:=hr 1 (by omega);have:(0:Int)<(h.pn:Int):=by omega
    have:(1:Int)<(h.pn:Int):=by omega
    by_cases h3:g 0=g 1
    ·have m0:((g 0:Int) != (g 1:Int))=false:=by simp[h3]
     have:((s 0:Int)-1)*((s 1:Int)-1)=(((s 0-1)*(s 1-1):Nat):Int):=by
      rw[Int.natCast_mul,Int.ofNat_sub (by omega),Int.ofNat_sub (by omega)];rfl
     have:(s 0-1)*(s 1-1)<=23*23:=Nat.mul_le_mul (by omega) (by omega);by_cases h4:24<(s 0-1)*(s 1-1)+1
     ·have e:fB h s g=2:=by unfold fB;rw[if_neg (by omega),if_neg (by omega),if_neg (by omega),if_neg (by omega),if_pos h4]
      rw[e];generalize (s 0-1)*(s 1-1)=pp at *;have o0:(24:Int)<(pp:Int)+1:=by omega
      clear d0 h1 h2 h3 h4 hr;go_enter Tryz.func100,Tryz.ntmps100;go_wp2_with fail
      go_quiet (fail)
      go_wp2_with fail
      go_quiet (fail)
      go_wp2;refine bodyPost_ret (v:=.tuple #[.agg #[.int .i64 0,.int .i64 0],.int .i64 2]) (by simp[results,Tryz.results100,go_sem]) rfl ⟨TA (by decide),QB (below_drewN (f0 _ _) _) (by omega) _ _⟩
     ·have e:fB h s g=0:=by unfold fB;rw[if_neg (by omega),if_neg (by omega),if_neg (by omega),if_neg (by omega),if_neg h4]
      rw[e];generalize (s 0-1)*(s 1-1)=pp at *;have o0:(pp:Int)+1<=24:=by omega
      clear d0 h1 h2 h3 h4 hr;go_enter Tryz.func100,Tryz.ntmps100;go_wp2_with fail
      go_quiet (fail)
      go_wp2_with fail
      go_quiet (fail)
      go_wp2;refine bodyPost_ret (v:=.tuple #[.agg #[.int .i64 ((pp:Int)+1),.int .i64 (g 0)],.int .i64 0]) (by simp[results,Tryz.results100,go_sem]) rfl ⟨⟨pp+1,g 0,rfl,fun _=>⟨rfl,rfl⟩⟩,QB (below_drewN (f0 _ _) _) (by omega) _ _⟩
    ·have m0:((g 0:Int) != (g 1:Int))=true:=by simp;omega
     have e:fB h s g=4:=by unfold fB;rw[if_neg (by omega),if_neg (by omega),if_neg (by omega),if_pos h3]
     rw[e];clear d0 h1 h2 h3 hr;go_enter Tryz.func100,Tryz.ntmps100;go_wp2_with fail
     go_quiet (fail)
     go_wp2;refine bodyPost_ret (v:=.tuple #[.agg #[.int .i64 0,.int .i64 0],.int .i64 4]) (by simp[results,Tryz.results100,go_sem]) rfl ⟨TA (by decide),QB (below_drewN (f0 _ _) _) (by omega) _ _⟩
   ·have k0:((h.en:Int) != 0)=true:=by simp;omega
    have e:fB h s g=1:=by unfold fB;rw[if_neg (by omega),if_neg (by omega),if_pos h2]
    rw[e];clear d0 h1 h2 hr;go_enter Tryz.func100,Tryz.ntmps100;go_wp2;refine bodyPost_ret (v:=.tuple #[.agg #[.int .i64 0,.int .i64 0],.int .i64 1]) (by simp[results,Tryz.results100,go_sem]) rfl ⟨TA (by decide),f0 _ _⟩
  ·have j0:((h.n:Int) != 0)=true:=by simp;omega
   have e:fB h s g=3:=by unfold fB;rw[if_neg (by omega),if_pos h1]
   rw[e];clear d0 h1 hr;go_enter Tryz.func100,Tryz.ntmps100;go_wp2;refine bodyPost_ret (v:=.tuple #[.agg #[.int .i64 0,.int .i64 0],.int .i64 3]) (by simp[results,Tryz.results100,go_sem]) rfl ⟨TA (by decide),f0 _ _⟩
 ·have i0:((h.pn:Int) != 2)=true:=by simp;omega
  have e:fB h s g=1:=by unfold fB;rw[if_pos d0]
  rw[e];clear d0 hr;go_enter Tryz.func100,Tryz.ntmps100;go_wp2;refine bodyPost_ret (v:=.tuple #[.agg #[.int .i64 0,.int .i64 0],.int .i64 1]) (by simp[results,Tryz.results100,go_sem]) rfl ⟨TA (by decide),f0 _ _⟩
theorem xH (h:yA)(ga:Option Addr)(cap gb:Nat)(s g:Nat->Nat)(w:World)(hh:h.In w.heap.size w)(hs:sI ga h.pn gb s g w)(hr:∀i,i<h.pn->3<=s i/\s i<=24):
 Calls Tryz.prog 101 #[h.val,.slice ga h.pn cap] w fun e w'=>zG (LB h s g) (s 0) (g 0) e/\Below w.heap.size w w':=by
 have i0:=hh.elen;unfold maxLen at i0;have:=hh.plen;have d0:∀u v:Value,Below w.heap.size w ((w.alloc (.cells h.cells 37)).alloc (.cells #[u,v] 106)):=fun u v=>((Below.refl _ w).alloc lR _).alloc (by simp) _;have g0:=hs.below (d0 (.int .i64 0) (.int .i64 0));have HA:=hide (fun q=>XG h 0 (2 ^ s 0-1) w.heap.size _ (hh.below (below_drewN (d0 (.int .i64 0) (.int .i64 0)) q) lR));simp only[yA.val,yA.cells]at *;by_cases f0:h.pn=1
 ·have j0:((h.pn:Int) != 1)=false:=by simp[f0]
  by_cases h1:h.n=0
  ·have k0:((h.n:Int) != 0)=false:=by simp[h1]
   have ha:=g0.addr (by omega);subst ha;have x0:=g0.c0 0 (by omega);have x1:=g0.c1 0 (by omega);simp at x0 x1;have h0:=hr 0 (by omega);have:(0:Int)<(h.pn:Int):=by omega
   by_cases h3:h.en=g 0
   ·have m0:((h.en:Int) != (g 0:Int))=false:=by simp[h3]
    obtain⟨T0,T1⟩:=zQ h0.1 h0.2;obtain⟨T,hT⟩:∃T:Int,(2:Int) ^ s 0=T:=⟨_,rfl⟩;have e3:within h.ev h.en 0 (T-1)=false->LB h s g=3:=fun hw=>by unfold LB;rw[hT,if_neg (by omega),if_neg (by omega),if_neg (by omega),if_pos hw]
    have e0:within h.ev h.en 0 (T-1)=true->LB h s g=0:=fun hw=>by unfold LB;rw[hT,if_neg (by omega),if_neg (by omega),if_neg (by omega),if_neg (by rw[hw];simp)]
    rw[hT]at T0 T1;simp only[hT]at HA;cases hw:within h.ev h.en 0 (T-1) with
    | false =>
     rw[e3 hw];simp only[hw]at HA;clear f0 h1 h3 hr hw e3 e0;go_enter Tryz.func101,Tryz.ntmps101;go_wp2_with fail
     go_quiet (fail)
     go_wp2_with fail
     go_quiet ((go_at_call 130;exact(HA.out _).mono (fun _ _ ⟨he,hq⟩=>⟨he,_,hq⟩)))
     go_wp2;refine bodyPost_ret (v:=.tuple #[.agg #[.int .i64 0,.int .i64 0],.int .i64 3]) (by simp[results,Tryz.results101,go_sem]) rfl ⟨TA (by decide),QB (below_drewN (d0 _ _) _) (by omega) _ _⟩
    | true =>
     rw[e0 hw];simp only[hw]at HA;clear f0 h1 h3 hr hw e3 e0;go_enter Tryz.func101,Tryz.ntmps101;go_wp2_with fail
     go_quiet (fail)
     go_wp2_with fail
     go_quiet ((go_at_call 130;exact(HA.out _).mono (fun _ _ ⟨he,hq⟩=>⟨he,_,hq⟩)))
     go_wp2;refine bodyPost_ret (v:=.tuple #[.agg #[.int .i64 (s 0),.int .i64 (g 0)],.int .i64 0]) (by simp[results,Tryz.results101,go_sem]) rfl ⟨⟨s 0,g 0,rfl,fun _=>⟨rfl,rfl⟩⟩,QB (below_drewN (d0 _ _) _) (by omega) _ _⟩
   ·have m0:((h.en:Int) != (g 0:Int))=true:=by simp;omega
    have e:LB h s g=4:=by unfold LB;rw[if_neg (by omega),if_neg (by omega),if_pos h3]
    rw[e];clear f0 h1 h3 hr;go_enter Tryz.func101,Tryz.ntmps101;go_wp2_with fail
    go_quiet (fail)
    go_wp2;refine bodyPost_ret (v:=.tuple #[.agg #[.int .i64 0,.int .i64 0],.int .i64 4]) (by simp[results,Tryz.results101,go_sem]) rfl ⟨TA (by decide),QB (below_drewN (d0 _ _) _) (by omega) _ _⟩
  ·have k0:((h.n:Int) != 0)=true:=by simp;omega
   have e:LB h s g=3:=by unfold LB;rw[if_neg (by omega),if_pos h1]
   rw[e];clear f0 h1 hr;go_enter Tryz.func101,Tryz.ntmps101;go_wp2;refine bodyPost_ret (v:=.tuple #[.agg #[.int .i64 0,.int .i64 0],.int .i64 3]) (by simp[results,Tryz.results101,go_sem]) rfl ⟨TA (by decide),d0 _ _⟩
 ·have j0:((h.pn:Int) != 1)=true:=by simp;omega
  have e:LB h s g=1:=by unfold LB;rw[if_pos f0]
  rw[e];clear f0 hr;go_enter Tryz.func101,Tryz.ntmps101;go_wp2;refine bodyPost_ret (v:=.tuple #[.agg #[.int .i64 0,.int .i64 0],.int .i64 1]) (by simp[results,Tryz.results101,go_sem]) rfl ⟨TA (by decide),d0 _ _⟩
end Go.Proofs.YtjhkadffaephmacGreat
