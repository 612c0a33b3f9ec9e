import Derived.Test.YtjhkadffaephmacGreatCutRestStatesDC
namespace Go.Proofs.YtjhkadffaephmacGreat
set_option maxHeartbeats 16000000
set_option maxRecDepth 100000
open Go.RowKit
def vN (b:Nat):fA:=.mk ⟨1,1,some ⟨b,0,none⟩,1,1,b,0,fun _=>1,none,0,0,0,0⟩ (fun _=>.no)
def gQ:fA:=.mk ⟨1,1,none,0,0,0,0,fun _=>0,none,0,0,0,0⟩ (fun _=>.no)
theorem VT {b N:Nat}{w:World}(h:Blk w b #[.int .i64 1] 3)(hb:b<N):(vN b).In N w:=by
 refine⟨⟨rfl,rfl,fun _=>rfl,fun _=>hb,fun i hi=>?_,by show 1<=maxLen;unfold maxLen;omega,fun h=>absurd h nZ,fun h=>absurd h nZ,by show 0*64<=_;omega⟩,fun i hi=>absurd hi nZ⟩;have d0:i<1:=hi
 match i,d0 with
 | 0,_=>exact h.cell 0
theorem nT (N:Nat)(w:World):gQ.In N w :=
 ⟨⟨rfl,rfl,fun h=>absurd h nZ,fun h=>absurd h nZ,fun _ h=>absurd h nZ,zL,fun h=>absurd h nZ,fun h=>absurd h nZ,by show 0*64<=_;omega⟩,fun i hi=>absurd hi nZ⟩
theorem ES (b:Nat):(vN b).chk=0:=by rfl
theorem KR:gQ.chk=0:=by rfl
theorem BS (b n:Nat):(vN b).res.size=(rF n).size/\(vN b).res.B.same (rF n).B.t=true/\(vN b).res.E.same (rF n).E.t=true:=by
 refine⟨rfl,by rfl,by rfl⟩
structure jQ (w:World) (b:Nat) (m:xA) (W:World):Prop where
 below:Below w.heap.size w W
 blk:Blk W b #[.int .i64 m.size,m.B.val,m.E.val] 24
 mi:m.In W.heap.size W
def sO (m:xA) (i:Nat) (v:Value) (W:World):Prop :=
 match i with
 | 0=>v=.int .i64 0
 | 3=>v=m.val
 | 4=>∃n,v=(rF n).val/\(rF n).In W.heap.size W
 | 8=>v=.agg #[.int .i64 1,.int .i64 1,.slice none 0 0,.slice none 0 0]
 | 9=>v=.int .i64 0
 | _=>v=.bool true
theorem jQ.keep {w:World}{b:Nat}{m:xA}{W W':World}(h:jQ w b m W)(hb:Below W.heap.size W W'):jQ w b m W' :=
 ⟨h.below.trans (hb.mono h.below.size),h.blk.below hb h.blk.lt,(h.mi.below hb lR).mono hb.size⟩
theorem sO.keep {m:xA}{W W':World}(hb:Below W.heap.size W W')(i:Nat)(v:Value)(h:sO m i v W):sO m i v W':=by
 unfold sO at *;split at h
 all_goals first | exact h | skip
 obtain⟨n,h1,h2⟩:=h;exact⟨n,h1,(h2.below hb lR).mono hb.size⟩
theorem CK (w:World):
 Calls Tryz.prog 6 #[] w fun e w'=>e=.returned (.bool true)/\Below w.heap.size w w':=by
 have b0:=Blk.new w #[.int .i64 1] 3;have g0:Below w.heap.size w (w.alloc (.cells #[.int .i64 1] 3)):=(Below.refl _ w).alloc lR _;have HP:=hide (BK (vN w.heap.size) _ (VT b0 (by simp)));rw[ES]at HP;have HK:=hide (fun W=>TG gQ W (nT _ _));rw[KR]at HK;simp only[vN,gQ,DF,yA.val,yA.cells]at HP HK;go_enter Tryz.func6,Tryz.ntmps6;go_wp2_with fail;go_at_call 14;refine HP.out.mono ?_;rintro e w1 ⟨⟨m,rfl,k0,m0⟩,o0⟩;have j0:=g0.trans (o0.mono g0.size);have d0:Below w1.heap.size w1 (w1.alloc (.cells #[.int .i64 m.size,m.B.val,m.E.val] 24)):=(Below.refl _ w1).alloc lR _;have b2:=Blk.new w1 #[.int .i64 m.size,m.B.val,m.E.val] 24;have h0:=(m0.below d0 lR).mono d0.size;have i0:=j0.trans (d0.mono j0.size);clear HP g0 b0 o0;have x0:=b2.cell 0;have x1:=b2.cell 1;have x2:=b2.cell 2;simp[Mat.val]at x0 x1 x2;have p0:=hide (show m.alg=(vN w.heap.size).res from k0);simp only[xA.val,Mat.val]at *;clear k0;go_wp2_with fail;refine XF (jQ w w1.heap.size m) (sO m) (by kernel_rfl) (by kernel_rfl) (by kernel_rfl) ⟨by first | exact i0 | exact below_drewN i0 1,b2,(m0.below (below_drewN d0 1) lR).mono (below_drewN d0 1).size⟩ ⟨?_,?_,?_,?_,?_,?_,?_,?_,?_,?_,?_,?_,?_,trivial⟩ ?_
 all_goals clear x0 x1 x2 b2 d0 h0 i0
 rotate_right
 ·intro t W hG hE;have q0:t 12=.bool true:=hE 12 (by decide);have s0:=hG.below;clear hE hG;simp only[fill,Act.put,sX,sY,sU,q0];go_wp2;go_ret;exact⟨rfl,s0⟩
 all_goals intro t W hG hp K hK
 all_goals simp only[fill,Act.put,sX,sY,sU]at hK |-
 -- 0: e
 ·rw[if_pos (by rfl)];go_simp;exact hK _ W hG rfl (fun _ _ _ h=>h)
 -- 1: e == OK
 ·have e0:t 0=.int .i64 0:=hp 0 (by decide);rw[if_pos (by rfl)];simp only[e0]at hK |-;go_simp;exact hK _ W hG rfl (fun _ _ _ h=>h)
 ·have e1:t 1=.bool true:=hp 1 (by decide);rw[if_pos (by rfl)];simp only[e1]at hK |-;go_simp;exact hK _ W hG rfl (fun _ _ _ h=>h)
 -- 3: a
 ·have e2:t 2=.bool true:=hp 2 (by decide);simp only[e2]at hK |-;rw[if_pos (by rfl)];have c0:=hG.blk.cell 0;have c1:=hG.blk.cell 1;have c2:=hG.blk.cell 2;simp[Mat.val]at c0 c1 c2;go_simp;exact hK _ W hG rfl (fun _ _ _ h=>h)
 -- 4: hops
 ·have e2:t 2=.bool true:=hp 2 (by decide);simp only[e2]at hK |-;rw[if_pos (by rfl)];go_simp;go_at_call 28;refine(FN W).mono ?_;rintro e W' ⟨rfl,hI,hb⟩;go_simp;exact hK _ W' (hG.keep hb) ⟨_,rfl,hI⟩ (fun j u _=>sO.keep hb j u)
 -- 5: SameAlgebra
 ·have e2:t 2=.bool true:=hp 2 (by decide);have e3:t 3=m.val:=hp 3 (by decide);obtain⟨n,e4,hI⟩:=hp 4 (by decide);simp only[e2,e3,e4]at hK |-;rw[if_pos (by rfl)];have f0:=BS w.heap.size n;rw[<-p0.out]at f0;go_simp;go_at_call 18;refine(QF m (rF n) W hG.mi hI f0.1 f0.2.1 f0.2.2).mono ?_;rintro e W' ⟨rfl,hb⟩;go_simp;exact hK _ W' (hG.keep hb) rfl (fun j u _=>sO.keep hb j u)
 ·have e2:t 2=.bool true:=hp 2 (by decide);have e5:t 5=.bool true:=hp 5 (by decide);rw[if_pos (by rfl)];simp only[e2,e5]at hK |-;go_simp;exact hK _ W hG rfl (fun _ _ _ h=>h)
 ·have e6:t 6=.bool true:=hp 6 (by decide);rw[if_pos (by rfl)];simp only[e6]at hK |-;go_simp;exact hK _ W hG rfl (fun _ _ _ h=>h)
 -- 8: the plan with no edge
 ·have e7:t 7=.bool true:=hp 7 (by decide);simp only[e7]at hK |-;rw[if_pos (by rfl)];go_simp;exact hK _ W hG rfl (fun _ _ _ h=>h)
 ·have e7:t 7=.bool true:=hp 7 (by decide);have e8:t 8=.agg #[.int .i64 1,.int .i64 1,.slice none 0 0,.slice none 0 0]:=hp 8 (by decide);simp only[e7,e8]at hK |-;rw[if_pos (by rfl)];go_simp;go_at_call 29;refine(HK.out W).mono ?_;rintro e W' ⟨rfl,hb⟩;go_simp;exact hK _ W' (hG.keep hb) rfl (fun j u _=>sO.keep hb j u)
 ·have e7:t 7=.bool true:=hp 7 (by decide);have e9:t 9=.int .i64 0:=hp 9 (by decide);simp only[e7,e9]at hK |-;rw[if_pos (by rfl)];go_simp;exact hK _ W hG rfl (fun _ _ _ h=>h)
 ·have e7:t 7=.bool true:=hp 7 (by decide);have u0:t 10=.bool true:=hp 10 (by decide);rw[if_pos (by rfl)];simp only[e7,u0]at hK |-;go_simp;exact hK _ W hG rfl (fun _ _ _ h=>h)
 ·have v0:t 11=.bool true:=hp 11 (by decide);rw[if_pos (by rfl)];simp only[v0]at hK |-;go_simp;exact hK _ W hG rfl (fun _ _ _ h=>h)
end Go.Proofs.YtjhkadffaephmacGreat
