import Derived.Test.YtjhkadffaephmacGreatCutRestStatesAA
import Derived.Deep.RegionWith
import Derived.Deep.CutRange
namespace Go.Proofs.YtjhkadffaephmacGreat
set_option maxHeartbeats 16000000
set_option maxRecDepth 100000
open Go.RowKit
theorem eU (a:xA)(g:a.alg.Good)(x:Brk)(f:a.alg.Fits x)(n:Nat)(w:World)(h:a.In n w)(hn:n<=w.heap.size)(hl:x.law=5):
 Calls Tryz.prog 145 #[a.val,x.val] w fun e w'=>e=.returned (.bool (a.alg.holds x))/\Below w.heap.size w w':=by
 have:2<=a.size:=g.lo;have:a.size<=24:=g.hi;have a0:=f.a0;have a1:x.a<a.size:=f.a_lt g;have b0:=f.b0;have b1:x.b<a.size:=f.b_lt g;have c0:=f.c0;have c1:x.c<a.size:=f.c_lt g;have d0:=hide (show a.alg.holds x=(a.alg.B.get (a.size-1) x.a == x.a) by simp[Alg.holds,hl,xA.alg]);clear f;obtain⟨l,xa,xb,xc,xe⟩:=x;simp only at hl a0 a1 b0 b1 c0 c1 d0;subst hl;simp only[xA.val,Brk.val];go_enter Tryz.func145,Tryz.ntmps145;go_wp2
 go_quiet ((go_at_call 152;exact Calls.quiet_of_same (gD a g w.heap.size _ _ n _ (bC h hn _ _ _) (iC _ _ _ _ _ _ _) (by first | omega | assumption) (by first | omega | assumption) (by first | omega | assumption) (by first | omega | assumption))))
 go_wp2;go_ret;exact⟨by rw[d0.out];rfl,GA w _ _ _⟩
theorem dU (a:xA)(g:a.alg.Good)(x:Brk)(f:a.alg.Fits x)(n:Nat)(w:World)(h:a.In n w)(hn:n<=w.heap.size)(hl:x.law=6):
 Calls Tryz.prog 145 #[a.val,x.val] w fun e w'=>e=.returned (.bool (a.alg.holds x))/\Below w.heap.size w w':=by
 have:2<=a.size:=g.lo;have:a.size<=24:=g.hi;have a0:=f.a0;have a1:x.a<a.size:=f.a_lt g;have b0:=f.b0;have b1:x.b<a.size:=f.b_lt g;have c0:=f.c0;have c1:x.c<a.size:=f.c_lt g;have e0:=f.e0;have e1:x.e<a.E.t.len:=f.e_lt (by omega);have d0:=hide (show a.alg.holds x=(a.alg.E.get x.e (a.size-1) == a.size-1) by simp[Alg.holds,hl,xA.alg]);clear f;obtain⟨l,xa,xb,xc,xe⟩:=x;simp only at hl a0 a1 b0 b1 c0 c1 e0 e1 d0;subst hl;simp only[xA.val,Brk.val];go_enter Tryz.func145,Tryz.ntmps145;go_wp2_with fail;go_at_call 153;refine(edge_any a g w.heap.size (w.heap.size+1) xe _ n _ (bC h hn _ _ 0) (VD _ _ _ _ _ _ 0) (JE _ _ _ _ _ _ _ _ 0) (by first | omega | assumption) (by first | omega | assumption) (by first | omega | assumption) (by first | omega | assumption)).mono ?_;rintro e w' ⟨rfl,rfl⟩;go_wp2;go_ret;exact⟨by rw[d0.out];rfl,GA w _ _ 0⟩
theorem bU (a:xA)(g:a.alg.Good)(x:Brk)(f:a.alg.Fits x)(n:Nat)(w:World)(h:a.In n w)(hn:n<=w.heap.size)(hl:x.law=7):
 Calls Tryz.prog 145 #[a.val,x.val] w fun e w'=>e=.returned (.bool (a.alg.holds x))/\Below w.heap.size w w':=by
 have:2<=a.size:=g.lo;have:a.size<=24:=g.hi;have a0:=f.a0;have a1:x.a<a.size:=f.a_lt g;have b0:=f.b0;have b1:x.b<a.size:=f.b_lt g;have c0:=f.c0;have c1:x.c<a.size:=f.c_lt g;have e0:=f.e0;have e1:x.e<a.E.t.len:=f.e_lt (by omega);have d0:=hide (show a.alg.holds x=(a.alg.B.get x.a (a.alg.E.get x.e x.a) == x.a) by simp[Alg.holds,hl]);clear f;obtain⟨l,xa,xb,xc,xe⟩:=x;simp only at hl a0 a1 b0 b1 c0 c1 e0 e1 d0;subst hl;have:0<=a.alg.E.get xe xa/\a.alg.E.get xe xa<a.size:=g.edge (by first | omega | assumption) (by first | omega | assumption) (by first | omega | assumption) (by first | omega | assumption);simp only[xA.val,Brk.val];go_enter Tryz.func145,Tryz.ntmps145;go_wp2
 go_quiet ((first | (go_at_call 152;exact Calls.quiet_of_same (gD a g w.heap.size _ _ n _ (bC h hn _ _ _) (iC _ _ _ _ _ _ _) (by first | omega | assumption) (by first | omega | assumption) (by first | omega | assumption) (by first | omega | assumption))) | (go_at_call 153;exact Calls.quiet_of_same (edge_any a g w.heap.size (w.heap.size+1) xe _ n _ (bC h hn _ _ _) (VD _ _ _ _ _ _ _) (JE _ _ _ _ _ _ _ _ _) (by first | omega | assumption) (by first | omega | assumption) (by first | omega | assumption) (by first | omega | assumption)))))
 go_wp2;go_ret;exact⟨by rw[d0.out];rfl,GA w _ _ _⟩
theorem TS (a:xA)(g:a.alg.Good)(x:Brk)(f:a.alg.Fits x)(n:Nat)(w:World)(_h:a.In n w)(_hn:n<=w.heap.size)(hl:x.law=8)(hg:(x.a == a.size-1)=true):
 Calls Tryz.prog 145 #[a.val,x.val] w fun e w'=>e=.returned (.bool (a.alg.holds x))/\Below w.heap.size w w':=by
 have:2<=a.size:=g.lo;have:a.size<=24:=g.hi;have a0:=f.a0;have a1:x.a<a.size:=f.a_lt g;have b0:=f.b0;have b1:x.b<a.size:=f.b_lt g;have c0:=f.c0;have c1:x.c<a.size:=f.c_lt g;have e0:=f.e0;have e1:x.e<a.E.t.len:=f.e_lt (by omega);have d0:=hide (show a.alg.holds x=true by simp[Alg.holds,hl];left;simpa [xA.alg] using hg);clear f;obtain⟨l,xa,xb,xc,xe⟩:=x;simp only at hl a0 a1 b0 b1 c0 c1 e0 e1 d0 hg;subst hl;simp only[xA.val,Brk.val];go_enter Tryz.func145,Tryz.ntmps145;go_wp2
 go_quiet (fail)
 go_wp2;go_ret;exact⟨by rw[d0.out];rfl,GA w _ _ _⟩
theorem WS (a:xA)(g:a.alg.Good)(x:Brk)(f:a.alg.Fits x)(n:Nat)(w:World)(h:a.In n w)(hn:n<=w.heap.size)(hl:x.law=8)(hg:(x.a == a.size-1)=false)(hg2:(a.alg.B.get x.a (a.alg.E.get x.e x.a) == x.a)=false):
 Calls Tryz.prog 145 #[a.val,x.val] w fun e w'=>e=.returned (.bool (a.alg.holds x))/\Below w.heap.size w w':=by
 have:2<=a.size:=g.lo;have:a.size<=24:=g.hi;have a0:=f.a0;have a1:x.a<a.size:=f.a_lt g;have b0:=f.b0;have b1:x.b<a.size:=f.b_lt g;have c0:=f.c0;have c1:x.c<a.size:=f.c_lt g;have e0:=f.e0;have e1:x.e<a.E.t.len:=f.e_lt (by omega);have d0:=hide (show a.alg.holds x=false by simp only[Alg.holds,hl];rw[hg2];simpa [xA.alg] using hg);clear f;obtain⟨l,xa,xb,xc,xe⟩:=x;simp only at hl a0 a1 b0 b1 c0 c1 e0 e1 d0 hg hg2;subst hl;have:0<=a.alg.E.get xe xa/\a.alg.E.get xe xa<a.size:=g.edge (by first | omega | assumption) (by first | omega | assumption) (by first | omega | assumption) (by first | omega | assumption);simp only[xA.val,Brk.val];go_enter Tryz.func145,Tryz.ntmps145;go_wp2
 go_quiet ((first | (go_at_call 152;exact Calls.quiet_of_same (gD a g w.heap.size _ _ n _ (bC h hn _ _ _) (iC _ _ _ _ _ _ _) (by first | omega | assumption) (by first | omega | assumption) (by first | omega | assumption) (by first | omega | assumption))) | (go_at_call 153;exact Calls.quiet_of_same (edge_any a g w.heap.size (w.heap.size+1) xe _ n _ (bC h hn _ _ _) (VD _ _ _ _ _ _ _) (JE _ _ _ _ _ _ _ _ _) (by first | omega | assumption) (by first | omega | assumption) (by first | omega | assumption) (by first | omega | assumption)))))
 go_wp2;go_ret;exact⟨by rw[d0.out];rfl,GA w _ _ _⟩
theorem VS (a:xA)(g:a.alg.Good)(x:Brk)(f:a.alg.Fits x)(n:Nat)(w:World)(h:a.In n w)(hn:n<=w.heap.size)(hl:x.law=8)(hg:(x.a == a.size-1)=false)(hg2:(a.alg.B.get x.a (a.alg.E.get x.e x.a) == x.a)=true):
 Calls Tryz.prog 145 #[a.val,x.val] w fun e w'=>e=.returned (.bool (a.alg.holds x))/\Below w.heap.size w w':=by
 have:2<=a.size:=g.lo;have:a.size<=24:=g.hi;have a0:=f.a0;have a1:x.a<a.size:=f.a_lt g;have b0:=f.b0;have b1:x.b<a.size:=f.b_lt g;have c0:=f.c0;have c1:x.c<a.size:=f.c_lt g;have e0:=f.e0;have e1:x.e<a.E.t.len:=f.e_lt (by omega);have d0:=hide (show a.alg.holds x=(a.alg.E.get x.e x.a != x.a) by simp only[Alg.holds,hl];rw[hg2];have f0:(x.a == a.alg.size-1)=false:=hg;rw[f0];simp);clear f;obtain⟨l,xa,xb,xc,xe⟩:=x;simp only at hl a0 a1 b0 b1 c0 c1 e0 e1 d0 hg hg2;subst hl;have:0<=a.alg.E.get xe xa/\a.alg.E.get xe xa<a.size:=g.edge (by first | omega | assumption) (by first | omega | assumption) (by first | omega | assumption) (by first | omega | assumption);simp only[xA.val,Brk.val];go_enter Tryz.func145,Tryz.ntmps145;go_wp2
 go_quiet ((first | (go_at_call 152;exact Calls.quiet_of_same (gD a g w.heap.size _ _ n _ (bC h hn _ _ _) (iC _ _ _ _ _ _ _) (by first | omega | assumption) (by first | omega | assumption) (by first | omega | assumption) (by first | omega | assumption))) | (go_at_call 153;exact Calls.quiet_of_same (edge_any a g w.heap.size (w.heap.size+1) xe _ n _ (bC h hn _ _ _) (VD _ _ _ _ _ _ _) (JE _ _ _ _ _ _ _ _ _) (by first | omega | assumption) (by first | omega | assumption) (by first | omega | assumption) (by first | omega | assumption)))))
 go_wp2;go_ret;exact⟨by rw[d0.out];rfl,GA w _ _ _⟩
theorem aU (a:xA)(g:a.alg.Good)(x:Brk)(f:a.alg.Fits x)(n:Nat)(w:World)(h:a.In n w)(hn:n<=w.heap.size)(hl:x.law=9):
 Calls Tryz.prog 145 #[a.val,x.val] w fun e w'=>e=.returned (.bool (a.alg.holds x))/\Below w.heap.size w w':=by
 have:2<=a.size:=g.lo;have:a.size<=24:=g.hi;have a0:=f.a0;have a1:x.a<a.size:=f.a_lt g;have b0:=f.b0;have b1:x.b<a.size:=f.b_lt g;have c0:=f.c0;have c1:x.c<a.size:=f.c_lt g;have e0:=f.e0;have e1:x.e<a.E.t.len:=f.e_lt (by omega);have d0:=hide (show a.alg.holds x=(a.alg.E.get x.e (a.alg.B.get x.a x.b) == a.alg.B.get (a.alg.E.get x.e x.a) (a.alg.E.get x.e x.b)) by simp[Alg.holds,hl]);clear f;obtain⟨l,xa,xb,xc,xe⟩:=x;simp only at hl a0 a1 b0 b1 c0 c1 e0 e1 d0;subst hl;have:0<=a.alg.E.get xe xa/\a.alg.E.get xe xa<a.size:=g.edge (by first | omega | assumption) (by first | omega | assumption) (by first | omega | assumption) (by first | omega | assumption);have:0<=a.alg.E.get xe xb/\a.alg.E.get xe xb<a.size:=g.edge (by first | omega | assumption) (by first | omega | assumption) (by first | omega | assumption) (by first | omega | assumption);have:0<=a.alg.B.get xa xb/\a.alg.B.get xa xb<a.size:=g.best (by first | omega | assumption) (by first | omega | assumption) (by first | omega | assumption) (by first | omega | assumption);simp only[xA.val,Brk.val];go_enter Tryz.func145,Tryz.ntmps145;go_wp2
 go_quiet ((first | (go_at_call 152;exact Calls.quiet_of_same (gD a g w.heap.size _ _ n _ (bC h hn _ _ _) (iC _ _ _ _ _ _ _) (by first | omega | assumption) (by first | omega | assumption) (by first | omega | assumption) (by first | omega | assumption))) | (go_at_call 153;exact Calls.quiet_of_same (edge_any a g w.heap.size (w.heap.size+1) xe _ n _ (bC h hn _ _ _) (VD _ _ _ _ _ _ _) (JE _ _ _ _ _ _ _ _ _) (by first | omega | assumption) (by first | omega | assumption) (by first | omega | assumption) (by first | omega | assumption)))))
 go_wp2;go_ret;exact⟨by rw[d0.out];rfl,GA w _ _ _⟩
theorem WQ (a:xA)(g:a.alg.Good)(x:Brk)(f:a.alg.Fits x)(n:Nat)(w:World)(h:a.In n w)(hn:n<=w.heap.size):
 Calls Tryz.prog 145 #[a.val,x.val] w fun e w'=>e=.returned (.bool (a.alg.holds x))/\Below w.heap.size w w':=by
 have l0:=f.l0;have l1:=f.l1;have hc:x.law=1\/x.law=2\/x.law=3\/x.law=4\/x.law=5\/x.law=6\/x.law=7\/x.law=8\/x.law=9:=by omega
 rcases hc with hl | hl | hl | hl | hl | hl | hl | hl | hl
 ·exact iU a g x f n w h hn hl
 ·exact gU a g x f n w h hn hl
 ·cases hg:(a.alg.B.get x.a x.b == x.a)
  ·exact aT a g x f n w h hn hl hg
  ·exact YS a g x f n w h hn hl hg
 ·exact fU a g x f n w h hn hl
 ·exact eU a g x f n w h hn hl
 ·exact dU a g x f n w h hn hl
 ·exact bU a g x f n w h hn hl
 ·cases hg:(x.a == a.size-1)
  ·cases hg2:(a.alg.B.get x.a (a.alg.E.get x.e x.a) == x.a)
   ·exact WS a g x f n w h hn hl hg hg2
   ·exact VS a g x f n w h hn hl hg hg2
  ·exact TS a g x f n w h hn hl hg
 ·exact aU a g x f n w h hn hl
end Go.Proofs.YtjhkadffaephmacGreat

namespace Go.Proofs.YtjhkadffaephmacGreat
set_option maxHeartbeats 16000000
set_option maxRecDepth 100000
open Go.RowKit Go.Shelf
attribute [local go_sem] Oper.semAt_some
def Blk (W:World) (B:Nat) (vs:Array Value) (t:TypeId):Prop:=W.heap[B]? = some (.cells vs t (0,0))
theorem Blk.lt {W:World}{B:Nat}{vs:Array Value}{t:TypeId}(h:Blk W B vs t):B<W.heap.size:=(Array.getElem?_eq_some_iff.1 h).1
theorem Blk.cell {W:World}{B:Nat}{vs:Array Value}{t:TypeId}(h:Blk W B vs t)(i:Nat):W.cell? ⟨B,i,none⟩=vs[i]?:=by simp[World.cell?,show W.heap[B]? = _ from h]
theorem Blk.frozen {W:World}{B:Nat}{vs:Array Value}{t:TypeId}(h:Blk W B vs t)(i:Nat):W.frozen? ⟨B,i,none⟩=false:=by simp[World.frozen?,show W.heap[B]? = _ from h]
theorem Blk.new (W:World)(vs:Array Value)(t:TypeId):Blk (W.alloc (.cells vs t)) W.heap.size vs t:=World.alloc_heap_new W _
theorem Blk.below {W W':World}{B k:Nat}{vs:Array Value}{t:TypeId}(h:Blk W B vs t)(hb:Below k W W')(hk:B<k):Blk W' B vs t:=(hb.block B hk).trans h
theorem Blk.kept {W W':World}{row:Option Nat}{B:Nat}{vs:Array Value}{t:TypeId}(h:Blk W B vs t)(hg:W.grownBy W' row)(hne:some B≠row):Blk W' B vs t:=(hg.block B h.lt hne).trans h
theorem Blk.alloc {W:World}{B:Nat}{vs:Array Value}{t:TypeId}(h:Blk W B vs t)(o:Obj):Blk (W.alloc o) B vs t:=h.kept (World.grownBy_alloc W o none) (by simp)
theorem Blk.set {W:World}{B:Nat}{vs:Array Value}{t:TypeId}(h:Blk W B vs t)(i:Nat)(v:Value):Blk (W.setCell ⟨B,i,none⟩ v) B (vs.setIfInBounds i v) t:=by
 obtain⟨d0,hk⟩:=Array.getElem?_eq_some_iff.1 h;show (W.heap.modify B _)[B]? = _;rw[Array.getElem?_eq_getElem (by rw[Array.size_modify];exact d0),Array.getElem_modify_self,hk];rfl
def set5 (W:World) (B:Nat) (v0 v1 v2 v3 v4:Value):World :=
 ((((W.setCell ⟨B,0,none⟩ v0).setCell ⟨B,1,none⟩ v1).setCell ⟨B,2,none⟩ v2).setCell ⟨B,3,none⟩ v3).setCell ⟨B,4,none⟩ v4
theorem Blk.set5 {W:World}{B:Nat}{t:TypeId}{u0 u1 u2 u3 u4:Value}(h:Blk W B #[u0,u1,u2,u3,u4] t)(v0 v1 v2 v3 v4:Value):Blk (set5 W B v0 v1 v2 v3 v4) B #[v0,v1,v2,v3,v4] t:=by
 have:=((((h.set 0 v0).set 1 v1).set 2 v2).set 3 v3).set 4 v4;unfold YtjhkadffaephmacGreat.set5;simpa using this
theorem SS (W:World)(B:Nat)(v0 v1 v2 v3 v4:Value):KeepsOthers W (set5 W B v0 v1 v2 v3 v4) :=
 ((((KeepsOthers.setCell _ _ _).trans (KeepsOthers.setCell _ _ _)).trans (KeepsOthers.setCell _ _ _)).trans (KeepsOthers.setCell _ _ _)).trans (KeepsOthers.setCell _ _ _)
theorem LF {W W':World}{k B:Nat}(h:Below k W W')(hk:k<=B)(v0 v1 v2 v3 v4:Value):Below k W (set5 W' B v0 v1 v2 v3 v4) :=
 ((((h.setCell (p:=⟨B,0,none⟩) hk _).setCell (p:=⟨B,1,none⟩) hk _).setCell (p:=⟨B,2,none⟩) hk _).setCell (p:=⟨B,3,none⟩) hk _).setCell (p:=⟨B,4,none⟩) hk _
theorem fJ {β:Type}(B:Nat)(t:TypeId)(f:β->Array Value):Own (fun s W=>Blk W B (f s) t):=fun s X Y row hs hg hrow =>
 hs.kept hg (fun e'=>by obtain⟨o,ho,hc⟩:=hrow B e'.symm;rw[show X.heap[B]? = _ from hs]at ho;cases ho;cases hc)
theorem SF {B k:Nat}{W W':World}(h:Below k W W')(hk:W.heap.size<=k):KeepsFrom B W W' where
 size:=h.size
 same:=fun i _ _ hi _=>(h.block i (Nat.lt_of_lt_of_le (Array.getElem?_eq_some_iff.1 hi).1 hk)).trans hi
def Brk.cells (x:Brk):Array Value:=#[.int .i64 x.law,.int .i64 x.a,.int .i64 x.b,.int .i64 x.c,.int .i64 x.e]
def Brk.none:Brk:=⟨0,0,0,0,0⟩
def Alg.first (a:Alg) (xs:List Brk):Brk:=(xs.find? fun b=>!a.holds b).getD Brk.none
def Alg.casesOf (a:Alg) (l:Int):List Brk:=VA l (PD a l).toNat (OD a l).toNat (rD a l).toNat (QD a l).toNat
theorem BH {a:Alg}{xs:List Brk}(h:∀b∈xs,a.holds b=true):a.first xs=Brk.none:=by
 unfold Alg.first;rw[List.find?_eq_none.2 (fun b hb=>by simp[h b hb])];rfl
theorem zH {a:Alg}{xs q:List Brk}{b:Brk}(hp:q ++ [b] <+: xs)(h:∀x∈q,a.holds x=true)(hb:a.holds b=false):a.first xs=b:=by
 obtain⟨r,rfl⟩:=hp;unfold Alg.first;rw[List.append_assoc,List.find?_append,List.find?_eq_none.2 (fun x hx=>by simp[h x hx])];simp[hb]
theorem rR (l sa sb sc se:Int)(w:World):
 Calls Tryz.prog 143 #[.int .i64 l,EG sa sb sc se] w fun e w' =>
  e=.returned (.func (.func 151) #[] #[.pointer (some ⟨w.heap.size+1,0,none⟩),.pointer (some ⟨w.heap.size,0,none⟩)]) /\
  w'=(w.alloc (.cells #[.int .i64 l] 3)).alloc (.cells #[.int .i64 sa,.int .i64 sb,.int .i64 sc,.int .i64 se] 171):=by
 simp only[EG];go_enter Tryz.func143,Tryz.ntmps143;go_wp2;go_ret;exact⟨rfl,rfl⟩
theorem nE (l:Int):IA l=0\/IA l=1\/IA l=2\/IA l=3:=by
 unfold IA;split <;> (try split) <;> (try split) <;> simp
theorem RN (l:Int):LD l=0\/LD l=1:=by
 unfold LD;split <;> simp
theorem dS (a:xA)(l:Int)(w:World)(hE:a.E.t.len<=maxLen):
 Calls Tryz.prog 144 #[a.val,.agg #[.int .i64 (IA l),.int .i64 (LD l)]] w fun en w' =>
  en=.returned (EG (QD a.alg l) (PD a.alg l) (OD a.alg l) (rD a.alg l))/\Below w.heap.size w w':=by
 have e1:rD a.alg l=if 0<LD l then (a.E.t.len:Int) else 1:=by
  unfold rD mD LD;by_cases h:6<=l <;> simp[h,xA.alg]
 rw[e1];exact jS a _ _ w (nE l) (RN l) hE
theorem Alg.Good.spans {a:Alg}(g:a.Good)(l:Int):∃sa sb sc se:Nat,QD a l=sa/\PD a l=sb/\OD a l=sc/\rD a l=se/\a.casesOf l=VA l sb sc se sa/\sa<=100/\sb<=100/\sc<=100/\se<=100:=by
 have h0:=g.lo;have h1:=g.hi;have h2:=g.el;have hA:0<=QD a l/\QD a l<=100:=by unfold QD;split <;> omega
 have hB:0<=PD a l/\PD a l<=100:=by unfold PD;split <;> omega
 have hC:0<=OD a l/\OD a l<=100:=by unfold OD;split <;> omega
 have hE:0<=rD a l/\rD a l<=100:=by unfold rD;split <;> omega
 exact⟨_,_,_,_,(Int.toNat_of_nonneg hA.1).symm,(Int.toNat_of_nonneg hB.1).symm,(Int.toNat_of_nonneg hC.1).symm,(Int.toNat_of_nonneg hE.1).symm,rfl,by omega,by omega,by omega,by omega⟩
theorem MP (a:xA)(g:a.alg.Good)(l:Int)(l0:1<=l)(l1:l<=9)(w:World)(h:a.In w.heap.size w):
 Calls Tryz.prog 126 #[a.val,.int .i64 l,.agg #[.int .i64 (IA l),.int .i64 (LD l)]] w fun e w'=>e=.returned (a.alg.first (a.alg.casesOf l)).val/\Below w.heap.size w w':=by
 have J0:=h.E.len;have cs:=fun W=>dS a l W J0;have p0:∀b∈a.alg.casesOf l,a.alg.Fits b:=by
  obtain⟨sa,sb,sc,se,ea,eb,ec,ee,A0,_⟩:=g.spans l;intro b hb;rw[A0]at hb;obtain⟨rfl,ha,hb,hc,he⟩:=CF hb;exact⟨l0,l1,ha.1,by omega,hb.1,by omega,hc.1,by omega,he.1,by omega⟩
 obtain⟨sa,sb,sc,se,ea,eb,ec,ee,A0,m0,m1,m2,m3⟩:=g.spans l;rw[ea,eb,ec,ee]at cs;rw[A0]at p0 |-;have CS:=hide cs;have HF:=hide p0;clear cs p0 ea eb ec ee A0 J0;generalize IA l=ro at *;generalize LD l=eo at *;refine(callsIn_wide (n:=3)).1 ?_;refine callsIn_of_wp_marks Tryz.func126 rfl trivial ?_ rfl;simp only[xA.val,Tryz.ntmps126,List.size_toArray,List.length_cons,List.length_nil,Nat.reduceAdd,Nat.reduceSub,Array.replicate_succ,Array.replicate_zero,List.push_toArray,List.append_toArray,List.nil_append,List.cons_append]
 gi_wp2_with (first
  | (refine⟨trivial,?_⟩;gi_at_call 144;refine(callsIn_wide.2 (CS.out _)).mono ?_;rintro e w1 ⟨rfl,s0⟩)
  | (refine⟨trivial,?_⟩;gi_at_call 143;refine(callsIn_wide.2 (rR _ _ _ _ _ _)).mono ?_;rintro e w2 ⟨rfl,rfl⟩))
 have K0:Below w.heap.size w (((w.alloc (.cells #[.int .i64 a.size,a.B.val,a.E.val] 24)).alloc (.cells #[.int .i64 ro,.int .i64 eo] 155)).alloc (.cells #[.int .i64 0,.int .i64 0,.int .i64 0,.int .i64 0,.int .i64 0] 98)) :=
  (((Below.refl _ w).alloc lR _).alloc (by simp) _).alloc (by simp;omega) _
 have bA:Blk (((w.alloc (.cells #[.int .i64 a.size,a.B.val,a.E.val] 24)).alloc (.cells #[.int .i64 ro,.int .i64 eo] 155)).alloc (.cells #[.int .i64 0,.int .i64 0,.int .i64 0,.int .i64 0,.int .i64 0] 98)) w.heap.size #[.int .i64 a.size,a.B.val,a.E.val] 24 :=
  ((Blk.new w _ _).alloc _).alloc _
 have bR:=Blk.new ((w.alloc (.cells #[.int .i64 a.size,a.B.val,a.E.val] 24)).alloc (.cells #[.int .i64 ro,.int .i64 eo] 155)) #[.int .i64 0,.int .i64 0,.int .i64 0,.int .i64 0,.int .i64 0] 98;simp only[World.size_alloc]at bR;have R0:=s0.size;simp only[World.size_alloc]at R0 s0;have L0:=bA.below s0 (by omega);have M0:=bR.below s0 (by omega);have N0:=K0.trans (s0.mono (by omega));clear s0 bA bR K0;have bL:=(Blk.new w1 #[.int .i64 l] 3).alloc (.cells #[.int .i64 sa,.int .i64 sb,.int .i64 sc,.int .i64 se] 171);have bS:=Blk.new (w1.alloc (.cells #[.int .i64 l] 3)) #[.int .i64 sa,.int .i64 sb,.int .i64 sc,.int .i64 se] 171;simp only[World.size_alloc]at bS;have O0:=(L0.alloc (.cells #[.int .i64 l] 3)).alloc (.cells #[.int .i64 sa,.int .i64 sb,.int .i64 sc,.int .i64 se] 171);have B0:=(M0.alloc (.cells #[.int .i64 l] 3)).alloc (.cells #[.int .i64 sa,.int .i64 sb,.int .i64 sc,.int .i64 se] 171);have P0:=(N0.alloc (o:=.cells #[.int .i64 l] 3) (by omega)).alloc (o:=.cells #[.int .i64 sa,.int .i64 sb,.int .i64 sc,.int .i64 se] 171) (by simp;omega);have S0:((w1.alloc (.cells #[.int .i64 l] 3)).alloc (.cells #[.int .i64 sa,.int .i64 sb,.int .i64 sc,.int .i64 se] 171)).heap.size=w1.heap.size+2:=by simp
 obtain⟨W0,Q0⟩:∃W0,(w1.alloc (.cells #[.int .i64 l] 3)).alloc (.cells #[.int .i64 sa,.int .i64 sb,.int .i64 sc,.int .i64 se] 171)=W0:=⟨_,rfl⟩;rw[Q0]at bL bS O0 B0 P0 S0 |-;clear Q0 L0 M0 N0;have z0:Brk.none.cells=#[.int .i64 0,.int .i64 0,.int .i64 0,.int .i64 0,.int .i64 0]:=rfl;rw[<-z0]at B0;clear z0;refine wpIn_rangeFunc_ownH (α:={ b:Brk // b∈VA l sb sc se sa }) rfl (by omega) (gf:=151) (lb:=#[.pointer (some ⟨w1.heap.size+1,0,none⟩),.pointer (some ⟨w1.heap.size,0,none⟩)]) rfl trivial (enters_of Tryz.func151 (by kernel_rfl) rfl)
  (encs:=fun x=>#[x.1.val]) (Kp:=Below W0.heap.size) (S:=fun xs=>xs.map (·.1)=VA l sb sc se sa) (Sp:=fun j0=>j0.map (·.1) <+: VA l sb sc se sa) (N:=(VA l sb sc se sa).length) (w0:=W0)
  (fun lr J Jx W hW _ _ hY h0=>zR Fence.wide _ trivial rfl (by omega) lr (w1.heap.size+1) w1.heap.size W0.heap.size l sa sb sc se ⟨m0,m1,m2,m3⟩ J Jx hY W (by omega) (by omega)
   ((bL.below hW (by omega)).cell 0) ((bS.below hW (by omega)).cell 0) ((bS.below hW (by omega)).cell 1) ((bS.below hW (by omega)).cell 2) ((bS.below hW (by omega)).cell 3) h0)
  belowK_t (belowK_b lR) (Below.refl _ _) (fun _=>rfl)
  (fun j0 W=>((∀b∈j0,a.alg.holds b.1=true)/\(Blk W w.heap.size #[.int .i64 a.size,a.B.val,a.E.val] 24/\Blk W (w.heap.size+1+1) Brk.none.cells 98))/\(W0.heap.size<=W.heap.size/\Below w.heap.size w W))
  (fun c j0 W=>(c=.ret/\∃q b,j0=q ++ [b]/\(∀x∈q,a.alg.holds x.1=true)/\a.alg.holds b.1=false/\Blk W (w.heap.size+1+1) b.1.cells 98)/\Below w.heap.size w W)
  (OwnFrom.and (OwnFrom.and (fun _ _ _ _ hs _ _=>hs) (OwnFrom.and (Own.from (fJ _ _ (fun _=>_)) _) (Own.from (fJ _ _ (fun _=>_)) _))) (OwnFrom.and (fun _ _ _ _ hs hg _=>Nat.le_trans hs hg.size) (ownFrom_below lR (by omega))))
  (fun c=>OwnFrom.and (fun s X Y row hs hg hr=>by
   obtain⟨hc,q,b,h1,h2,h3,h4⟩:=hs;exact⟨hc,q,b,h1,h2,h3,fJ _ 98 (fun (_:Unit)=>b.1.cells) () X Y row h4 hg (fun r e=>(hr r e).2)⟩) (ownFrom_below lR (by omega)))
  ⟨⟨fun _ hb=>absurd hb (by simp),O0,B0⟩,lR,P0⟩
  (fun x a' W=>∃Bx,w.heap.size+1+1<Bx/\Blk W Bx x.1.cells 98/\a'={ tmps:=#[.agg #[.int .i64 a.size,a.B.val,a.E.val],.int .i64 l,.agg #[.int .i64 ro,.int .i64 eo],.pointer (some ⟨w.heap.size,0,none⟩),undef,.pointer (some ⟨w.heap.size+1,0,none⟩),.pointer (some ⟨w.heap.size+1+1,0,none⟩),.pointer (some ⟨Bx,0,none⟩),.int .i64 l,.agg #[.int .i64 a.size,a.B.val,a.E.val],.agg #[.int .i64 ro,.int .i64 eo],EG sa sb sc se,.func (.func 151) #[] #[.pointer (some ⟨w1.heap.size+1,0,none⟩),.pointer (some ⟨w1.heap.size,0,none⟩)],x.1.val,undef,undef,undef,undef,undef,undef],defers:=[] })
  (fun x a' _ X Y row hs hg hr=>by
   obtain⟨Bx,h1,h2,h3⟩:=hs;exact⟨Bx,h1,fJ Bx 98 (fun (_:Unit)=>x.1.cells) () X Y row h2 hg (fun r e=>(hr r e).2),h3⟩)
  ?assign ?body ?done ?stop
 case assign =>
  rintro lr j0 x W K ⟨⟨hp,o0,f0⟩,y0,g0⟩ hK;simp only[Brk.val]
  gi_wp2
  exact hK _ _ ((KeepsOthers.alloc _ _).from _) ((Below.refl _ W).alloc y0 _) ⟨⟨hp,o0.alloc _,f0.alloc _⟩,by simp;omega,g0.alloc g0.size _⟩ ⟨W.heap.size,f0.lt,Blk.new W _ _,rfl⟩
 case body =>
  rintro lr j0 x a' W v1 ⟨r,hr⟩ ⟨⟨hp,o0,f0⟩,y0,g0⟩ ⟨Bx,x1,bX,rfl⟩ y1;have j1:W.cell? ⟨w.heap.size,0,none⟩=some (.int .i64 a.size):=o0.cell 0;have k1:W.cell? ⟨w.heap.size,1,none⟩=some a.B.val:=o0.cell 1;have o1:W.cell? ⟨w.heap.size,2,none⟩=some a.E.val:=o0.cell 2;have p1:W.cell? ⟨Bx,0,none⟩=some (.int .i64 x.1.law):=bX.cell 0;have q1:W.cell? ⟨Bx,1,none⟩=some (.int .i64 x.1.a):=bX.cell 1;have s1:W.cell? ⟨Bx,2,none⟩=some (.int .i64 x.1.b):=bX.cell 2;have t1:W.cell? ⟨Bx,3,none⟩=some (.int .i64 x.1.c):=bX.cell 3;have u1:W.cell? ⟨Bx,4,none⟩=some (.int .i64 x.1.e):=bX.cell 4;have T0:=bX.lt;have hc:=WQ a g x.1 (HF.out _ x.2) w.heap.size W (h.below g0 lR) g0.size;cases hh:a.alg.holds x.1
  ·rw[hh]at hc;have HC:=hide hc;have Hh:=hide hh;clear hc hh
   gi_wp2_with (refine⟨trivial,?_⟩;gi_at_call 145;refine(CallsIn.inRound lr (callsIn_wide.2 HC.out)).mono ?_;rintro e w' ⟨rfl,i0⟩;have u0:=bX.below i0 T0;have q0:=f0.below i0 f0.lt;have U0:=u0.cell 0;have V0:=u0.cell 1;have X0:=u0.cell 2;have Y0:=u0.cell 3;have Z0:=u0.cell 4;have C0:=q0.cell 0;have D0:=q0.cell 1;have E0:=q0.cell 2;have F0:=q0.cell 3;have G0:=q0.cell 4;have fR:=q0.frozen;simp[Brk.cells,Brk.none]at U0 V0 X0 Y0 Z0 C0 D0 E0 F0 G0)
   refine⟨(SF i0 lR).trans ((SS w' (w.heap.size+1+1) _ _ _ _ _).from _),⟨rfl,j0,x,rfl,hp,Hh.out,q0.set5 _ _ _ _ _⟩,LF (g0.trans (i0.mono g0.size)) (by omega) _ _ _ _ _⟩
  ·rw[hh]at hc;have HC:=hide hc;have Hh:=hide hh;clear hc hh
   gi_wp2_with (refine⟨trivial,?_⟩;gi_at_call 145;refine(CallsIn.inRound lr (callsIn_wide.2 HC.out)).mono ?_;rintro e w' ⟨rfl,i0⟩)
   refine⟨SF i0 lR,i0.mono y0,⟨fun b hb=>?_,o0.below i0 o0.lt,f0.below i0 f0.lt⟩,Nat.le_trans y0 i0.size,g0.trans (i0.mono g0.size)⟩;rcases List.mem_append.1 hb with hb | hb
   ·exact hp b hb
   ·obtain rfl:b=x:=by simpa using hb
    exact Hh.out
 case done =>
  rintro D ys W hD hS ⟨⟨hp,o0,f0⟩,y0,g0⟩ hK;have C0:=f0.cell 0;have D0:=f0.cell 1;have E0:=f0.cell 2;have F0:=f0.cell 3;have G0:=f0.cell 4;have fR:=f0.frozen;simp[Brk.cells,Brk.none]at C0 D0 E0 F0 G0
  gi_wp2
  have H0:=(SS W (w.heap.size+1+1) (.int .i64 0) (.int .i64 0) (.int .i64 0) (.int .i64 0) (.int .i64 0)).same D _ hK rfl;have k0:=Blk.set5 f0 (.int .i64 0) (.int .i64 0) (.int .i64 0) (.int .i64 0) (.int .i64 0);refine⟨by simp,.inl ⟨_,_,rfl,run_takeDeferred H0,?_⟩⟩;have v0:=k0.kept (grownBy_putObj' _ D (.deferred none)) (fun e=>by cases e;have:=k0.symm.trans H0;cases this);have I0:a.alg.first (VA l sb sc se sa)=Brk.none:=BH (fun b hb=>by
   rw[<-hS]at hb;obtain⟨y,hy,rfl⟩:=List.mem_map.1 hb;exact hp y hy)
  refine⟨Brk.none.val,?_,by rw[I0],(LF g0 (by omega) _ _ _ _ _).trans (belowK_b (w:=w) lR _ D _ _ (by omega) H0 rfl rfl)⟩;have d0:=v0.cell 0;have d1:=v0.cell 1;have d2:=v0.cell 2;have d3:=v0.cell 3;have d4:=v0.cell 4;unfold YtjhkadffaephmacGreat.set5 at d0 d1 d2 d3 d4;simp at d0 d1 d2 d3 d4;simp[results,Tryz.results126,go_sem,d0,d1,d2,d3,d4,Brk.val,Brk.none]
 case stop =>
  rintro D c j0 W hD hS ⟨⟨rfl,q,b,f1,g1,i1,f0⟩,g0⟩ hK
  gi_wp2
  refine⟨by simp,.inl ⟨_,_,rfl,run_takeDeferred hK,?_⟩⟩;have k0:Blk (W.putObj D (.deferred none)) (w.heap.size+1+1) b.1.cells 98:=f0.kept (grownBy_putObj' _ D (.deferred none)) (fun e=>by
   cases e;have:=f0.symm.trans hK;cases this)
  refine⟨b.1.val,?_,?_,g0.trans (belowK_b (w:=w) lR W D _ _ (by omega) hK rfl rfl)⟩
  ·have d0:=k0.cell 0;have d1:=k0.cell 1;have d2:=k0.cell 2;have d3:=k0.cell 3;have d4:=k0.cell 4;simp[Brk.cells]at d0 d1 d2 d3 d4;simp[results,Tryz.results126,go_sem,d0,d1,d2,d3,d4,Brk.val]
  ·have x0:=hS;rw[f1]at x0;rw[zH (q:=q.map (·.1)) (b:=b.1) (by simpa using x0) (fun x hx=>by obtain⟨y,hy,rfl⟩:=List.mem_map.1 hx;exact g1 y hy) i1]
end Go.Proofs.YtjhkadffaephmacGreat

namespace Go.Proofs.YtjhkadffaephmacGreat
set_option maxHeartbeats 16000000
set_option maxRecDepth 100000
open Go.RowKit
theorem GK {w w':World}{b k:Nat}(h:World.namesAt w b)(hb:Below k w w')(hk:b<k):World.namesAt w' b:=by
 obtain⟨es,d0,h1,h2⟩:=h;exact⟨es,d0,(hb.block b hk).trans h1,h2⟩
theorem gM {w:World}{b:Nat}{l:Int}(h:World.namesAt w b)(l0:1<=l)(l1:l<=9):
 (Instr.lookup 151 (.map (some b)) (.int .i64 l) false).run Tryz.prog w=.ok (.agg #[.int .i64 (IA l),.int .i64 (LD l)]) w:=by
 have hw:(Lit.int .i64 l).wf=true:=WalkArith.wf_i64 (by omega);obtain⟨v,ps,d0,hv⟩:=World.ownsMap.lookup h IK Tryz.underlying151 (zeroE w) (fC 0 0) (jF hw);rw[OQ l l0 l1]at hv;rw[d0,XL hv]
def Alg.firstOf (a:Alg):List Int->Brk
 | []=>Brk.none
 | l :: r=>if (a.first (a.casesOf l)).same Brk.none=true then a.firstOf r else a.first (a.casesOf l)
theorem lH {a:Alg}{l:Int}{r:List Int}(h:a.first (a.casesOf l)=Brk.none):a.firstOf (l :: r)=a.firstOf r:=by
 simp only[Alg.firstOf];rw[if_pos (Brk.same_iff.2 h)]
theorem EF {a:Alg}{l:Int}{r:List Int}(h:a.first (a.casesOf l)≠Brk.none):a.firstOf (l :: r)=a.first (a.casesOf l):=by
 simp only[Alg.firstOf];rw[if_neg (fun e=>h (Brk.same_iff.1 e))]
theorem bE {a:Alg}{xs ys:List Int}(h:∀l∈xs,a.first (a.casesOf l)=Brk.none):a.firstOf (xs ++ ys)=a.firstOf ys:=by
 induction xs with
 | nil=>rfl
 | cons x xs ih =>
  rw[List.cons_append,lH (h x (by simp)),ih (fun l hl=>h l (by simp[hl]))]
theorem UJ {a:Alg}{ls:List Int}{k:Nat}(hk:k<ls.length)(h:∀i,(hi:i<k)->a.first (a.casesOf (ls[i]'(by omega)))=Brk.none)(hn:a.first (a.casesOf ls[k])≠Brk.none):a.firstOf ls=a.first (a.casesOf ls[k]):=by
 have hs:ls.take k ++ (ls[k] :: ls.drop (k+1))=ls:=by rw[<-List.drop_eq_getElem_cons hk,List.take_append_drop]
 have h1:=bE (a:=a) (xs:=ls.take k) (ys:=ls[k] :: ls.drop (k+1)) (fun l hl=>by
  obtain⟨i,hi,rfl⟩:=List.mem_iff_getElem.1 hl;simp at hi;simp only[List.getElem_take];exact h i (by omega))
 rw[hs]at h1;rw[h1];exact EF hn
theorem FH {a:Alg}{ls:List Int}(h:∀i,(hi:i<ls.length)->a.first (a.casesOf ls[i])=Brk.none):a.firstOf ls=Brk.none:=by
 have:=bE (a:=a) (xs:=ls) (ys:=[]) (fun l hl=>by
  obtain⟨i,hi,rfl⟩:=List.mem_iff_getElem.1 hl;exact h i hi)
 simpa [Alg.firstOf] using this
theorem TI (a:xA)(bl:Nat)(n:Nat)(w:World)(h:a.In w.heap.size w)(hc:a.alg.check≠0):
 Calls Tryz.prog 89 #[a.val,.slice (some ⟨bl,0,none⟩) n n] w fun e w'=>e=.returned (.tuple #[Brk.none.val,.int .i64 a.alg.check])/\Below w.heap.size w w':=by
 have g0:=fun W (hI:a.In w.heap.size W) (hn:w.heap.size<=W.heap.size)=>BL a w.heap.size W hI hn;generalize a.alg.check=ck at *;have:((ck:Int) != 0)=true:=by simpa using hc
 have HC:=hide g0;clear g0 hc;have h0:Below w.heap.size w ((w.alloc (.cells #[.int .i64 a.size,a.B.val,a.E.val] 24)).alloc (.cells #[.int .i64 0,.int .i64 0,.int .i64 0,.int .i64 0,.int .i64 0] 98)) :=
  ((Below.refl _ w).alloc lR _).alloc (by simp) _
 have bR:=Blk.new (w.alloc (.cells #[.int .i64 a.size,a.B.val,a.E.val] 24)) #[.int .i64 0,.int .i64 0,.int .i64 0,.int .i64 0,.int .i64 0] 98;simp only[World.size_alloc]at bR;have hI:=h.below h0 lR;simp only[xA.val];go_enter Tryz.func89,Tryz.ntmps89;go_wp2_with fail;go_at_call 124;refine(HC.out _ hI (by simp;omega)).mono ?_;rintro e w1 ⟨rfl,i0⟩;have d0:=bR.below i0 (by simp);have j0:=d0.cell 0;have k0:=d0.cell 1;have m0:=d0.cell 2;have o0:=d0.cell 3;have p0:=d0.cell 4;have:=d0.frozen;simp at j0 k0 m0 o0 p0;go_wp2;have f0:=d0.set5 (.int .i64 0) (.int .i64 0) (.int .i64 0) (.int .i64 0) (.int .i64 0);have e0:=f0.cell 0;have e1:=f0.cell 1;have e2:=f0.cell 2;have e3:=f0.cell 3;have e4:=f0.cell 4;unfold YtjhkadffaephmacGreat.set5 at e0 e1 e2 e3 e4;simp at e0 e1 e2 e3 e4;refine bodyPost_ret (v:=.tuple #[Brk.none.val,.int .i64 ck]) (by simp[results,Tryz.results89,go_sem,e0,e1,e2,e3,e4,Brk.val,Brk.none]) rfl ⟨rfl,?_⟩;exact LF (h0.trans (i0.mono (by simp;omega))) (by omega) _ _ _ _ _
theorem YQ {a:Alg}{l:Int}(h:a.first (a.casesOf l)≠Brk.none):(a.first (a.casesOf l)).law=l:=by
 unfold Alg.first at h |-;cases hf:(a.casesOf l).find? (fun b=>!a.holds b) with
 | none=>rw[hf]at h;exact absurd rfl h
 | some b =>
  have hm:=List.mem_of_find?_eq_some hf;exact(CF hm).1
theorem lI (a:xA)(g:a.alg.Good)(ls:List Int)(hls:∀l∈ls,1<=l/\l<=9)(hlen:ls.length<=100)(bl:Nat)(w:World)(h:a.In w.heap.size w)(hbl:bl<w.heap.size)
 (hcl:∀i,(hi:i<ls.length)->w.cell? ⟨bl,i,none⟩=some (.int .i64 ls[i])) :
 Calls Tryz.prog 89 #[a.val,.slice (some ⟨bl,0,none⟩) ls.length ls.length] w fun e w'=>e=.returned (.tuple #[(a.alg.firstOf ls).val,.int .i64 0])/\Below w.heap.size w w':=by
 have w0:=fun W (hI:a.In w.heap.size W) (hn:w.heap.size<=W.heap.size)=>BL a w.heap.size W hI hn;rw[g.check]at w0;have HC:=hide w0;have HL:=hide hcl;clear w0 hcl;have x0:Below w.heap.size w ((w.alloc (.cells #[.int .i64 a.size,a.B.val,a.E.val] 24)).alloc (.cells #[.int .i64 0,.int .i64 0,.int .i64 0,.int .i64 0,.int .i64 0] 98)) :=
  ((Below.refl _ w).alloc lR _).alloc (by simp) _
 have bA:=(Blk.new w #[.int .i64 a.size,a.B.val,a.E.val] 24).alloc (.cells #[.int .i64 0,.int .i64 0,.int .i64 0,.int .i64 0,.int .i64 0] 98);have bR:=Blk.new (w.alloc (.cells #[.int .i64 a.size,a.B.val,a.E.val] 24)) #[.int .i64 0,.int .i64 0,.int .i64 0,.int .i64 0,.int .i64 0] 98;simp only[World.size_alloc]at bR;have hI:=h.below x0 lR;simp only[xA.val];go_enter Tryz.func89,Tryz.ntmps89;go_wp2_with fail;go_at_call 124;refine(HC.out _ hI (by simp;omega)).mono ?_;rintro e w1 ⟨rfl,p0⟩;have J0:=bA.below p0 (by simp;omega);have K0:=bR.below p0 (by simp);have L0:=x0.trans (p0.mono (by simp;omega));have R0:=p0.size;simp only[World.size_alloc]at R0;clear p0 bA bR x0 hI HC;go_wp2_with fail;go_at_call 125;refine(NQ _).mono ?_;rintro e w2 ⟨rfl,hm,q0⟩;have M0:=J0.below q0 (by omega);have y0:=K0.below q0 (by omega);have N0:=L0.trans (q0.mono (by omega));have:=q0.size;have:w1.heap.size<w2.heap.size:=hm.lt;clear q0 J0 K0 L0;have HM:=hide hm;clear hm;go_wp2
 go_loopw [20] (fun i wr=>∃k:Nat,k<=ls.length/\i=.int .i64 k/\Hid (∀j,(hj:j<k)->(hj':j<ls.length)->a.alg.first (a.alg.casesOf ls[j])=Brk.none)/\Hid (Below w2.heap.size w2 wr)) (fun i _=>ls.length-(intOf i).toNat)
 case atStart=>exact⟨0,zL,rfl,hide (fun j hj=>absurd hj nZ),hide (Below.refl _ _)⟩
 case round =>
  obtain⟨k,hk,rfl,k0,HB⟩:=hrel;by_cases I0:k<ls.length
  ·have h0:=N0.trans (HB.out.mono (by omega));have m0:wr.cell? ⟨bl,k,none⟩=some (.int .i64 ls[k]):=(h0.cell (p:=⟨bl,k,none⟩) hbl).trans (HL.out k I0);obtain⟨l0,l1⟩:=hls _ (List.getElem_mem I0);have u0:=M0.below HB.out (by omega);have f0:=y0.below HB.out (by omega);have o0:=gM (GK HM.out HB.out (by omega)) l0 l1;have O0:=MP a g ls[k] l0 l1 wr ((h.below h0 lR).mono h0.size);have S0:wr.cell? ⟨w.heap.size,0,none⟩=some (.int .i64 a.size):=u0.cell 0;have T0:wr.cell? ⟨w.heap.size,1,none⟩=some a.B.val:=u0.cell 1;have U0:wr.cell? ⟨w.heap.size,2,none⟩=some a.E.val:=u0.cell 2;have z0:Hid (a.alg.first (a.alg.casesOf ls[k])≠Brk.none->a.alg.firstOf ls=a.alg.first (a.alg.casesOf ls[k])):=hide (fun hn=>UJ I0 (fun i hi=>k0.out i hi (by omega)) hn);have A0:Hid (a.alg.first (a.alg.casesOf ls[k])≠Brk.none->(a.alg.first (a.alg.casesOf ls[k])).law=ls[k]):=hide YQ;have B0:Hid (a.alg.first (a.alg.casesOf ls[k])=Brk.none->∀j,(hj:j<k+1)->(hj':j<ls.length)->a.alg.first (a.alg.casesOf ls[j])=Brk.none):=hide (fun he j hj hj'=>by
    by_cases e:j=k
    ·subst e;exact he
    ·exact k0.out j (by omega) hj')
   generalize a.alg.first (a.alg.casesOf ls[k])=fb at *;generalize ls[k]=l at *;have HK:=hide O0;clear O0;go_wp2_with fail;go_at_call 126;refine HK.out.mono ?_;rintro e w3 ⟨rfl,s0⟩;have i0:=f0.below s0 f0.lt;have V0:=s0.size;have W0:=hide (HB.out.trans (s0.mono HB.out.size));have C0:=i0.cell 0;have D0:=i0.cell 1;have E0:=i0.cell 2;have F0:=i0.cell 3;have G0:=i0.cell 4;have fR:=i0.frozen;simp at C0 D0 E0 F0 G0;have:w.heap.size+1<w3.heap.size:=i0.lt;have H0:=hide (h0.trans (s0.mono h0.size));clear HK f0 u0 S0 T0 U0 o0 m0 s0 h0 y0 M0;by_cases d0:fb=Brk.none
   ·subst d0;have X0:=hide (B0.out rfl);clear B0 A0 z0;simp only[Brk.val,Brk.none];go_wp2;go_roundw
    case rel=>exact⟨k+1,by omega,by go_num,X0,hide (W0.out.alloc (Nat.le_trans HB.out.size V0) _)⟩
    case measure=>simp[intOf];omega
   ·have j0:=hide (z0.out d0);have P0:=A0.out d0;clear B0 A0 z0 d0;obtain⟨fl,fa,v0,fc,fe⟩:=fb;simp only at P0;have:(fl == (0:Int))=false:=by rw[beq_eq_false_iff_ne];omega
    clear P0;simp only[Brk.val];go_wp2;have g0:=(i0.set5 (.int .i64 fl) (.int .i64 fa) (.int .i64 v0) (.int .i64 fc) (.int .i64 fe)).alloc (.cells #[.int .i64 fl,.int .i64 fa,.int .i64 v0,.int .i64 fc,.int .i64 fe] 98);have e0:=g0.cell 0;have e1:=g0.cell 1;have e2:=g0.cell 2;have e3:=g0.cell 3;have e4:=g0.cell 4;unfold YtjhkadffaephmacGreat.set5 at e0 e1 e2 e3 e4;simp at e0 e1 e2 e3 e4;refine bodyPost_ret (v:=.tuple #[Brk.val ⟨fl,fa,v0,fc,fe⟩,.int .i64 0]) (by simp[results,Tryz.results89,go_sem,e0,e1,e2,e3,e4,Brk.val]) rfl ⟨by rw[j0.out],?_⟩;have Q0:=LF H0.out (show w.heap.size<=w.heap.size+1 by omega) (.int .i64 fl) (.int .i64 fa) (.int .i64 v0) (.int .i64 fc) (.int .i64 fe);exact Q0.alloc Q0.size _
  ·have j0:=hide (FH (a:=a.alg) (ls:=ls) (fun i hi=>k0.out i (by omega) hi));have h0:=N0.trans (HB.out.mono (by omega));have f0:=y0.below HB.out (by omega);have C0:=f0.cell 0;have D0:=f0.cell 1;have E0:=f0.cell 2;have F0:=f0.cell 3;have G0:=f0.cell 4;have fR:=f0.frozen;simp at C0 D0 E0 F0 G0;go_wp2;have g0:=f0.set5 (.int .i64 0) (.int .i64 0) (.int .i64 0) (.int .i64 0) (.int .i64 0);have e0:=g0.cell 0;have e1:=g0.cell 1;have e2:=g0.cell 2;have e3:=g0.cell 3;have e4:=g0.cell 4;unfold YtjhkadffaephmacGreat.set5 at e0 e1 e2 e3 e4;simp at e0 e1 e2 e3 e4;refine bodyPost_ret (v:=.tuple #[Brk.none.val,.int .i64 0]) (by simp[results,Tryz.results89,go_sem,e0,e1,e2,e3,e4,Brk.val,Brk.none]) rfl ⟨by rw[j0.out],?_⟩;exact LF h0 (by omega) _ _ _ _ _
def Alg.tell (a:Alg) (ls:List Int):Brk:=if a.check=0 then a.firstOf ls else Brk.none
theorem UI (a:xA)(ls:List Int)(hls:∀l∈ls,1<=l/\l<=9)(hlen:ls.length<=100)(bl:Nat)(w:World)(h:a.In w.heap.size w)(hbl:bl<w.heap.size)
 (hcl:∀i,(hi:i<ls.length)->w.cell? ⟨bl,i,none⟩=some (.int .i64 ls[i])) :
 Calls Tryz.prog 89 #[a.val,.slice (some ⟨bl,0,none⟩) ls.length ls.length] w fun e w'=>e=.returned (.tuple #[(a.alg.tell ls).val,.int .i64 a.alg.check])/\Below w.heap.size w w':=by
 by_cases hc:a.alg.check=0
 ·have:=lI a (Alg.good_of_check hc) ls hls hlen bl w h hbl hcl;simp only[Alg.tell,hc,if_true];exact this
 ·have:=TI a bl ls.length w h hc;simp only[Alg.tell,hc,if_false];exact this
theorem RS (a:xA)(w:World)(h:a.In w.heap.size w):
 Calls Tryz.prog 61 #[a.val] w fun e w'=>e=.returned (.tuple #[(a.alg.tell [1,2,3,4,5,6,7]).val,.int .i64 a.alg.check])/\Below w.heap.size w w':=by
 have h0:Below w.heap.size w (((w.alloc (.cells #[.int .i64 a.size,a.B.val,a.E.val] 24)).alloc (.cells #[.int .i64 0,.int .i64 0,.int .i64 0,.int .i64 0,.int .i64 0] 98)).alloc (.cells #[.int .i64 1,.int .i64 2,.int .i64 3,.int .i64 4,.int .i64 5,.int .i64 6,.int .i64 7] 3)) :=
  (((Below.refl _ w).alloc lR _).alloc (by simp) _).alloc (by simp;omega) _
 have bR:=(Blk.new (w.alloc (.cells #[.int .i64 a.size,a.B.val,a.E.val] 24)) #[.int .i64 0,.int .i64 0,.int .i64 0,.int .i64 0,.int .i64 0] 98).alloc (.cells #[.int .i64 1,.int .i64 2,.int .i64 3,.int .i64 4,.int .i64 5,.int .i64 6,.int .i64 7] 3);have bL:=Blk.new ((w.alloc (.cells #[.int .i64 a.size,a.B.val,a.E.val] 24)).alloc (.cells #[.int .i64 0,.int .i64 0,.int .i64 0,.int .i64 0,.int .i64 0] 98)) #[.int .i64 1,.int .i64 2,.int .i64 3,.int .i64 4,.int .i64 5,.int .i64 6,.int .i64 7] 3;simp only[World.size_alloc]at bR bL;have d0:=UI a [1,2,3,4,5,6,7] (by decide) (by decide) (w.heap.size+1+1) _ ((h.below h0 lR).mono h0.size) bL.lt (fun i hi=>by
  rw[bL.cell i]
  match i,hi with
  | 0,_=>rfl
  | 1,_=>rfl
  | 2,_=>rfl
  | 3,_=>rfl
  | 4,_=>rfl
  | 5,_=>rfl
  | 6,_=>rfl)
 have HC:=hide d0;clear d0;generalize a.alg.check=ck at *;generalize a.alg.tell [1,2,3,4,5,6,7]=fb at *;simp only[xA.val];go_enter Tryz.func61,Tryz.ntmps61;go_wp2_with fail;go_at_call 89;refine HC.out.mono ?_;rintro e w3 ⟨rfl,j0⟩;have f0:=bR.below j0 bR.lt;have m0:=f0.cell 0;have o0:=f0.cell 1;have p0:=f0.cell 2;have q0:=f0.cell 3;have s0:=f0.cell 4;have:=f0.frozen;simp at m0 o0 p0 q0 s0;have i0:=hide (h0.trans (j0.mono h0.size));clear HC j0;obtain⟨fl,fa,k0,fc,fe⟩:=fb;simp only[Brk.val];go_wp2;have g0:=f0.set5 (.int .i64 fl) (.int .i64 fa) (.int .i64 k0) (.int .i64 fc) (.int .i64 fe);have e0:=g0.cell 0;have e1:=g0.cell 1;have e2:=g0.cell 2;have e3:=g0.cell 3;have e4:=g0.cell 4;unfold YtjhkadffaephmacGreat.set5 at e0 e1 e2 e3 e4;simp at e0 e1 e2 e3 e4;refine bodyPost_ret (v:=.tuple #[Brk.val ⟨fl,fa,k0,fc,fe⟩,.int .i64 ck]) (by simp[results,Tryz.results61,go_sem,e0,e1,e2,e3,e4,Brk.val]) rfl ⟨rfl,?_⟩;exact LF i0.out (show w.heap.size<=w.heap.size+1 by omega) _ _ _ _ _
def Alg.fitsB (a:Alg) (b:Brk):Bool :=
 (decide (0<=b.a) && decide (b.a<QD a b.law)) && (decide (0<=b.b) && decide (b.b<PD a b.law)) && (decide (0<=b.c) && decide (b.c<OD a b.law)) && (decide (0<=b.e) && decide (b.e<rD a b.law))
theorem Alg.fits_of {a:Alg}{b:Brk}(l0:1<=b.law)(l1:b.law<=9)(h:a.fitsB b=true):a.Fits b:=by
 simp only[Alg.fitsB,Bool.and_eq_true,decide_eq_true_eq]at h;obtain⟨⟨⟨⟨h1,h2⟩,h3,h4⟩,h5,h6⟩,h7,h8⟩:=h;exact⟨l0,l1,h1,h2,h3,h4,h5,h6,h7,h8⟩
def Alg.holdsE (a:Alg) (b:Brk):Int:=if a.check≠0 then a.check else if b.law<1\/9<b.law then 7 else if a.fitsB b=false then 3 else 0
theorem jO (w:World):Below w.heap.size w w.drew:=⟨rfl,rfl,rfl,lR,fun _ _=>rfl⟩
theorem GR (w:World)(o:Obj):Below w.heap.size w (w.alloc o).drew:=((Below.refl _ w).alloc lR _).trans ⟨rfl,rfl,rfl,lR,fun _ _=>rfl⟩
theorem Blk.set2 {W:World}{B:Nat}{t:TypeId}{u0 u1:Value}(h:Blk W B #[u0,u1] t)(v0 v1:Value):Blk ((W.setCell ⟨B,0,none⟩ v0).setCell ⟨B,1,none⟩ v1) B #[v0,v1] t:=by
 have:=(h.set 0 v0).set 1 v1;simpa using this
end Go.Proofs.YtjhkadffaephmacGreat
