import Derived.Test.YtjhkadffaephmacGreatRows
import Derived.WalkKit
import Derived.WalkSpells
import Derived.WalkLawsBesides
import Derived.Deep.QuietTactic
import Derived.BigQuiet
import Derived.Maps.OwnSet
import Derived.RangeFuncNested
import Derived.RangeFuncBound
import Derived.RangeFuncCalls
import Derived.RangeFuncLeaves
import Derived.Shelf.Abstract
import Derived.Shelf.RegionOpen
import Derived.OwnWalkIn
import Derived.TacticsInMore
import Derived.LoopNIn
import Derived.LoopIn
namespace Go.Proofs.YtjhkadffaephmacGreat
set_option maxHeartbeats 16000000
set_option maxRecDepth 100000
theorem lR {n:Nat}:n<=n:=Nat.le_refl _
theorem zL {n:Nat}:0<=n:=Nat.zero_le _
theorem nZ {n:Nat}:Not (n<0):=Nat.not_lt_zero _
theorem sX {α:Type} (l:List α) (i:Nat) (a:α):l.toArray.setIfInBounds i a=(l.set i a).toArray:=List.setIfInBounds_toArray ..
theorem sY {α:Type} (x:α) (l:List α) (a:α):(x::l).set 0 a=a::l:=rfl
theorem sU {α:Type} (x:α) (l:List α) (n:Nat) (a:α):(x::l).set (n+1) a=x::l.set n a:=rfl
structure Tab where
 len:Nat
 L:Nat->Nat
 Z:Nat->Nat->Int
structure Alg where
 size:Int
 B:Tab
 E:Tab
structure Brk where
 law:Int
 a:Int
 b:Int
 c:Int
 e:Int
def Brk.same (x y:Brk):Bool:=x.law == y.law && x.a == y.a && x.b == y.b && x.c == y.c && x.e == y.e
theorem Brk.same_iff {x y:Brk}:x.same y=true↔x=y:=by
 obtain⟨x1,x2,x3,x4,x5⟩:=x;obtain⟨y1,y2,y3,y4,y5⟩:=y;simp[Brk.same,and_assoc]
def Tab.wide (t:Tab) (s:Int):Bool:=(List.range t.len).all fun r=>(t.L r:Int) == s
def Tab.rowOk (t:Tab) (s:Int) (r:Nat):Bool:=(List.range (t.L r)).all fun c=>decide (0<=t.Z r c) && decide (t.Z r c<s)
def Tab.routes (t:Tab) (s:Int):Bool:=(List.range t.len).all fun r=>t.rowOk s r
def Alg.formOk (a:Alg):Bool:=((a.B.len:Int) == a.size) && a.B.wide a.size && a.E.wide a.size
def Alg.routesOk (a:Alg):Bool:=a.B.routes a.size && a.E.routes a.size
def Alg.check (a:Alg):Int :=
 if a.size<2\/24<a.size then 3 else if 8<a.E.len then 2 else if a.formOk=false then 1 else if a.routesOk=false then 5 else 0
theorem Tab.wide_iff (t:Tab)(s:Int):t.wide s=true↔∀r,r<t.len->(t.L r:Int)=s:=by
 simp[Tab.wide]
theorem Tab.wide_false {t:Tab}{s:Int}{r:Nat}(h:r<t.len)(hn:(t.L r:Int)≠s):t.wide s=false:=by
 rw[Bool.eq_false_iff];intro hw;exact hn ((t.wide_iff s).1 hw r h)
theorem Tab.rowOk_iff (t:Tab)(s:Int)(r:Nat):t.rowOk s r=true↔∀c,c<t.L r->0<=t.Z r c/\t.Z r c<s:=by
 simp[Tab.rowOk]
theorem Tab.routes_iff (t:Tab)(s:Int):t.routes s=true↔∀r,r<t.len->∀c,c<t.L r->0<=t.Z r c/\t.Z r c<s:=by
 simp only[Tab.routes,List.all_eq_true,List.mem_range,Tab.rowOk_iff]
theorem Tab.routes_false {t:Tab}{s:Int}{r c:Nat}(h:r<t.len)(hc:c<t.L r)(hn:t.Z r c<0\/s<=t.Z r c):t.routes s=false:=by
 rw[Bool.eq_false_iff];intro hw;have:=(t.routes_iff s).1 hw r h c hc;omega
def Tab.get (t:Tab) (r s:Int):Int:=t.Z r.toNat s.toNat
structure Alg.Good (a:Alg):Prop where
 lo:2<=a.size
 hi:a.size<=24
 el:a.E.len<=8
 bl:(a.B.len:Int)=a.size
 bw:∀r,r<a.B.len->(a.B.L r:Int)=a.size
 ew:∀r,r<a.E.len->(a.E.L r:Int)=a.size
 bz:∀r,r<a.B.len->∀c,c<a.B.L r->0<=a.B.Z r c/\a.B.Z r c<a.size
 ez:∀r,r<a.E.len->∀c,c<a.E.L r->0<=a.E.Z r c/\a.E.Z r c<a.size
theorem Alg.good_of_check {a:Alg}(h:a.check=0):a.Good:=by
 unfold Alg.check at h;split at h
 ·cases h
 split at h
 ·cases h
 split at h
 ·cases h
 split at h
 ·cases h
 next h1 h2 h3 h4 =>
  have d0:a.formOk=true:=by cases e:a.formOk <;> simp_all
  have f0:a.routesOk=true:=by cases e:a.routesOk <;> simp_all
  simp only[Alg.formOk,Bool.and_eq_true,beq_iff_eq,Tab.wide_iff]at d0;simp only[Alg.routesOk,Bool.and_eq_true,Tab.routes_iff]at f0;exact⟨by omega,by omega,by omega,d0.1.1,d0.1.2,d0.2,f0.1,f0.2⟩
theorem Alg.Good.check {a:Alg}(g:a.Good):a.check=0:=by
 have h1:a.formOk=true:=by
  simp only[Alg.formOk,Bool.and_eq_true,beq_iff_eq,Tab.wide_iff];exact⟨⟨g.bl,g.bw⟩,g.ew⟩
 have h2:a.routesOk=true:=by
  simp only[Alg.routesOk,Bool.and_eq_true,Tab.routes_iff];exact⟨g.bz,g.ez⟩
 have:=g.lo;have:=g.hi;have:=g.el;unfold Alg.check;rw[if_neg (by omega),if_neg (by omega),h1,h2];rfl
theorem Alg.Good.best {a:Alg}(g:a.Good){r s:Int}(h0:0<=r)(h1:r<a.size)(h2:0<=s)(h3:s<a.size):0<=a.B.get r s/\a.B.get r s<a.size:=by
 have:=g.bl;have hr:r.toNat<a.B.len:=by omega
 have:=g.bw _ hr;exact g.bz _ hr _ (by omega)
theorem Alg.Good.edge {a:Alg}(g:a.Good){e s:Int}(h0:0<=e)(h1:e<a.E.len)(h2:0<=s)(h3:s<a.size):0<=a.E.get e s/\a.E.get e s<a.size:=by
 have hr:e.toNat<a.E.len:=by omega
 have:=g.ew _ hr;exact g.ez _ hr _ (by omega)
def Alg.holds (a:Alg) (x:Brk):Bool :=
 if x.law=1 then a.B.get x.a x.b == a.B.get x.b x.a
 else if x.law=2 then a.B.get x.a (a.B.get x.b x.c) == a.B.get (a.B.get x.a x.b) x.c
 else if x.law=3 then a.B.get x.a x.b == x.a || a.B.get x.a x.b == x.b
 else if x.law=4 then a.B.get 0 x.a == 0
 else if x.law=5 then a.B.get (a.size-1) x.a == x.a
 else if x.law=6 then a.E.get x.e (a.size-1) == a.size-1
 else if x.law=7 then a.B.get x.a (a.E.get x.e x.a) == x.a
 else if x.law=8 then x.a == a.size-1 || (a.B.get x.a (a.E.get x.e x.a) == x.a && a.E.get x.e x.a != x.a)
 else a.E.get x.e (a.B.get x.a x.b) == a.B.get (a.E.get x.e x.a) (a.E.get x.e x.b)
def IA (l:Int):Int:=if l=1\/l=3\/l=9 then 2 else if l=2 then 3 else if l=6 then 0 else 1
def mD (l:Int):Bool:=decide (6<=l)
def QD (a:Alg) (l:Int):Int:=if 0<IA l then a.size else 1
def PD (a:Alg) (l:Int):Int:=if 1<IA l then a.size else 1
def OD (a:Alg) (l:Int):Int:=if 2<IA l then a.size else 1
def rD (a:Alg) (l:Int):Int:=if mD l then a.E.len else 1
structure Alg.Fits (a:Alg) (x:Brk):Prop where
 l0:1<=x.law
 l1:x.law<=9
 a0:0<=x.a
 a1:x.a<QD a x.law
 b0:0<=x.b
 b1:x.b<PD a x.law
 c0:0<=x.c
 c1:x.c<OD a x.law
 e0:0<=x.e
 e1:x.e<rD a x.law
theorem Alg.Fits.a_lt {a:Alg}{x:Brk}(h:a.Fits x)(g:a.Good):x.a<a.size:=by
 have h1:=h.a1;have h2:=g.lo;unfold QD at h1;split at h1 <;> omega
theorem Alg.Fits.b_lt {a:Alg}{x:Brk}(h:a.Fits x)(g:a.Good):x.b<a.size:=by
 have h1:=h.b1;have h2:=g.lo;unfold PD at h1;split at h1 <;> omega
theorem Alg.Fits.c_lt {a:Alg}{x:Brk}(h:a.Fits x)(g:a.Good):x.c<a.size:=by
 have h1:=h.c1;have h2:=g.lo;unfold OD at h1;split at h1 <;> omega
theorem Alg.Fits.e_lt {a:Alg}{x:Brk}(h:a.Fits x)(h6:6<=x.law):x.e<a.E.len:=by
 have:=h.e1;unfold rD mD at this;simpa [h6] using this
def MC (l:Int) (x y z e:Nat):List Brk:=(List.range e).map fun (k:Nat)=>⟨l,x,y,z,k⟩
def VC (l:Int) (se:Nat) (x y z:Nat):List Brk:=(List.range z).flatMap fun k=>MC l x y k se
def bD (l:Int) (sc se:Nat) (x y:Nat):List Brk:=(List.range y).flatMap fun k=>VC l se x k sc
def VA (l:Int) (sb sc se:Nat) (x:Nat):List Brk:=(List.range x).flatMap fun k=>bD l sc se k sb
theorem KI (l:Int)(x y z e:Nat):MC l x y z (e+1)=MC l x y z e ++ [⟨l,x,y,z,e⟩]:=by
 simp[MC,List.range_succ]
theorem sG (l:Int)(se x y z:Nat):VC l se x y (z+1)=VC l se x y z ++ MC l x y z se:=by
 simp[VC,List.range_succ,List.flatMap_append]
theorem uG (l:Int)(sc se x y:Nat):bD l sc se x (y+1)=bD l sc se x y ++ VC l se x y sc:=by
 simp[bD,List.range_succ,List.flatMap_append]
theorem vG (l:Int)(sb sc se x:Nat):VA l sb sc se (x+1)=VA l sb sc se x ++ bD l sc se x sb:=by
 simp[VA,List.range_succ,List.flatMap_append]
theorem fG {f:Nat->List Brk}(h:∀k,f k <+: f (k+1)):∀ {a b:Nat},a<=b->f a <+: f b:=by
 intro a b d0
 induction b with
 | zero => obtain rfl : a = 0 := by omega
           exact List.prefix_refl _
 | succ b ih =>
  by_cases e:a=b+1
  ·subst e;exact List.prefix_refl _
  ·exact(ih (by omega)).trans (h b)
theorem EP (l:Int)(x y z:Nat){a b:Nat}(h:a<=b):MC l x y z a <+: MC l x y z b :=
 fG (fun k=>by rw[KI];exact List.prefix_append _ _) h
theorem FP (l:Int)(se x y:Nat){a b:Nat}(h:a<=b):VC l se x y a <+: VC l se x y b :=
 fG (fun k=>by rw[sG];exact List.prefix_append _ _) h
theorem IP (l:Int)(sc se x:Nat){a b:Nat}(h:a<=b):bD l sc se x a <+: bD l sc se x b :=
 fG (fun k=>by rw[uG];exact List.prefix_append _ _) h
theorem JP (l:Int)(sb sc se:Nat){a b:Nat}(h:a<=b):VA l sb sc se a <+: VA l sb sc se b :=
 fG (fun k=>by rw[vG];exact List.prefix_append _ _) h
def AB (l:Int) (sb sc se x y z e:Nat):List Brk:=VA l sb sc se x ++ (bD l sc se x y ++ (VC l se x y z ++ MC l x y z e))
theorem pE (l:Int)(sb sc se x y z e:Nat):AB l sb sc se x y z (e+1)=AB l sb sc se x y z e ++ [⟨l,x,y,z,e⟩]:=by
 simp[AB,KI]
theorem uR (l:Int)(sb sc se x y z:Nat):AB l sb sc se x y z se=AB l sb sc se x y (z+1) 0:=by
 simp[AB,sG,MC]
theorem vR (l:Int)(sb sc se x y:Nat):AB l sb sc se x y sc 0=AB l sb sc se x (y+1) 0 0:=by
 simp[AB,uG,MC,VC]
theorem wR (l:Int)(sb sc se x:Nat):AB l sb sc se x sb 0 0=AB l sb sc se (x+1) 0 0 0:=by
 simp[AB,vG,MC,VC,bD]
theorem yR (l:Int)(sb sc se:Nat):AB l sb sc se 0 0 0 0=[]:=by
 simp[AB,VA,MC,VC,bD]
theorem xR (l:Int)(sb sc se x:Nat):AB l sb sc se x 0 0 0=VA l sb sc se x:=by
 simp[AB,MC,VC,bD]
theorem rG (l:Int){sa sb sc se x y z e:Nat}(hx:x<sa)(hy:y<sb)(hz:z<sc)(he:e<=se):AB l sb sc se x y z e <+: VA l sb sc se sa:=by
 refine List.IsPrefix.trans ?_ (JP l sb sc se (show x+1<=sa from hx));rw[vG];unfold AB;refine(List.prefix_append_right_inj _).2 ?_;refine List.IsPrefix.trans ?_ (IP l sc se x (show y+1<=sb from hy));rw[uG];refine(List.prefix_append_right_inj _).2 ?_;refine List.IsPrefix.trans ?_ (FP l se x y (show z+1<=sc from hz));rw[sG];exact(List.prefix_append_right_inj _).2 (EP l x y z he)
theorem JI (l:Int){sa sb sc se x y z e:Nat}(hx:x<sa)(hy:y<sb)(hz:z<sc)(he:e<se):(⟨l,x,y,z,e⟩:Brk)∈VA l sb sc se sa:=by
 have h:=rG l hx hy hz (show e+1<=se from he);rw[pE]at h;exact h.subset (by simp)
theorem ZN (l:Int){sa sb sc se x y z e:Nat}(hx:x<sa)(hy:y<sb)(hz:z<sc)(he:e<se):(AB l sb sc se x y z e).length<(VA l sb sc se sa).length:=by
 have h:=(rG l hx hy hz (show e+1<=se from he)).length_le;rw[pE]at h;simp at h;omega
theorem CF {l:Int}{sa sb sc se:Nat}{b:Brk}(h:b∈VA l sb sc se sa):b.law=l/\(0<=b.a/\b.a<sa)/\(0<=b.b/\b.b<sb)/\(0<=b.c/\b.c<sc)/\(0<=b.e/\b.e<se):=by
 simp only[VA,bD,VC,MC,List.mem_flatMap,List.mem_map,List.mem_range]at h;obtain⟨x,hx,y,hy,z,hz,e,he,rfl⟩:=h;exact⟨rfl,by simp only;omega,by simp only;omega,by simp only;omega,by simp only;omega⟩
end Go.Proofs.YtjhkadffaephmacGreat

namespace Go.Proofs.YtjhkadffaephmacGreat
set_option maxHeartbeats 16000000
set_option maxRecDepth 100000
open Go.RowKit
theorem hide {p:Prop}(h:p):Hid p:=h
structure Mat where
 ga:Option Addr
 gb:Nat
 go:Nat
 cap:Nat
 A:Nat->Option Addr
 C:Nat->Nat
 RB:Nat->Nat
 RO:Nat->Nat
 t:Tab
def Mat.val (m:Mat):Value:=.slice m.ga m.t.len m.cap
structure Mat.In (m:Mat) (n:Nat) (w:World):Prop where
 ga:0<m.t.len->m.ga=some ⟨m.gb,m.go,none⟩
 gb:0<m.t.len->m.gb<n
 row:∀r,r<m.t.len->w.cell? ⟨m.gb,m.go+r,none⟩=some (.slice (m.A r) (m.t.L r) (m.C r))
 addr:∀r,r<m.t.len->0<m.t.L r->m.A r=some ⟨m.RB r,m.RO r,none⟩/\m.RB r<n
 cell:∀r,r<m.t.len->∀c,c<m.t.L r->w.cell? ⟨m.RB r,m.RO r+c,none⟩=some (.int .i64 (m.t.Z r c))
 len:m.t.len<=maxLen
 lens:∀r,r<m.t.len->m.t.L r<=maxLen
theorem Mat.In.below {m:Mat}{n k:Nat}{w w':World}(h:m.In n w)(hb:Below k w w')(hk:n<=k):m.In n w' where
 ga:=h.ga
 gb:=h.gb
 row:=fun r hr=>by rw[hb.cell (p:=⟨m.gb,m.go+r,none⟩) (Nat.lt_of_lt_of_le (h.gb (by omega)) hk)];exact h.row r hr
 addr:=h.addr
 cell:=fun r hr c hc=>by rw[hb.cell (p:=⟨m.RB r,m.RO r+c,none⟩) (Nat.lt_of_lt_of_le (h.addr r hr (by omega)).2 hk)];exact h.cell r hr c hc
 len:=h.len
 lens:=h.lens
theorem Mat.In.mono {m:Mat}{n k:Nat}{w:World}(h:m.In n w)(hk:n<=k):m.In k w where
 ga:=h.ga
 gb:=fun h0=>Nat.lt_of_lt_of_le (h.gb h0) hk
 row:=h.row
 addr:=fun r hr h0=>⟨(h.addr r hr h0).1,Nat.lt_of_lt_of_le (h.addr r hr h0).2 hk⟩
 cell:=h.cell
 len:=h.len
 lens:=h.lens
theorem jA (n l m:Int)(w:World):
 Calls Tryz.prog 52 #[.int .i64 n,.int .i64 l,.int .i64 m] w fun e w'=>e=.returned (.bool (decide (l<=n) && decide (n<=m)))/\w'=w:=by
 by_cases h:l<=n
 ·go_enter Tryz.func52,Tryz.ntmps52;go_wp2;go_ret;exact⟨by simp[h],rfl⟩
 ·go_enter Tryz.func52,Tryz.ntmps52;go_wp2;go_ret;exact⟨by simp;omega,rfl⟩
theorem MI (m:Mat)(s:Int)(n:Nat)(w:World)(h:m.In n w):
 Calls Tryz.prog 141 #[m.val,.int .i64 s] w fun e w'=>e=.returned (.bool (m.t.wide s))/\w'=w:=by
 have g0:=h.len;unfold maxLen at g0;unfold Mat.val;go_enter Tryz.func141,Tryz.ntmps141;go_wp2
 go_loop [6,9] (fun _ i=>∃k:Nat,k<=m.t.len/\i=.int .i64 k/\∀r,r<k->(m.t.L r:Int)=s) (fun _ i=>m.t.len-(intOf i).toNat)
 case atStart=>exact⟨0,zL,rfl,fun r hr=>absurd hr nZ⟩
 case round =>
  obtain⟨k,hk,rfl,d0⟩:=hrel;by_cases i0:k<m.t.len
  ·have:=h.ga (by omega);have:=h.row k i0;have f0:=h.lens k i0;unfold maxLen at f0;by_cases he:(m.t.L k:Int)=s
   ·have j0:((m.t.L k:Int) != s)=false:=by simp[he]
    have h0:=hide d0;have He:=hide he;clear d0 he;go_wp2
    go_round
    case rel=>exact⟨k+1,by omega,by go_num,fun r hr=>by
     by_cases e:r=k
     ·subst e;exact He.out
     ·exact h0.out r (by omega)⟩
    case measure=>simp[intOf];omega
   ·have j0:((m.t.L k:Int) != s)=true:=by simp[he]
    have hw:=Tab.wide_false i0 he;have Hw:=hide hw;clear d0 he hw;go_wp2;go_ret;exact⟨by rw[Hw.out];rfl,rfl⟩
  ·have hw:m.t.wide s=true:=(m.t.wide_iff s).2 (fun r hr=>d0 r (by omega));have Hw:=hide hw;clear d0 hw;go_wp2;go_ret;exact⟨by rw[Hw.out];rfl,rfl⟩
theorem YG (m:Mat)(s:Int)(n:Nat)(w:World)(h:m.In n w):
 Calls Tryz.prog 142 #[m.val,.int .i64 s] w fun e w'=>e=.returned (.bool (m.t.routes s))/\w'=w:=by
 have i0:=h.len;unfold maxLen at i0;unfold Mat.val;go_enter Tryz.func142,Tryz.ntmps142;go_wp2
 go_loop [6,8,11] (fun _ _ i=>∃k:Nat,k<=m.t.len/\i=.int .i64 k/\Hid (∀r,r<k->∀c,c<m.t.L r->0<=m.t.Z r c/\m.t.Z r c<s)) (fun _ _ i=>m.t.len-(intOf i).toNat)
 case atStart=>exact⟨0,zL,rfl,hide fun r hr=>absurd hr nZ⟩
 case round =>
  obtain⟨k,hk,rfl,g0⟩:=hrel;by_cases d0:k<m.t.len
  ·have:=h.ga (by omega);have:=h.row k d0;have f0:=h.lens k d0;unfold maxLen at f0;go_wp2
   go_loop [8,17] (fun _ j=>∃c:Nat,c<=m.t.L k/\j=.int .i64 c/\Hid (∀c',c'<c->0<=m.t.Z k c'/\m.t.Z k c'<s)) (fun _ j=>m.t.L k-(intOf j).toNat)
   case atStart=>exact⟨0,zL,rfl,hide fun r hr=>absurd hr nZ⟩
   case round =>
    obtain⟨c,hc,rfl,h0⟩:=hrel;by_cases k0:c<m.t.L k
    ·have:=(h.addr k d0 (by omega)).1;have:=h.cell k d0 c k0;by_cases m0:m.t.Z k c<0
     ·have hw:=hide (Tab.routes_false (s:=s) d0 k0 (Or.inl m0));go_wp2;go_ret;exact⟨by rw[hw.out];rfl,rfl⟩
     ·by_cases o0:s<=m.t.Z k c
      ·have hw:=hide (Tab.routes_false (s:=s) d0 k0 (Or.inr o0));go_wp2;go_ret;exact⟨by rw[hw.out];rfl,rfl⟩
      ·have h1:0<=m.t.Z k c:=by omega
       have h2:m.t.Z k c<s:=by omega
       go_wp2
       go_round
       case rel=>exact⟨c+1,by omega,by go_num,hide fun c' hc'=>by
        by_cases e:c'=c
        ·subst e;exact⟨h1,h2⟩
        ·exact h0.out c' (by omega)⟩
       case measure=>simp[intOf];omega
    ·go_wp2
     go_round
     case rel =>
      have j0:∀r,r<k+1->∀c,c<m.t.L r->0<=m.t.Z r c/\m.t.Z r c<s:=fun r hr=>by
       by_cases e:r=k
       ·subst e;exact fun c' hc'=>h0.out c' (by omega)
       ·exact g0.out r (by omega)
      exact⟨_,_,_,_,⟨k+1,by omega,by go_num,hide j0⟩,rfl,rfl,rfl,rfl⟩
     case measure=>simp[intOf];omega
  ·have hw:Hid (m.t.routes s=true):=hide ((m.t.routes_iff s).2 (fun r hr=>g0.out r (by omega)));go_wp2;go_ret;exact⟨by rw[hw.out];rfl,rfl⟩
structure xA where
 size:Int
 B:Mat
 E:Mat
def xA.val (a:xA):Value:=.agg #[.int .i64 a.size,a.B.val,a.E.val]
def xA.alg (a:xA):Alg:=⟨a.size,a.B.t,a.E.t⟩
structure xA.In (a:xA) (n:Nat) (w:World):Prop where
 B:a.B.In n w
 E:a.E.In n w
theorem xA.In.below {a:xA}{n k:Nat}{w w':World}(h:a.In n w)(hb:Below k w w')(hk:n<=k):a.In n w':=⟨h.B.below hb hk,h.E.below hb hk⟩
theorem xA.In.mono {a:xA}{n k:Nat}{w:World}(h:a.In n w)(hk:n<=k):a.In k w:=⟨h.B.mono hk,h.E.mono hk⟩
theorem zF {k:IntKind}{a b:Int}(h:a=b):Ending.returned (.int k a)=.returned (.int k b):=by rw[h]
theorem BL (a:xA)(n:Nat)(w:World)(h:a.In n w)(hn:n<=w.heap.size):
 Calls Tryz.prog 124 #[a.val] w fun e w'=>e=.returned (.int .i64 a.alg.check)/\Below w.heap.size w w':=by
 have f0:∀o,Below w.heap.size w (w.alloc o):=fun o=>(Below.refl _ _).alloc lR _;have hB:∀o,a.B.In n (w.alloc o):=fun o=>h.B.below (f0 o) hn;have hE:∀o,a.E.In n (w.alloc o):=fun o=>h.E.below (f0 o) hn;have i0:=h.E.len;have j0:=h.B.len;unfold maxLen at i0 j0;obtain⟨size,B,E⟩:=a;simp only[xA.val,xA.alg]at *;by_cases h1:size<2
 ·have d0:=hide (show Alg.check ⟨size,B.t,E.t⟩=3 by simp[Alg.check,h1]);simp only[Mat.val];go_enter Tryz.func124,Tryz.ntmps124;go_wp2;go_ret;exact⟨by rw[d0.out];rfl,f0 _⟩
 by_cases h2:24<size
 ·have d0:=hide (show Alg.check ⟨size,B.t,E.t⟩=3 by simp[Alg.check,h2]);simp only[Mat.val];go_enter Tryz.func124,Tryz.ntmps124;go_wp2;go_ret;exact⟨by rw[d0.out];rfl,f0 _⟩
 by_cases h3:8<E.t.len
 ·have d0:=hide (show Alg.check ⟨size,B.t,E.t⟩=2 by simp[Alg.check,h1,h2,h3]);have k0:(8:Int)<(E.t.len:Int):=by omega
  simp only[Mat.val];go_enter Tryz.func124,Tryz.ntmps124;go_wp2;go_ret;exact⟨by rw[d0.out];rfl,f0 _⟩
 have k0:(E.t.len:Int)<=8:=by omega
 have h0:Alg.check ⟨size,B.t,E.t⟩=if (((B.t.len:Int) == size) && B.t.wide size && E.t.wide size)=false then 1 else if (B.t.routes size && E.t.routes size)=false then 5 else 0:=by
  simp[Alg.check,Alg.formOk,Alg.routesOk,h1,h2,h3]
 have g0:=hide h0;clear h0;by_cases h4:(B.t.len:Int)=size
 ·have m0:((B.t.len:Int) != size)=false:=by simp[h4]
  have H4:=hide h4;clear h4;simp only[Mat.val];go_enter Tryz.func124,Tryz.ntmps124;go_wp2_with fail;go_at_call 141;refine(MI B size n _ (hB _)).mono ?_;rintro e w' ⟨rfl,rfl⟩;cases hw1:B.t.wide size
  ·have d0:=hide (show Alg.check ⟨size,B.t,E.t⟩=1 by rw[g0.out];simp[hw1]);go_wp2;go_ret;exact⟨by rw[d0.out];rfl,f0 _⟩
  go_wp2_with fail;go_at_call 141;refine(MI E size n _ (hE _)).mono ?_;rintro e w' ⟨rfl,rfl⟩;cases hw2:E.t.wide size
  ·have d0:=hide (show Alg.check ⟨size,B.t,E.t⟩=1 by rw[g0.out];simp[hw2]);go_wp2;go_ret;exact⟨by rw[d0.out];rfl,f0 _⟩
  go_wp2_with fail;go_at_call 142;refine(YG B size n _ (hB _)).mono ?_;rintro e w' ⟨rfl,rfl⟩;cases hw3:B.t.routes size
  ·have d0:=hide (show Alg.check ⟨size,B.t,E.t⟩=5 by rw[g0.out];simp[hw1,hw2,hw3,H4.out]);go_wp2;go_ret;exact⟨by rw[d0.out];rfl,f0 _⟩
  go_wp2_with fail;go_at_call 142;refine(YG E size n _ (hE _)).mono ?_;rintro e w' ⟨rfl,rfl⟩;cases hw4:E.t.routes size
  ·have d0:=hide (show Alg.check ⟨size,B.t,E.t⟩=5 by rw[g0.out];simp[hw1,hw2,hw4,H4.out]);go_wp2;go_ret;exact⟨by rw[d0.out];rfl,f0 _⟩
  have d0:=hide (show Alg.check ⟨size,B.t,E.t⟩=0 by rw[g0.out];simp[hw1,hw2,hw3,hw4,H4.out]);go_wp2;go_ret;exact⟨by rw[d0.out];rfl,f0 _⟩
 ·have d0:=hide (show Alg.check ⟨size,B.t,E.t⟩=1 by rw[g0.out];simp[h4]);have m0:((B.t.len:Int) != size)=true:=by simp[h4]
  clear g0;simp only[Mat.val];go_enter Tryz.func124,Tryz.ntmps124;go_wp2;go_ret;exact⟨by rw[d0.out];rfl,f0 _⟩
def Brk.val (x:Brk):Value:=.agg #[.int .i64 x.law,.int .i64 x.a,.int .i64 x.b,.int .i64 x.c,.int .i64 x.e]
theorem gD (a:xA)(g:a.alg.Good)(bA:Nat)(r s:Int)(n:Nat)(w:World)(h:a.In n w)(hc:w.cell? ⟨bA,1,none⟩=some a.B.val)
 (h0:0<=r) (h1:r<a.size) (h2:0<=s) (h3:s<a.size) :
 Calls Tryz.prog 152 #[.int .i64 r,.int .i64 s,.pointer (some ⟨bA,0,none⟩)] w fun e w'=>e=.returned (.int .i64 (a.alg.B.get r s))/\w'=w:=by
 obtain⟨r,rfl⟩:=Int.eq_ofNat_of_zero_le h0;obtain⟨s,rfl⟩:=Int.eq_ofNat_of_zero_le h2;have j0:(a.B.t.len:Int)=a.size:=g.bl;have d0:r<a.B.t.len:=by omega
 have hL:(a.B.t.L r:Int)=a.size:=g.bw r d0;have i0:=h.B.ga (by omega);have f0:=h.B.row r d0;have hA:=(h.B.addr r d0 (by omega)).1;have:=h.B.cell r d0 s (by omega);have:(r:Int)<(a.B.t.len:Int):=by omega
 have:(s:Int)<(a.B.t.L r:Int):=by omega
 rw[hA]at f0;rw[Mat.val,i0]at hc;have g0:=hide (show a.alg.B.get (r:Int) (s:Int)=a.B.t.Z r s from rfl);clear j0 hL i0 hA g h;go_enter Tryz.func152,Tryz.ntmps152;go_wp2;go_ret;exact⟨by rw[g0.out];rfl,rfl⟩
theorem edge_any (a:xA)(g:a.alg.Good)(bA bX:Nat)(x s:Int)(n:Nat)(w:World)(h:a.In n w)(hc:w.cell? ⟨bA,2,none⟩=some a.E.val)(hx:w.cell? ⟨bX,4,none⟩=some (.int .i64 x))
 (h0:0<=x) (h1:x<a.E.t.len) (h2:0<=s) (h3:s<a.size) :
 Calls Tryz.prog 153 #[.int .i64 s,.pointer (some ⟨bA,0,none⟩),.pointer (some ⟨bX,0,none⟩)] w fun e w'=>e=.returned (.int .i64 (a.alg.E.get x s))/\w'=w:=by
 obtain⟨r,rfl⟩:=Int.eq_ofNat_of_zero_le h0;obtain⟨s,rfl⟩:=Int.eq_ofNat_of_zero_le h2;have d0:r<a.E.t.len:=by omega
 have hL:(a.E.t.L r:Int)=a.size:=g.ew r d0;have i0:=h.E.ga (by omega);have f0:=h.E.row r d0;have hA:=(h.E.addr r d0 (by omega)).1;have:=h.E.cell r d0 s (by omega);have:(s:Int)<(a.E.t.L r:Int):=by omega
 rw[hA]at f0;rw[Mat.val,i0]at hc;have g0:=hide (show a.alg.E.get (r:Int) (s:Int)=a.E.t.Z r s from rfl);clear hL i0 hA g h;go_enter Tryz.func153,Tryz.ntmps153;go_wp2;go_ret;exact⟨by rw[g0.out];rfl,rfl⟩
theorem GA (w:World)(o1 o2:Obj)(k:Nat):Below w.heap.size w (((w.alloc o1).alloc o2).drewN k) :=
 below_drewN (((Below.refl _ _).alloc lR _).alloc (by simp) _) k
theorem bC {a:xA}{n:Nat}{w:World}(h:a.In n w)(hn:n<=w.heap.size)(o1 o2:Obj)(k:Nat):a.In n (((w.alloc o1).alloc o2).drewN k) :=
 h.below (GA w o1 o2 k) hn
theorem iC (w:World)(v0 v1 v2:Value)(t:TypeId)(o2:Obj)(k:Nat):
 (((w.alloc (.cells #[v0,v1,v2] t)).alloc o2).drewN k).cell? ⟨w.heap.size,1,none⟩=some v1:=by
 go_simp
theorem VD (w:World)(v0 v1 v2:Value)(t:TypeId)(o2:Obj)(k:Nat):
 (((w.alloc (.cells #[v0,v1,v2] t)).alloc o2).drewN k).cell? ⟨w.heap.size,2,none⟩=some v2:=by
 go_simp
theorem JE (w:World)(v0 v1 v2 v3 v4:Value)(t:TypeId)(o1:Obj)(k:Nat):
 (((w.alloc o1).alloc (.cells #[v0,v1,v2,v3,v4] t)).drewN k).cell? ⟨w.heap.size+1,4,none⟩=some v4:=by
 go_simp
theorem iU (a:xA)(g:a.alg.Good)(x:Brk)(f:a.alg.Fits x)(n:Nat)(w:World)(h:a.In n w)(hn:n<=w.heap.size)(hl:x.law=1):
 Calls Tryz.prog 145 #[a.val,x.val] w fun e w'=>e=.returned (.bool (a.alg.holds x))/\Below w.heap.size w w':=by
 have:=g.lo;have:=g.hi;have a0:=f.a0;have a1:=f.a_lt g;have b0:=f.b0;have b1:=f.b_lt g;have d0:=hide (show a.alg.holds x=(a.alg.B.get x.a x.b == a.alg.B.get x.b x.a) by simp[Alg.holds,hl]);obtain⟨l,xa,xb,xc,xe⟩:=x;simp only at hl a0 a1 b0 b1 d0;subst hl;simp only[xA.val,Brk.val];go_enter Tryz.func145,Tryz.ntmps145;go_wp2
 go_quiet ((go_at_call 152;exact Calls.quiet_of_same (gD a g w.heap.size _ _ n _ (bC h hn _ _ _) (iC _ _ _ _ _ _ _) (by first | omega | assumption) (by first | omega | assumption) (by first | omega | assumption) (by first | omega | assumption))))
 go_wp2;go_ret;exact⟨by rw[d0.out];rfl,GA w _ _ _⟩
def IE (r e:Int):DataW Unit:=.agg [.lit (.int .i64 r),.lit (.int .i64 e)]
def TD:Value->Option (DataW Unit×List MemPlace)
 | .agg cs=>match cs.toList with
  | [.int .i64 r,.int .i64 e]=>some (IE r e,[])
  | _=>none
 | _=>none
theorem fC (r e:Int):TD (.agg #[.int .i64 r,.int .i64 e])=some (IE r e,[]):=rfl
theorem XL {v:Value}{r e:Int}{ps:List MemPlace}(h:TD v=some (IE r e,ps)):v=.agg #[.int .i64 r,.int .i64 e]:=by
 unfold TD at h;split at h
 ·next cs =>
  split at h
  ·next r' e' hcs =>
   simp only[IE,Option.some.injEq,Prod.mk.injEq,DataW.agg.injEq,List.cons.injEq,DataW.lit.injEq,Lit.int.injEq,true_and,and_true]at h;obtain⟨⟨rfl,rfl⟩,_⟩:=h;rw[<-Array.toArray_toList (xs:=cs),hcs]
  ·cases h
 ·cases h
def MS:DataW Unit :=
 (((((((((DataW.map []).put (.int .i64 1) (IE 2 0)).put (.int .i64 2) (IE 3 0)).put (.int .i64 3) (IE 2 0)).put (.int .i64 4) (IE 1 0)).put (.int .i64 5) (IE 1 0)).put (.int .i64 6) (IE 0 1)).put (.int .i64 7) (IE 1 1)).put (.int .i64 8) (IE 1 1)).put (.int .i64 9) (IE 2 1)
def LD (l:Int):Int:=if 6<=l then 1 else 0
theorem OQ (l:Int)(h0:1<=l)(h1:l<=9):MS.atKey (.int .i64 l) (IE 0 0)=IE (IA l) (LD l):=by
 have hc:l=1\/l=2\/l=3\/l=4\/l=5\/l=6\/l=7\/l=8\/l=9:=by omega
 rcases hc with rfl | rfl | rfl | rfl | rfl | rfl | rfl | rfl | rfl <;> rfl
theorem IK:Maps.Keyed Tryz.prog 3:=Maps.int_keyed Tryz.underlying3
theorem zeroE (w:World):(zeroValue 155).run Tryz.prog w=.ok (.agg #[.int .i64 0,.int .i64 0]) w:=by kernel_rfl
def World.namesAt (w:World) (b:Nat):Prop:=w.ownsMap Tryz.prog 3 TD b 9 MS
theorem WA {P:Program}(w:World){ops:Array Oper}{rest:List Oper}{o:Oper}{a:Act}{Q:Exit->Act->World->Prop}
 (hg:o.guard=none) (m x v:Operand) (t:TypeId) (hop:o.op=Op.insert t m x v)
 (k e:TypeId) (K:Maps.Keyed P k) (ht:P.underlying t=some (.map k e)) (b n:Nat) (D:DataW Unit)
 (hm:a.eval m=.map (some b)) (hown:w.ownsMap P k TD b n D) (hn:n<maxLen) (key val:Value) (kl:Lit) (hx:a.eval x=key) (hv:a.eval v=val) (hkey:keyOf P k key=some kl)
 (d:DataW Unit) (hval:TD val=some (d,[]))
 (hK:∀w',w'.ownsMap P k TD b (n+1) (D.put kl d)->w.grownBy w' (some b)->wpList P ops Q rest (a.put o.dst undef) w') :
 wpList P ops Q (o :: rest) a w:=by
 refine wpList_plain hg fun K' hK'=>?_;obtain⟨w',d0,r1,r2⟩:=hown.update K ht hn hkey hval;unfold Oper.wp;simp[execOp,hop,hm,hx,hv,d0,Result.andThen];exact hK' _ _ (hK w' r1 r2)
theorem jF {l:Int}(h:(Lit.int .i64 l).wf=true):keyOf Tryz.prog 3 (.int .i64 l)=some (.int .i64 l):=Maps.keyOf_int_mk Tryz.underlying3 h
theorem NQ (w:World):
 Calls Tryz.prog 125 #[] w fun e w'=>e=.returned (.map (some w.heap.size))/\World.namesAt w' w.heap.size/\Below w.heap.size w w':=by
 have:=@run_makeMap Tryz.prog;have o0:=World.ownsMap_made w Tryz.prog 3 TD;have:9<maxLen:=by unfold maxLen;omega
 have k1:=jF (l:=1) (by decide);have k2:=jF (l:=2) (by decide);have k3:=jF (l:=3) (by decide);have k4:=jF (l:=4) (by decide);have k5:=jF (l:=5) (by decide);have k6:=jF (l:=6) (by decide);have k7:=jF (l:=7) (by decide);have k8:=jF (l:=8) (by decide);have k9:=jF (l:=9) (by decide);go_enter Tryz.func125,Tryz.ntmps125;go_wp2_with (first
  | (refine WA _ rfl _ _ _ 151 rfl 3 155 IK Tryz.underlying151 w.heap.size 8 _ rfl o8 (by omega) _ _ _ rfl rfl k9 _ (fC _ _) ?_;intro w9 o9 g9)
  | (refine WA _ rfl _ _ _ 151 rfl 3 155 IK Tryz.underlying151 w.heap.size 7 _ rfl o7 (by omega) _ _ _ rfl rfl k8 _ (fC _ _) ?_;intro w8 o8 g8)
  | (refine WA _ rfl _ _ _ 151 rfl 3 155 IK Tryz.underlying151 w.heap.size 6 _ rfl o6 (by omega) _ _ _ rfl rfl k7 _ (fC _ _) ?_;intro w7 o7 g7)
  | (refine WA _ rfl _ _ _ 151 rfl 3 155 IK Tryz.underlying151 w.heap.size 5 _ rfl o5 (by omega) _ _ _ rfl rfl k6 _ (fC _ _) ?_;intro w6 o6 g6)
  | (refine WA _ rfl _ _ _ 151 rfl 3 155 IK Tryz.underlying151 w.heap.size 4 _ rfl o4 (by omega) _ _ _ rfl rfl k5 _ (fC _ _) ?_;intro w5 o5 g5)
  | (refine WA _ rfl _ _ _ 151 rfl 3 155 IK Tryz.underlying151 w.heap.size 3 _ rfl o3 (by omega) _ _ _ rfl rfl k4 _ (fC _ _) ?_;intro w4 o4 g4)
  | (refine WA _ rfl _ _ _ 151 rfl 3 155 IK Tryz.underlying151 w.heap.size 2 _ rfl o2 (by omega) _ _ _ rfl rfl k3 _ (fC _ _) ?_;intro w3 o3 g3)
  | (refine WA _ rfl _ _ _ 151 rfl 3 155 IK Tryz.underlying151 w.heap.size 1 _ rfl o1 (by omega) _ _ _ rfl rfl k2 _ (fC _ _) ?_;intro w2 o2 g2)
  | (refine WA _ rfl _ _ _ 151 rfl 3 155 IK Tryz.underlying151 w.heap.size 0 _ rfl o0 (by omega) _ _ _ rfl rfl k1 _ (fC _ _) ?_;intro w1 o1 g1))
 go_ret;have b0:Below w.heap.size w (w.alloc (.map #[] 0)):=(Below.refl _ _).alloc lR _;have st:∀ {W W':World},Below w.heap.size w W->W.grownBy W' (some w.heap.size)->Below w.heap.size w W':=fun hb hg=>hb.grown hg hb.size (fun j hj=>by cases hj;exact lR);exact⟨rfl,o9,st (st (st (st (st (st (st (st (st b0 g1) g2) g3) g4) g5) g6) g7) g8) g9⟩
def EG (x y z e:Int):Value:=.agg #[.int .i64 x,.int .i64 y,.int .i64 z,.int .i64 e]
theorem jS (a:xA)(r e:Int)(w:World)(hr:r=0\/r=1\/r=2\/r=3)(he:e=0\/e=1)(hE:a.E.t.len<=maxLen):
 Calls Tryz.prog 144 #[a.val,.agg #[.int .i64 r,.int .i64 e]] w fun en w' =>
  en=.returned (EG (if 0<r then a.size else 1) (if 1<r then a.size else 1) (if 2<r then a.size else 1) (if 0<e then a.E.t.len else 1))/\Below w.heap.size w w':=by
 unfold maxLen at hE;obtain⟨size,B,E⟩:=a;simp only[xA.val,Mat.val,EG];rcases hr with rfl | rfl | rfl | rfl <;> rcases he with rfl | rfl
 all_goals
  go_enter Tryz.func144,Tryz.ntmps144;go_wp2;refine bodyPost_ret (v:=.agg #[_,_,_,_]) (by simp[results,Tryz.results144,go_sem];exact⟨rfl,rfl,rfl,rfl⟩) rfl ⟨by simp,?_⟩;exact((((Below.refl _ _).alloc lR _).alloc (by simp) _).alloc (by simp;omega) _).alloc (by simp;omega) _
end Go.Proofs.YtjhkadffaephmacGreat

namespace Go.Proofs.YtjhkadffaephmacGreat
set_option maxHeartbeats 16000000
set_option maxRecDepth 100000
open Go.RowKit Go.Shelf
attribute [local go_sem] Oper.semAt_some
theorem zR (F:Fence)(n:Nat)(h64:F.fn 151)(hro:F.round=none)(_hn:1<=n)(lr bS bL n₀:Nat)(l:Int)(sa sb sc se:Nat)
 (hmax:sa<=100/\sb<=100/\sc<=100/\se<=100)
 (J Jx:List { b:Brk // b∈VA l sb sc se sa }->World->Prop)
 (hY:∀pre x W,J pre W->pre.length<(VA l sb sc se sa).length->YieldAt F (n-1) Tryz.prog lr #[x.1.val] W fun e W' =>
  (e=.returned (.bool true)/\J (pre ++ [x]) W'/\Below n₀ W W')\/(e=.returned (.bool false)/\Jx (pre ++ [x]) W'))
 (W:World) (hbS:bS<n₀) (hbL:bL<n₀) (hL:W.cell? ⟨bL,0,none⟩=some (.int .i64 l))
 (c0:W.cell? ⟨bS,0,none⟩=some (.int .i64 sa)) (c1:W.cell? ⟨bS,1,none⟩=some (.int .i64 sb)) (c2:W.cell? ⟨bS,2,none⟩=some (.int .i64 sc)) (c3:W.cell? ⟨bS,3,none⟩=some (.int .i64 se))
 (h0:J [] W) :
 CallsIn F n Tryz.prog 151 #[.func (.yield lr) #[] #[],.pointer (some ⟨bS,0,none⟩),.pointer (some ⟨bL,0,none⟩)] W fun e W'=>(∃v,e=.returned v) /\
  ((∃ys,ys.map (·.1)=VA l sb sc se sa/\J ys W')\/(∃pre,pre.map (·.1) <+: VA l sb sc se sa/\Jx pre W')):=by
 obtain⟨m0,m1,m2,m3⟩:=hmax;have HY:=hide hY;clear hY;refine callsIn_of_wp Tryz.func151 rfl h64 ?_ hro;simp only[Tryz.ntmps151,List.size_toArray,List.length_cons,List.length_nil,Nat.reduceAdd,Nat.reduceSub,Array.replicate_succ,Array.replicate_zero,List.push_toArray,List.append_toArray,List.nil_append,List.cons_append]
 gi_wp2
 gi_loopw [10] (fun c wr=>∃ (x:Nat) (pre:List { b:Brk // b∈VA l sb sc se sa }),x<=sa/\c=.int .i64 x/\Hid (pre.map (·.1)=AB l sb sc se x 0 0 0)/\Hid (Below n₀ W wr)/\J pre wr)
  (fun c _=>sa-(intOf c).toNat)
 case atStart=>exact⟨0,[],zL,rfl,hide (by rw[yR];rfl),hide (Below.refl _ _),h0⟩
 case round =>
  obtain⟨x,pre,hx,rfl,Hp,HB,hJ⟩:=hrel;by_cases k0:x<sa
  ·have d1:wr.cell? ⟨bS,1,none⟩=some (.int .i64 sb):=(HB.out.cell (p:=⟨bS,1,none⟩) hbS).trans c1
   gi_wp2
   gi_loopw [15] (fun c wr=>∃ (y:Nat) (pre:List { b:Brk // b∈VA l sb sc se sa }),y<=sb/\c=.int .i64 y/\Hid (pre.map (·.1)=AB l sb sc se x y 0 0)/\Hid (Below n₀ W wr)/\J pre wr)
    (fun c _=>sb-(intOf c).toNat)
   case atStart=>exact⟨0,pre,zL,rfl,Hp,HB,hJ⟩
   case round =>
    clear d1 hJ HB Hp pre;obtain⟨y,pre,hy,rfl,Hp,HB,hJ⟩:=hrel;by_cases o0:y<sb
    ·have d2:wr.cell? ⟨bS,2,none⟩=some (.int .i64 sc):=(HB.out.cell (p:=⟨bS,2,none⟩) hbS).trans c2
     gi_wp2
     gi_loopw [20] (fun c wr=>∃ (z:Nat) (pre:List { b:Brk // b∈VA l sb sc se sa }),z<=sc/\c=.int .i64 z/\Hid (pre.map (·.1)=AB l sb sc se x y z 0)/\Hid (Below n₀ W wr)/\J pre wr)
      (fun c _=>sc-(intOf c).toNat)
     case atStart=>exact⟨0,pre,zL,rfl,Hp,HB,hJ⟩
     case round =>
      clear d2 hJ HB Hp pre;obtain⟨z,pre,hz,rfl,Hp,HB,hJ⟩:=hrel;by_cases p0:z<sc
      ·have d3:wr.cell? ⟨bS,3,none⟩=some (.int .i64 se):=(HB.out.cell (p:=⟨bS,3,none⟩) hbS).trans c3
       gi_wp2
       gi_loopw [25] (fun c wr=>∃ (e:Nat) (pre:List { b:Brk // b∈VA l sb sc se sa }),e<=se/\c=.int .i64 e/\Hid (pre.map (·.1)=AB l sb sc se x y z e)/\Hid (Below n₀ W wr)/\J pre wr)
        (fun c _=>se-(intOf c).toNat)
       case atStart=>exact⟨0,pre,zL,rfl,Hp,HB,hJ⟩
       case round =>
        clear d3 hJ HB Hp pre;obtain⟨e,pre,he,rfl,Hp,HB,hJ⟩:=hrel;by_cases q0:e<se
        ·have d4:wr.cell? ⟨bL,0,none⟩=some (.int .i64 l):=(HB.out.cell (p:=⟨bL,0,none⟩) hbL).trans hL;have f0:pre.length<(VA l sb sc se sa).length:=by
          have:=ZN l k0 o0 p0 q0;rw[<-Hp.out,List.length_map]at this;exact this
         obtain⟨fn,w0,g0,body,i0,hR⟩:=HY.out pre ⟨⟨l,x,y,z,e⟩,JI l k0 o0 p0 q0⟩ wr hJ f0
         dsimp only[Brk.val]at i0
         have HR:=hide hR;clear hR f0
         gi_wp2
         refine HR.out.mono ?_;rintro en W3 (⟨rfl,x0,u0⟩ | ⟨rfl,j0⟩)
         ·have v0:=hide (HB.out.trans u0);clear u0 HR i0 d4
          gi_wp2
          go_roundw
          case rel=>exact⟨e+1,_,by omega,by go_num,hide (by rw[pE,<-Hp.out];simp),v0,x0⟩
          case measure=>simp[intOf];omega
         ·clear HR i0 d4
          gi_wp2
          refine bodyPost_ret (results_none rfl _ _ _) rfl ?_;refine⟨⟨_,rfl⟩,.inr ⟨_,?_,j0⟩⟩;have s0:=rG l k0 o0 p0 (show e+1<=se from q0);rw[pE,<-Hp.out]at s0;simpa using s0
        ·obtain rfl:e=se:=by omega
         have d0:=hide (Hp.out.trans (uR l sb sc e x y z))
         gi_wp2
         go_roundw
         case rel=>exact⟨z+1,pre,by omega,by go_num,d0,HB,hJ⟩
         case measure=>simp[intOf];omega
      ·obtain rfl:z=sc:=by omega
       have d0:=hide (Hp.out.trans (vR l sb z se x y))
       gi_wp2
       go_roundw
       case rel=>exact⟨y+1,pre,by omega,by go_num,d0,HB,hJ⟩
       case measure=>simp[intOf];omega
    ·obtain rfl:y=sb:=by omega
     have d0:=hide (Hp.out.trans (wR l y sc se x))
     gi_wp2
     go_roundw
     case rel=>exact⟨x+1,pre,by omega,by go_num,d0,HB,hJ⟩
     case measure=>simp[intOf];omega
  ·obtain rfl:x=sa:=by omega
   have d0:=hide (Hp.out.trans (xR l sb sc se x))
   gi_wp2
   go_end0;exact⟨⟨_,rfl⟩,.inl ⟨pre,d0.out,hJ⟩⟩
end Go.Proofs.YtjhkadffaephmacGreat

namespace Go.Proofs.YtjhkadffaephmacGreat
set_option maxHeartbeats 16000000
set_option maxRecDepth 100000
open Go.RowKit
theorem gU (a:xA)(g:a.alg.Good)(x:Brk)(f:a.alg.Fits x)(n:Nat)(w:World)(h:a.In n w)(hn:n<=w.heap.size)(hl:x.law=2):
 Calls Tryz.prog 145 #[a.val,x.val] w fun e w'=>e=.returned (.bool (a.alg.holds x))/\Below w.heap.size w w':=by
 have:2<=a.size:=g.lo;have:a.size<=24:=g.hi;have a0:=f.a0;have a1:x.a<a.size:=f.a_lt g;have b0:=f.b0;have b1:x.b<a.size:=f.b_lt g;have c0:=f.c0;have c1:x.c<a.size:=f.c_lt g;have d0:=hide (show a.alg.holds x=(a.alg.B.get x.a (a.alg.B.get x.b x.c) == a.alg.B.get (a.alg.B.get x.a x.b) x.c) by simp[Alg.holds,hl]);clear f;obtain⟨l,xa,xb,xc,xe⟩:=x;simp only at hl a0 a1 b0 b1 c0 c1 d0;subst hl;have:0<=a.alg.B.get xb xc/\a.alg.B.get xb xc<a.size:=g.best (by first | omega | assumption) (by first | omega | assumption) (by first | omega | assumption) (by first | omega | assumption);have:0<=a.alg.B.get xa xb/\a.alg.B.get xa xb<a.size:=g.best (by first | omega | assumption) (by first | omega | assumption) (by first | omega | assumption) (by first | omega | assumption);simp only[xA.val,Brk.val];go_enter Tryz.func145,Tryz.ntmps145;go_wp2
 go_quiet ((go_at_call 152;exact Calls.quiet_of_same (gD a g w.heap.size _ _ n _ (bC h hn _ _ _) (iC _ _ _ _ _ _ _) (by first | omega | assumption) (by first | omega | assumption) (by first | omega | assumption) (by first | omega | assumption))))
 go_wp2;go_ret;exact⟨by rw[d0.out];rfl,GA w _ _ _⟩
theorem YS (a:xA)(g:a.alg.Good)(x:Brk)(f:a.alg.Fits x)(n:Nat)(w:World)(h:a.In n w)(hn:n<=w.heap.size)(hl:x.law=3)(hg:(a.alg.B.get x.a x.b == x.a)=true):
 Calls Tryz.prog 145 #[a.val,x.val] w fun e w'=>e=.returned (.bool (a.alg.holds x))/\Below w.heap.size w w':=by
 have:2<=a.size:=g.lo;have:a.size<=24:=g.hi;have a0:=f.a0;have a1:x.a<a.size:=f.a_lt g;have b0:=f.b0;have b1:x.b<a.size:=f.b_lt g;have c0:=f.c0;have c1:x.c<a.size:=f.c_lt g;have d0:=hide (show a.alg.holds x=true by simp[Alg.holds,hl,hg]);clear f;obtain⟨l,xa,xb,xc,xe⟩:=x;simp only at hl a0 a1 b0 b1 c0 c1 d0 hg;subst hl;simp only[xA.val,Brk.val];go_enter Tryz.func145,Tryz.ntmps145;go_wp2
 go_quiet ((go_at_call 152;exact Calls.quiet_of_same (gD a g w.heap.size _ _ n _ (bC h hn _ _ _) (iC _ _ _ _ _ _ _) (by first | omega | assumption) (by first | omega | assumption) (by first | omega | assumption) (by first | omega | assumption))))
 go_wp2;go_ret;exact⟨by rw[d0.out];rfl,GA w _ _ _⟩
theorem aT (a:xA)(g:a.alg.Good)(x:Brk)(f:a.alg.Fits x)(n:Nat)(w:World)(h:a.In n w)(hn:n<=w.heap.size)(hl:x.law=3)(hg:(a.alg.B.get x.a x.b == x.a)=false):
 Calls Tryz.prog 145 #[a.val,x.val] w fun e w'=>e=.returned (.bool (a.alg.holds x))/\Below w.heap.size w w':=by
 have:2<=a.size:=g.lo;have:a.size<=24:=g.hi;have a0:=f.a0;have a1:x.a<a.size:=f.a_lt g;have b0:=f.b0;have b1:x.b<a.size:=f.b_lt g;have c0:=f.c0;have c1:x.c<a.size:=f.c_lt g;have d0:=hide (show a.alg.holds x=(a.alg.B.get x.a x.b == x.b) by simp[Alg.holds,hl,hg]);clear f;obtain⟨l,xa,xb,xc,xe⟩:=x;simp only at hl a0 a1 b0 b1 c0 c1 d0 hg;subst hl;simp only[xA.val,Brk.val];go_enter Tryz.func145,Tryz.ntmps145;go_wp2
 go_quiet ((go_at_call 152;exact Calls.quiet_of_same (gD a g w.heap.size _ _ n _ (bC h hn _ _ _) (iC _ _ _ _ _ _ _) (by first | omega | assumption) (by first | omega | assumption) (by first | omega | assumption) (by first | omega | assumption))))
 go_wp2;go_ret;exact⟨by rw[d0.out];rfl,GA w _ _ _⟩
theorem fU (a:xA)(g:a.alg.Good)(x:Brk)(f:a.alg.Fits x)(n:Nat)(w:World)(h:a.In n w)(hn:n<=w.heap.size)(hl:x.law=4):
 Calls Tryz.prog 145 #[a.val,x.val] w fun e w'=>e=.returned (.bool (a.alg.holds x))/\Below w.heap.size w w':=by
 have:2<=a.size:=g.lo;have:a.size<=24:=g.hi;have a0:=f.a0;have a1:x.a<a.size:=f.a_lt g;have b0:=f.b0;have b1:x.b<a.size:=f.b_lt g;have c0:=f.c0;have c1:x.c<a.size:=f.c_lt g;have d0:=hide (show a.alg.holds x=(a.alg.B.get 0 x.a == 0) by simp[Alg.holds,hl]);clear f;obtain⟨l,xa,xb,xc,xe⟩:=x;simp only at hl a0 a1 b0 b1 c0 c1 d0;subst hl;simp only[xA.val,Brk.val];go_enter Tryz.func145,Tryz.ntmps145;go_wp2_with fail;go_at_call 152;refine(gD a g w.heap.size _ _ n _ (bC h hn _ _ 0) (iC _ _ _ _ _ _ 0) (by first | omega | assumption) (by first | omega | assumption) (by first | omega | assumption) (by first | omega | assumption)).mono ?_;rintro e w' ⟨rfl,rfl⟩;go_wp2;go_ret;exact⟨by rw[d0.out];rfl,GA w _ _ 0⟩
end Go.Proofs.YtjhkadffaephmacGreat
