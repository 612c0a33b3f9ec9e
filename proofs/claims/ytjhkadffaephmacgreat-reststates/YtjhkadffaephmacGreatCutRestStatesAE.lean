import Derived.RegionTactic
import Derived.Test.YtjhkadffaephmacGreatCutRestStatesAD
namespace Go.Proofs.YtjhkadffaephmacGreat
set_option maxHeartbeats 16000000
set_option maxRecDepth 100000
structure FB where
 size:Nat
 best:Nat->Nat->Nat
 el:Nat
 edge:Nat->Nat->Nat
def FB.B (x:FB):Tab:=⟨x.size,fun _=>x.size,fun r c=>(x.best r c:Int)⟩
def FB.E (x:FB):Tab:=⟨x.el,fun _=>x.size,fun e a=>(x.edge e a:Int)⟩
def FB.alg (x:FB):Alg:=⟨x.size,x.B,x.E⟩
structure FB.Ok (x:FB):Prop where
 lo:3<=x.size
 hi:x.size<=24
 el:x.el<=8
 sel:∀a b,x.best a b=a\/x.best a b=b
 elt:∀e a,e<x.el->a<x.size->x.edge e a<x.size
theorem FB.Ok.blt {x:FB}(h:x.Ok){a b n:Nat}(ha:a<n)(hb:b<n):x.best a b<n:=by
 rcases h.sel a b with e | e <;> rw[e] <;> assumption
def mG (n:Nat) (en:Nat) (ev:Nat->Nat):FB:=⟨n+2,fun a b=>min a b,en,fun e a=>min (a+ev e) (n+1)⟩
def YF (n:Nat) (en:Nat) (ev:Nat->Nat):FB:=⟨n+2,fun a b=>min a b,en,fun e a=>max a (ev e)⟩
def YA (x y:FB) (a b:Nat):Nat :=
 if a=(x.size-1)*(y.size-1) then b else if b=(x.size-1)*(y.size-1) then a
 else if a / (y.size-1)=b / (y.size-1) then a / (y.size-1)*(y.size-1)+y.best (a % (y.size-1)) (b % (y.size-1))
 else if x.best (a / (y.size-1)) (b / (y.size-1))=a / (y.size-1) then a else b
def qB (x y:FB) (e a:Nat):Nat :=
 if a=(x.size-1)*(y.size-1) then (x.size-1)*(y.size-1)
 else if x.edge e (a / (y.size-1))=x.size-1\/y.edge e (a % (y.size-1))=y.size-1 then (x.size-1)*(y.size-1)
 else x.edge e (a / (y.size-1))*(y.size-1)+y.edge e (a % (y.size-1))
def yC (x y:FB):FB:=⟨(x.size-1)*(y.size-1)+1,YA x y,x.el,qB x y⟩
def KE (x:FB) (ev:Nat->Nat):FB:=⟨x.size,x.best,x.el,fun e a=>if (ev e).testBit a then x.size-1 else x.edge e a⟩
def yA.evN (h:yA) (i:Nat):Nat:=(h.ev i).toNat
def fA.built:fA->FB
 | .node none _=>⟨0,fun _ _=>0,0,fun _ _=>0⟩
 | .node (some h) sub=>if h.kind=3 then yC (sub rfl 0).built (sub rfl 1).built else if h.kind=4 then KE (sub rfl 0).built h.evN
  else if h.kind=2 then YF h.n.toNat h.en h.evN else mG h.n.toNat h.en h.evN
theorem mM {n en:Nat}{ev:Nat->Nat}(h1:1<=n)(h2:n<=22)(he:en<=8):(mG n en ev).Ok where
 lo:=by show 3<=n+2;omega
 hi:=by show n+2<=24;omega
 el:=he
 sel:=fun a b=>by show min a b=a\/min a b=b;omega
 elt:=fun e a _ _=>by show min (a+ev e) (n+1)<n+2;omega
theorem IL {n en:Nat}{ev:Nat->Nat}(h1:1<=n)(h2:n<=22)(he:en<=8)(hv:∀e,e<en->ev e<=n):(YF n en ev).Ok where
 lo:=by show 3<=n+2;omega
 hi:=by show n+2<=24;omega
 el:=he
 sel:=fun a b=>by show min a b=a\/min a b=b;omega
 elt:=fun e a h ha=>by
  have:=hv e h;have:a<n+2:=ha;show max a (ev e)<n+2;omega
theorem fP {x q s1 s2:Nat}(hx:x<=s1-1)(h1:1<=s1)(hq:q<s2):x*s2+q<s1*s2:=by
 have:(x+1)*s2<=s1*s2:=Nat.mul_le_mul_right _ (by omega);rw[Nat.succ_mul]at this;omega
theorem bQ {x y:FB}(hx:x.Ok)(hy:y.Ok)(he:x.el=y.el)(hs:(x.size-1)*(y.size-1)+1<=24):(yC x y).Ok where
 lo:=by
  have:=hx.lo;have:=hy.lo;have:2*2<=(x.size-1)*(y.size-1):=Nat.mul_le_mul (by omega) (by omega);show 3<=(x.size-1)*(y.size-1)+1;omega
 hi:=hs
 el:=hx.el
 sel:=fun a b=>by
  show YA x y a b=a\/YA x y a b=b;unfold YA;by_cases h1:a=(x.size-1)*(y.size-1)
  ·rw[if_pos h1];exact Or.inr rfl
  ·rw[if_neg h1];by_cases h2:b=(x.size-1)*(y.size-1)
   ·rw[if_pos h2];exact Or.inl rfl
   ·rw[if_neg h2];by_cases h3:a / (y.size-1)=b / (y.size-1)
    ·rw[if_pos h3];rcases hy.sel (a % (y.size-1)) (b % (y.size-1)) with e | e
     ·left;rw[e];exact Nat.div_add_mod' a _
     ·right;rw[e,h3];exact Nat.div_add_mod' b _
    ·rw[if_neg h3];by_cases h4:x.best (a / (y.size-1)) (b / (y.size-1))=a / (y.size-1)
     ·rw[if_pos h4];exact Or.inl rfl
     ·rw[if_neg h4];exact Or.inr rfl
 elt:=fun e a h ha=>by
  have:=hx.lo;have:=hy.lo;show qB x y e a<(x.size-1)*(y.size-1)+1;have:a<(x.size-1)*(y.size-1)+1:=ha;unfold qB;by_cases h1:a=(x.size-1)*(y.size-1)
  ·rw[if_pos h1];omega
  ·rw[if_neg h1];have:a / (y.size-1)<x.size-1:=by rw[Nat.div_lt_iff_lt_mul (by omega)];omega
   have:a % (y.size-1)<y.size-1:=Nat.mod_lt _ (by omega);have:=hx.elt e _ h (show a / (y.size-1)<x.size by omega);have:=hy.elt e _ (by rw[<-he];exact h) (show a % (y.size-1)<y.size by omega);split
   ·omega
   ·rename_i hn
    have:x.edge e (a / (y.size-1))≠x.size-1:=fun hh=>hn (Or.inl hh);have:y.edge e (a % (y.size-1))≠y.size-1:=fun hh=>hn (Or.inr hh);have:=fP (x:=x.edge e (a / (y.size-1))) (q:=y.edge e (a % (y.size-1))) (s1:=x.size-1) (s2:=y.size-1) (by omega) (by omega) (by omega);omega
theorem jU {x:FB}{ev:Nat->Nat}(hx:x.Ok):(KE x ev).Ok where
 lo:=hx.lo
 hi:=hx.hi
 el:=hx.el
 sel:=hx.sel
 elt:=fun e a h ha=>by
  show (if (ev e).testBit a then x.size-1 else x.edge e a)<x.size;have:=hx.lo;split
  ·omega
  ·exact hx.elt e a h ha
structure zT (h:yA):Prop where
 k:h.kind=1\/h.kind=2
 pn:h.pn=0
 n1:1<=h.n
 n2:h.n<=22
 ev:∀i,i<h.en->1<=h.ev i/\h.ev i<=h.n
structure NR (h:yA) (sub:Nat->fA):Prop where
 k:h.kind=3
 pn:h.pn=2
 n0:h.n=0
 en:h.en=0
 e0:(sub 0).err=0
 e1:(sub 1).err=0
 g:(sub 0).edges=(sub 1).edges
 s:((sub 0).size-1)*((sub 1).size-1)+1<=24
structure PR (h:yA) (sub:Nat->fA):Prop where
 k:h.kind=4
 pn:h.pn=1
 n0:h.n=0
 e0:(sub 0).err=0
 en:h.en=(sub 0).edges
 ev:∀i,i<h.en->0<=h.ev i/\h.ev i<=2 ^ (sub 0).size-1
def Right (h:yA) (sub:Nat->fA):Prop:=zT h\/NR h sub\/PR h sub
theorem ZM {h:yA}{sub:Nat->fA}(he:(fA.mk h sub).err=0):Right h sub:=by
 rw[XJ]at he;by_cases hf:aB (fun i=>(sub i).err) h.pn=0
 ·rw[if_pos hf]at he;have hs:=jC.1 hf;unfold OC at he;by_cases d0:h.kind=1\/h.kind=2
  ·rw[if_pos d0]at he;unfold YB at he;split at he
   ·cases he
   ·rename_i hp
    split at he
    ·cases he
    ·rename_i hx
     have:¬ h.n<1:=fun hh=>hx (Or.inl hh);have:¬ 22<h.n:=fun hh=>hx (Or.inr (Or.inl hh));have a3:within h.ev h.en 1 h.n=true:=by
      cases hw:within h.ev h.en 1 h.n with
      | true=>rfl
      | false=>exact absurd (Or.inr (Or.inr hw)) hx
     exact Or.inl <| .mk d0 (by omega) (by omega) (by omega) (within_iff.1 a3)
  ·rw[if_neg d0]at he;by_cases h3:h.kind=3
   ·rw[if_pos h3]at he;unfold fB at he;split at he
    ·cases he
    ·split at he
     ·cases he
     ·split at he
      ·cases he
      ·split at he
       ·cases he
       ·split at he
        ·cases he
        ·rename_i q1 q2 q3 q4 q5
         exact Or.inr <| Or.inl <| .mk h3 (by omega) (by omega) (by omega) (hs 0 (by omega)) (hs 1 (by omega)) (by simpa using q4) (by simpa using q5)
   ·rw[if_neg h3]at he;by_cases h4:h.kind=4
    ·rw[if_pos h4]at he;unfold LB at he;split at he
     ·cases he
     ·split at he
      ·cases he
      ·split at he
       ·cases he
       ·split at he
        ·cases he
        ·rename_i q1 q2 q3 q4
         exact Or.inr <| Or.inr <| .mk h4 (by omega) (by omega) (hs 0 (by omega)) (by simpa using q3) (within_iff.1 (by simpa using q4))
    ·rw[if_neg h4]at he;cases he
 ·rw[if_neg hf]at he;exact absurd he hf
theorem mJ {h:yA}{sub:Nat->fA}(hw:(fA.mk h sub).wide=false):h.en<=8/\∀i,i<h.pn->(sub i).wide=false:=by
 simp only[fA.wide,Bool.or_eq_false_iff,List.any_eq_false,List.mem_range,decide_eq_false_iff_not]at hw;exact⟨by omega,fun i hi=>by simpa using hw.2 i hi⟩
theorem ME {p:fA}(he:p.err=0)(hw:p.wide=false):p.built.Ok/\p.built.size=p.size/\p.built.el=p.edges:=by
 induction p using fA.ind with
 | no=>exact absurd hw (by simp[fA.wide])
 | mk h sub ih =>
  obtain⟨f0,d0⟩:=mJ hw;simp only[fA.built,fA.size,fA.edges];rcases ZM he with ⟨k,pn,n1,n2,ev⟩ | hrest
  ·skip;have k3:¬ h.kind=3:=by omega
   have k4:¬ h.kind=4:=by omega
   simp only[if_neg k3,if_neg k4];by_cases k2:h.kind=2
   ·rw[if_pos k2];exact⟨IL (by omega) (by omega) f0 (fun e hi=>by have:=ev e hi;unfold yA.evN;omega),rfl,rfl⟩
   ·rw[if_neg k2];exact⟨mM (by omega) (by omega) f0,rfl,rfl⟩
  rcases hrest with ⟨k,pn,n0,en,e0,e1,g,s⟩ | hrest
  ·skip;obtain⟨a0,s0,g0⟩:=ih 0 e0 (d0 0 (by omega));obtain⟨a1,s1,g1⟩:=ih 1 e1 (d0 1 (by omega));simp only[if_pos k];refine⟨bQ a0 a1 (by rw[g0,g1,g]) (by rw[s0,s1];exact s),?_,g0⟩;show ((sub 0).built.size-1)*((sub 1).built.size-1)+1=_;rw[s0,s1]
  obtain⟨k,pn,n0,e0,en,ev⟩:=hrest
  ·skip;obtain⟨a0,s0,g0⟩:=ih 0 e0 (d0 0 (by omega));have k3:¬ h.kind=3:=by omega
   simp only[if_neg k3,if_pos k];exact⟨jU a0,s0,g0⟩
end Go.Proofs.YtjhkadffaephmacGreat

namespace Go.Proofs.YtjhkadffaephmacGreat
set_option maxHeartbeats 16000000
set_option maxRecDepth 100000
open Go
section
variable {P:Program} {ops:Array Oper} {Q:Exit->Act->World->Prop} {md:Region.Mode}
def upd (t:Nat->Value) (i:Nat) (v:Value):Nat->Value:=fun j=>if j=i then v else t j
theorem upd_same (t:Nat->Value)(i:Nat)(v:Value):upd t i v i=v:=by simp[upd]
theorem MB (t:Nat->Value){i j:Nat}(v:Value)(h:j≠i):upd t i v j=t j:=by simp[upd,h]
def fill:List Oper->Nat->(Nat->Value)->Act->Act
 | [],_,_,a=>a
 | o :: os,i,t,a=>fill os (i+1) t (a.put o.dst (t i))
def PG (d:Option Tmp):List Oper->Bool
 | []=>true
 | o :: os=>(match d,o.dst with | some x,some y=>!(x == y) | _,_=>true) && PG d os
def uC:List Oper->Bool
 | []=>true
 | o :: os=>PG o.dst os && uC os
theorem UT (a:Act)(d:Option Tmp)(u v:Value):(a.put d u).put d v=a.put d v:=by
 cases d <;> simp[Act.put]
theorem MN (d:Option Tmp)(v:Value):∀ (os:List Oper) (i:Nat) (t:Nat->Value) (a:Act),PG d os=true ->
 fill os i t (a.put d v)=(fill os i t a).put d v
 | [],_,_,_,_=>rfl
 | o :: os,i,t,a,h=>by
  simp only[PG,Bool.and_eq_true]at h;have hc:(a.put d v).put o.dst (t i)=(a.put o.dst (t i)).put d v:=Act.put_comm a v (t i) (fun x hx hy=>by
   subst hx;rw[hy]at h;simp at h)
  simp only[fill];rw[hc];exact MN d v os (i+1) t _ h.2
theorem yL:∀ (os:List Oper) (i k:Nat) (t:Nat->Value) (v:Value) (a:Act),k<i->fill os i (upd t k v) a=fill os i t a
 | [],_,_,_,_,_,_=>rfl
 | o :: os,i,k,t,v,a,h=>by
  simp only[fill];rw[MB t v (by omega)];exact yL os (i+1) k t v _ (by omega)
theorem WJ:∀ (os:List Oper) (k i:Nat) (o:Oper) (t:Nat->Value) (v:Value) (a:Act),uC os=true->os[i]? = some o ->
 fill os k (upd t (k+i) v) a=(fill os k t a).put o.dst v
 | [],_,_,_,_,_,_,_,h=>by simp at h
 | o' :: os,k,0,o,t,v,a,hd,h=>by
  simp only[uC,Bool.and_eq_true]at hd;simp at h;subst h;simp only[fill,Nat.add_zero];rw[upd_same,yL os (k+1) k t v _ (by omega),<-MN _ v os (k+1) t _ hd.1,UT]
 | o' :: os,k,i+1,o,t,v,a,hd,h=>by
  simp only[uC,Bool.and_eq_true]at hd;simp at h;simp only[fill];rw[MB t v (by omega)];have:=WJ os (k+1) i o t v (a.put o'.dst (t k)) hd.2 h;rw[show k+(i+1)=k+1+i by omega];exact this
def first (os:List Oper) (a:Act) (i:Nat):Value :=
 match os[i]? with
 | some o=>match o.dst with
  | some d=>a.tmps.getD d undef
  | none=>undef
 | none=>undef
theorem wS (a:Act)(d:Nat):a.put (some d) (a.tmps.getD d undef)=a:=by
 have h:a.tmps.setIfInBounds d (a.tmps.getD d undef)=a.tmps:=by
  apply Array.ext
  ·simp
  ·intro j h1 h2;by_cases hj:d=j
   ·subst hj;simp[h2]
   ·exact Array.getElem_setIfInBounds_ne h2 hj
 cases a;simp only[Act.put]at h |-;simp only[h]
theorem xL:∀ (os:List Oper) (k:Nat) (t:Nat->Value) (a:Act),(∀i o,os[i]? = some o->a.put o.dst (t (k+i))=a)->fill os k t a=a
 | [],_,_,_,_=>rfl
 | o :: os,k,t,a,h=>by
  simp only[fill];have h0:=h 0 o rfl;rw[Nat.add_zero]at h0;rw[h0];exact xL os (k+1) t a (fun i o' hi=>by
   have:=h (i+1) o' (by simpa using hi);rw[show k+1+i=k+(i+1) by omega];exact this)
theorem lD (os:List Oper)(a:Act):fill os 0 (first os a) a=a:=xL os 0 _ a (fun i o hi=>by
 rw[Nat.zero_add];unfold first;simp only[hi];cases hd:o.dst with
 | none=>rfl
 | some d=>exact wS a d)
def uF:List Oper->Nat->Bool
 | [],_=>true
 | o :: os,i=>o.after.all (fun e=>decide (e.on<i)) && uF os (i+1)
theorem WG:∀ (os:List Oper) (k i:Nat) (o:Oper),uF os k=true->os[i]? = some o->∀e∈o.after,e.on<k+i
 | [],_,_,_,_,h=>by simp at h
 | o' :: os,k,0,o,hb,h=>fun e he=>by
  simp only[uF,Bool.and_eq_true,Array.all_eq_true_iff_forall_mem]at hb;simp at h;subst h;simpa using hb.1 e he
 | o' :: os,k,i+1,o,hb,h=>fun e he=>by
  simp only[uF,Bool.and_eq_true]at hb;have:=WG os (k+1) i o hb.2 (by simpa using h) e he;omega
def waits (md:Region.Mode) (o:Oper):List Nat:=(o.after.toList.filter (fun e=>Region.binds md e)).map (·.on)
def MF (P:Program) (md:Region.Mode) (ops:Array Oper) (Q:Exit->Act->World->Prop) (G:World->Prop) (E:Nat->Value->World->Prop) (a0:Act):List Oper->Nat->Prop
 | [],_=>True
 | o :: os,i=>(∀ (t:Nat->Value) (w:World),G w->(∀j∈waits md o,E j (t j) w) ->
  ∀K:Act->World->Prop,(∀v w',G w'->E i v w'->(∀j u,j≠i->E j u w->E j u w')->K ((fill ops.toList 0 t a0).put o.dst v) w') ->
   if Region.wanted o (yielded ops (fill ops.toList 0 t a0).tmps)=true then Oper.wp P o (fill ops.toList 0 t a0) w K Q else K ((fill ops.toList 0 t a0).put o.dst undef) w) /\
  MF P md ops Q G E a0 os (i+1)
theorem MF.at {G:World->Prop}{E:Nat->Value->World->Prop}{a0:Act}:∀ (os:List Oper) (k i:Nat) (o:Oper),MF P md ops Q G E a0 os k->os[i]? = some o ->
 ∀ (t:Nat->Value) (w:World),G w->(∀j∈waits md o,E j (t j) w) ->
  ∀K:Act->World->Prop,(∀v w',G w'->E (k+i) v w'->(∀j u,j≠k+i->E j u w->E j u w')->K ((fill ops.toList 0 t a0).put o.dst v) w') ->
   if Region.wanted o (yielded ops (fill ops.toList 0 t a0).tmps)=true then Oper.wp P o (fill ops.toList 0 t a0) w K Q else K ((fill ops.toList 0 t a0).put o.dst undef) w
 | [],_,_,_,_,h=>by simp at h
 | o' :: os,k,0,o,he,h=>by
  simp at h;subst h;exact he.1
 | o' :: os,k,i+1,o,he,h=>by
  have:=MF.at os (k+1) i o he.2 (by simpa using h);rw[show k+1+i=k+(i+1) by omega]at this;exact this
theorem tO {G:World->Prop}{E:Nat->Value->World->Prop}{a0:Act}(hap:uC ops.toList=true)(hb:uF ops.toList 0=true)
 (hs:MF P md ops Q G E a0 ops.toList 0)
 (hend:∀ (t:Nat->Value) (w:World),G w->(∀i,i<ops.size->E i (t i) w)->Q .normal (fill ops.toList 0 t a0) w) :
 ∀ (fuel:Nat) (l:Array Bool) (t:Nat->Value) (w:World),l.size=ops.size->(l.toList.filter (· == false)).length<=fuel->G w ->
  (∀i,i<ops.size->l.getD i false=true->E i (t i) w)->wpAny P md ops Q fuel l (fill ops.toList 0 t a0) w:=by
 have f0:∀ (l:Array Bool),l.size=ops.size->Region.ready md ops l=[]->∀i,i<ops.size->l.getD i false=true:=by
  intro l hl hr i
  induction i using Nat.strongRecOn with
  | _ i ih =>
   intro hi;cases hg:l.getD i false with
   | true=>rfl
   | false =>
    exfalso;have hm:i∈Region.ready md ops l:=by
     refine mem_ready.2 ⟨?_,ops[i],by simp[hi],fun e he _=>?_⟩
     ·simp[hl,hi]at hg |-;exact hg
     ·have:=WG ops.toList 0 i ops[i] hb (by simp[hi]) e he;exact ih e.on (by omega) (by omega)
    rw[hr]at hm;cases hm
 intro fuel
 induction fuel with
 | zero =>
  intro l t w hl hf hG hE;have hr:Region.ready md ops l=[]:=by
   apply List.eq_nil_iff_forall_not_mem.2;intro i hi;obtain⟨h0,o,ho,-⟩:=mem_ready.1 hi;have i0:i<l.size:=by rw[hl];exact(Array.getElem?_eq_some_iff.1 ho).1
   have hz:l.toList.filter (· == false)=[]:=List.eq_nil_of_length_eq_zero (by omega);have:l[i]∈l.toList.filter (· == false):=by
    rw[List.mem_filter];refine⟨by simp,?_⟩;simpa [i0] using h0
   rw[hz]at this;cases this
  exact⟨hr,hend t w hG (fun i hi=>hE i hi (f0 l hl hr i hi))⟩
 | succ fuel ih =>
  intro l t w hl hf hG hE;refine⟨fun hr=>hend t w hG (fun i hi=>hE i hi (f0 l hl hr i hi)),fun i hi=>?_⟩;obtain⟨h0,o,ho,o0⟩:=mem_ready.1 hi;have i0:i<ops.size:=(Array.getElem?_eq_some_iff.1 ho).1;refine wpOp_step ho (fun K' hK=>?_);have k0:=MF.at ops.toList 0 i o hs (by simpa using ho) t w hG (fun j hj=>by
   simp only[waits,List.mem_map,List.mem_filter]at hj;obtain⟨e,⟨he,p0⟩,rfl⟩:=hj;have h1:=o0 e (by simpa using he) p0;refine hE e.on ?_ h1;rcases Nat.lt_or_ge e.on l.size with h' | h'
   ·omega
   ·simp[Array.getElem?_eq_none h']at h1) K'
  refine k0 (fun v w' hG' hEi hkeep=>hK _ _ ?_);rw[Nat.zero_add]at hEi hkeep;have j0:=WJ ops.toList 0 i o t v a0 hap (by simpa using ho);rw[Nat.zero_add]at j0;rw[<-j0];refine ih (l.setIfInBounds i true) (upd t i v) w' (by simp[hl]) ?_ hG' (fun j hj hlj=>?_)
  ·have d0:∀ (ls:List Bool) (k:Nat),ls[k]? = some false->((ls.set k true).filter (· == false)).length+1=(ls.filter (· == false)).length:=by
    intro ls
    induction ls with
    | nil=>intro k h;simp at h
    | cons b bs ihl =>
     intro k h;cases k with
     | zero=>simp at h;subst h;simp
     | succ k =>
      have:=ihl k (by simpa using h);cases b <;> simp_all
   have:=d0 l.toList i (by
    have m0:i<l.size:=by omega
    simp[m0]at h0 |-;exact h0)
   rw[Array.toList_setIfInBounds];omega
  ·by_cases g0:j=i
   ·subst g0;rw[upd_same];exact hEi
   ·rw[MB t v g0];rw[getD_set_ne false (Ne.symm g0)]at hlj;exact hkeep j (t j) g0 (hE j hj hlj)
theorem XF {id:Nat}{a:Act}{w:World}(G:World->Prop)(E:Nat->Value->World->Prop)(hm:P.follows .mixedOrders=true)
 (hap:uC ops.toList=true) (hb:uF ops.toList 0=true) (hG:G w.drew)
 (hs:MF P .any ops Q G E a ops.toList 0)
 (hend:∀ (t:Nat->Value) (w:World),G w->(∀i,i<ops.size->E i (t i) w)->Q .normal (fill ops.toList 0 t a) w) :
 (Code.region id ops true).wp P Q a w:=by
 refine wp_region_any hm ?_;have:=tO (md:=.any) hap hb hs hend ops.size (Array.replicate ops.size false) (first ops.toList a) w.drew (by simp) (by simp) hG (fun i hi h=>by simp[hi]at h);rw[lD]at this;exact this
def NA (d:Nat->Bool) (i:Nat):Nat->Bool:=fun j=>if j=i then true else d j
def WB (md:Region.Mode):List Oper->Nat->Bool
 | [],_=>true
 | o :: os,i=>o.after.all (fun e=>!(Region.binds md e) || decide (e.on<i)) && WB md os (i+1)
theorem BD (md:Region.Mode):∀ (os:List Oper) (k i:Nat) (o:Oper),WB md os k=true->os[i]? = some o->∀e∈o.after,Region.binds md e=true->e.on<k+i
 | [],_,_,_,_,h=>by simp at h
 | o' :: os,k,0,o,hb,h=>fun e he hbi=>by
  simp only[WB,Bool.and_eq_true,Array.all_eq_true_iff_forall_mem]at hb;simp at h;subst h;have:=hb.1 e he;simpa [hbi] using this
 | o' :: os,k,i+1,o,hb,h=>fun e he hbi=>by
  simp only[WB,Bool.and_eq_true]at hb;have:=BD md os (k+1) i o hb.2 (by simpa using h) e he hbi;omega
def UF (P:Program) (md:Region.Mode) (ops:Array Oper) (Q:Exit->Act->World->Prop) (I:(Nat->Bool)->(Nat->Value)->World->Prop) (a0:Act):List Oper->Nat->Prop
 | [],_=>True
 | o :: os,i=>(∀ (d:Nat->Bool) (t:Nat->Value) (w:World),I d t w->d i=false->(∀j∈waits md o,d j=true) ->
  ∀K:Act->World->Prop,(∀v w',I (NA d i) (upd t i v) w'->K ((fill ops.toList 0 t a0).put o.dst v) w') ->
   if Region.wanted o (yielded ops (fill ops.toList 0 t a0).tmps)=true then Oper.wp P o (fill ops.toList 0 t a0) w K Q else K ((fill ops.toList 0 t a0).put o.dst undef) w) /\
  UF P md ops Q I a0 os (i+1)
theorem UF.at {I:(Nat->Bool)->(Nat->Value)->World->Prop}{a0:Act}:∀ (os:List Oper) (k i:Nat) (o:Oper),UF P md ops Q I a0 os k->os[i]? = some o ->
 ∀ (d:Nat->Bool) (t:Nat->Value) (w:World),I d t w->d (k+i)=false->(∀j∈waits md o,d j=true) ->
  ∀K:Act->World->Prop,(∀v w',I (NA d (k+i)) (upd t (k+i) v) w'->K ((fill ops.toList 0 t a0).put o.dst v) w') ->
   if Region.wanted o (yielded ops (fill ops.toList 0 t a0).tmps)=true then Oper.wp P o (fill ops.toList 0 t a0) w K Q else K ((fill ops.toList 0 t a0).put o.dst undef) w
 | [],_,_,_,_,h=>by simp at h
 | o' :: os,k,0,o,he,h=>by
  simp at h;subst h;exact he.1
 | o' :: os,k,i+1,o,he,h=>by
  have:=UF.at os (k+1) i o he.2 (by simpa using h);rw[show k+1+i=k+(i+1) by omega]at this;exact this
theorem uE {I:(Nat->Bool)->(Nat->Value)->World->Prop}{a0:Act}(hap:uC ops.toList=true)(hb:WB md ops.toList 0=true)
 (hs:UF P md ops Q I a0 ops.toList 0)
 (hend:∀ (d:Nat->Bool) (t:Nat->Value) (w:World),I d t w->(∀i,i<ops.size->d i=true)->Q .normal (fill ops.toList 0 t a0) w) :
 ∀ (fuel:Nat) (l:Array Bool) (t:Nat->Value) (w:World),l.size=ops.size->(l.toList.filter (· == false)).length<=fuel ->
  I (fun i=>l.getD i false) t w->wpAny P md ops Q fuel l (fill ops.toList 0 t a0) w:=by
 have f0:∀ (l:Array Bool),l.size=ops.size->Region.ready md ops l=[]->∀i,i<ops.size->l.getD i false=true:=by
  intro l hl hr i
  induction i using Nat.strongRecOn with
  | _ i ih =>
   intro hi;cases hg:l.getD i false with
   | true=>rfl
   | false =>
    exfalso;have hm:i∈Region.ready md ops l:=by
     refine mem_ready.2 ⟨?_,ops[i],by simp[hi],fun e he i0=>?_⟩
     ·simp[hl,hi]at hg |-;exact hg
     ·have:=BD md ops.toList 0 i ops[i] hb (by simp[hi]) e he i0;exact ih e.on (by omega) (by omega)
    rw[hr]at hm;cases hm
 intro fuel
 induction fuel with
 | zero =>
  intro l t w hl hf hI;have hr:Region.ready md ops l=[]:=by
   apply List.eq_nil_iff_forall_not_mem.2;intro i hi;obtain⟨h0,o,ho,-⟩:=mem_ready.1 hi;have j0:i<l.size:=by rw[hl];exact(Array.getElem?_eq_some_iff.1 ho).1
   have hz:l.toList.filter (· == false)=[]:=List.eq_nil_of_length_eq_zero (by omega);have:l[i]∈l.toList.filter (· == false):=by
    rw[List.mem_filter];refine⟨by simp,?_⟩;simpa [j0] using h0
   rw[hz]at this;cases this
  exact⟨hr,hend _ t w hI (fun i hi=>f0 l hl hr i hi)⟩
 | succ fuel ih =>
  intro l t w hl hf hI;refine⟨fun hr=>hend _ t w hI (fun i hi=>f0 l hl hr i hi),fun i hi=>?_⟩;obtain⟨h0,o,ho,o0⟩:=mem_ready.1 hi;have j0:i<ops.size:=(Array.getElem?_eq_some_iff.1 ho).1;have g0:i<l.size:=by omega
  refine wpOp_step ho (fun K' hK=>?_);have m0:=UF.at ops.toList 0 i o hs (by simpa using ho) _ t w hI (by simp[g0]at h0 |-;exact h0) (fun j hj=>by
   simp only[waits,List.mem_map,List.mem_filter]at hj;obtain⟨e,⟨he,i0⟩,rfl⟩:=hj;exact o0 e (by simpa using he) i0) K'
  refine m0 (fun v w' hI'=>hK _ _ ?_);rw[Nat.zero_add]at hI';have k0:=WJ ops.toList 0 i o t v a0 hap (by simpa using ho);rw[Nat.zero_add]at k0;rw[<-k0];have hd:(fun j=>(l.setIfInBounds i true).getD j false)=NA (fun j=>l.getD j false) i:=by
   funext j;unfold NA;by_cases e:j=i
   ·subst e;simp[g0]
   ·rw[getD_set_ne false (Ne.symm e),if_neg e]
  refine ih (l.setIfInBounds i true) (upd t i v) w' (by simp[hl]) ?_ (by rw[hd];exact hI');have d0:∀ (ls:List Bool) (k:Nat),ls[k]? = some false->((ls.set k true).filter (· == false)).length+1=(ls.filter (· == false)).length:=by
   intro ls
   induction ls with
   | nil=>intro k h;simp at h
   | cons b bs ihl =>
    intro k h;cases k with
    | zero=>simp at h;subst h;simp
    | succ k =>
     have:=ihl k (by simpa using h);cases b <;> simp_all
  have:=d0 l.toList i (by
   simp[g0]at h0 |-;exact h0)
  rw[Array.toList_setIfInBounds];omega
theorem sK {id:Nat}{a:Act}{w:World}(I:(Nat->Bool)->(Nat->Value)->World->Prop)(hm:P.follows .mixedOrders=true)
 (hap:uC ops.toList=true) (hb:WB .any ops.toList 0=true) (h0:∀t,I (fun _=>false) t w.drew)
 (hs:UF P .any ops Q I a ops.toList 0)
 (hend:∀ (d:Nat->Bool) (t:Nat->Value) (w:World),I d t w->(∀i,i<ops.size->d i=true)->Q .normal (fill ops.toList 0 t a) w) :
 (Code.region id ops true).wp P Q a w:=by
 refine wp_region_any hm ?_;have hz:(fun i=>(Array.replicate ops.size false).getD i false)=fun _=>false:=by
  funext i;by_cases hi:i<ops.size
  ·simp[hi]
  ·simp[hi]
 have:=uE (md:=.any) hap hb hs hend ops.size (Array.replicate ops.size false) (first ops.toList a) w.drew (by simp) (by simp) (by rw[hz];exact h0 _);rw[lD]at this;exact this
end
end Go.Proofs.YtjhkadffaephmacGreat

namespace Go.Proofs.YtjhkadffaephmacGreat
set_option maxHeartbeats 16000000
set_option maxRecDepth 100000
open Go.RowKit
theorem UK (args:Array Value)(W:World):(callFunc 140 args).run Tryz.prog W=.ok (.enter 140 args) W:=by rfl
theorem fO (args:Array Value)(W:World):(callFunc 119 args).run Tryz.prog W=.ok (.enter 119 args) W:=by rfl
theorem aO (args:Array Value)(W:World):(callFunc 120 args).run Tryz.prog W=.ok (.enter 120 args) W:=by rfl
theorem DN (i k:Nat)(w:World):
 Calls Tryz.prog 140 #[.int .i64 i,.int .i64 k] w fun e w'=>e=.returned (.int .i64 ((min i k:Nat):Int))/\∃m,w'=w.drewN m:=by
 go_enter Tryz.func140,Tryz.ntmps140;go_wp2
 all_goals go_ret
 all_goals exact⟨zF (by omega),0,rfl⟩
theorem MJ (n:Nat)(w:World)(hn:n<=24):
 Calls Tryz.prog 117 #[.int .i64 n] w fun e w'=>e=.returned (.slice (some ⟨w.heap.size,0,none⟩) n n)/\jK w n n (fun a b=>((min a b:Nat):Int)) n w':=by
 have HT:=hide (vE 140 #[] n n (fun a b=>((min a b:Nat):Int)) w hn hn UK (fun i k W _ _ _=>by simpa using DN i k W));go_enter Tryz.func117,Tryz.ntmps117;go_wp2_with fail;go_at_call 118;refine HT.out.mono ?_;rintro e w' ⟨rfl,h⟩;have H:=hide h;clear h;go_wp2;go_ret;exact⟨rfl,H.out⟩
structure Mat.From (m:Mat) (b:Nat):Prop where
 gb:0<m.t.len->b<=m.gb
 rows:∀r,r<m.t.len->0<m.t.L r->b<=m.RB r
theorem Mat.From.mono {m:Mat}{b c:Nat}(h:m.From b)(hc:c<=b):m.From c:=⟨fun h0=>Nat.le_trans hc (h.gb h0),fun r hr h0=>Nat.le_trans hc (h.rows r hr h0)⟩
theorem fI (b n p:Nat)(Z:Nat->Nat->Int):(yH b n p Z).From b:=⟨fun _=>lR,fun r _ _=>by show b<=b+1+r;omega⟩
theorem qA {W:World}{B C i j:Nat}(hne:B≠C)(v:Value):(W.setCell ⟨C,i,none⟩ v).cell? ⟨B,j,none⟩=W.cell? ⟨B,j,none⟩ :=
 World.cell?_of_block (by
  show (W.heap.modify C _)[B]? = _;rw[Array.getElem?_modify,if_neg (Ne.symm hne)])
theorem Mat.In.other {m:Mat}{n b C i:Nat}{w:World}(h:m.In n w)(hf:m.From b)(hC:C<b)(v:Value):m.In n (w.setCell ⟨C,i,none⟩ v) where
 ga:=h.ga
 gb:=h.gb
 row:=fun r hr=>by rw[qA (by have:=hf.gb (by omega);omega)];exact h.row r hr
 addr:=h.addr
 cell:=fun r hr c hc=>by rw[qA (by have:=hf.rows r hr (by omega);omega)];exact h.cell r hr c hc
 len:=h.len
 lens:=h.lens
def yB (W:World) (b:Nat):Prop:=∃cs,Blk W b cs 3
theorem yB.lt {W:World}{b:Nat}(h:yB W b):b<W.heap.size:=by obtain⟨_,hc⟩:=h;exact hc.lt
theorem yB.below {W W':World}{b k:Nat}(h:yB W b)(hb:Below k W W')(hk:b<k):yB W' b:=by obtain⟨cs,hc⟩:=h;exact⟨cs,hc.below hb hk⟩
theorem yB.grown {W W':World}{b:Nat}(h:yB W b)(hb:Below W.heap.size W W'):yB W' b:=h.below hb h.lt
theorem yB.set {W:World}{b g:Nat}(h:yB W b)(i:Nat)(v:Value):yB (W.setCell ⟨g,i,none⟩ v) b:=by
 obtain⟨cs,hc⟩:=h;by_cases e:b=g
 ·subst e;exact⟨_,hc.set i v⟩
 ·exact⟨cs,hc.other e i v⟩
theorem yB.kept {W W':World}{b:Nat}{row:Option Nat}(h:yB W b)(hg:W.grownBy W' row)(hne:row≠some b):yB W' b:=by obtain⟨cs,hc⟩:=h;exact⟨cs,hc.kept hg (fun e=>hne e.symm)⟩
theorem yB.frozen {W:World}{b:Nat}(h:yB W b)(i:Nat):W.frozen? ⟨b,i,none⟩=false:=by obtain⟨_,hc⟩:=h;exact hc.frozen i
theorem yB.own {w:World}{lo g p c n:Nat}{xs:List Value}(h:w.ownsRow lo 3 1 (.slice (some ⟨g,0,none⟩) p c) n xs):yB w g:=by
 obtain⟨_,h2⟩:=h;rcases h2 with ⟨e0,_⟩ | ⟨g',cap',cur,e1,_,hgb,_⟩
 ·cases e0
 ·obtain⟨rfl,_,_⟩:g=g'/\_:=by simpa using e1
  exact⟨cur,hgb⟩
def Mat.Soft (m:Mat) (W:World):Prop:=∀r,r<m.t.len->0<m.t.L r->yB W (m.RB r)
theorem Mat.Soft.grown {m:Mat}{W W':World}(h:m.Soft W)(hb:Below W.heap.size W W'):m.Soft W':=fun r hr h0=>(h r hr h0).grown hb
structure xA.FromS (m:xA) (b:Nat) (W:World):Prop where
 B:m.B.From b
 E:m.E.From b
 sB:m.B.Soft W
 sE:m.E.Soft W
theorem xA.FromS.mono {m:xA}{b c:Nat}{W:World}(h:m.FromS b W)(hc:c<=b):m.FromS c W:=⟨h.B.mono hc,h.E.mono hc,h.sB,h.sE⟩
def Made (x:FB) (b:Nat) (e:Ending) (w':World):Prop:=∃m:xA,e=.returned m.val/\m.alg=x.alg/\m.In w'.heap.size w'/\m.FromS b w'
def st3 (W:World) (B:Nat) (v0 v1 v2:Value):World:=((W.setCell ⟨B,0,none⟩ v0).setCell ⟨B,1,none⟩ v1).setCell ⟨B,2,none⟩ v2
theorem Blk.set3 {W:World}{B:Nat}{t:TypeId}{u0 u1 u2:Value}(h:Blk W B #[u0,u1,u2] t)(v0 v1 v2:Value):Blk (st3 W B v0 v1 v2) B #[v0,v1,v2] t:=by
 have:=((h.set 0 v0).set 1 v1).set 2 v2;unfold st3;simpa using this
theorem Blk.far3 {W:World}{B C:Nat}{vs:Array Value}{t:TypeId}(h:Blk W B vs t)(hne:B≠C)(v0 v1 v2:Value):Blk (((W.setCell ⟨C,0,none⟩ v0).setCell ⟨C,1,none⟩ v1).setCell ⟨C,2,none⟩ v2) B vs t :=
 ((h.other hne _ _).other hne _ _).other hne _ _
theorem iB {W W':World}{k B:Nat}(h:Below k W W')(hk:k<=B)(v0 v1 v2:Value):Below k W (st3 W' B v0 v1 v2) :=
 ((h.setCell (p:=⟨B,0,none⟩) hk _).setCell (p:=⟨B,1,none⟩) hk _).setCell (p:=⟨B,2,none⟩) hk _
theorem oP {W:World}{b n p:Nat}{Z:Nat->Nat->Int}(hn:n<=24)(hp:p<=24)(hout:Blk W b (yD (b+1) p n n) 32)(hrows:∀r,r<n->Blk W (b+1+r) (UC (Z r) p p) 3):(yH b n p Z).In W.heap.size W where
 ga:=fun _=>rfl
 gb:=fun _=>hout.lt
 row:=fun r hr=>by
  have hr':r<n:=hr;show W.cell? ⟨b,0+r,none⟩=_;rw[hout.cell (0+r),Nat.zero_add,GD hr',if_pos hr'];rfl
 addr:=fun r hr _=>⟨rfl,(hrows r hr).lt⟩
 cell:=fun r hr c hc=>by
  have hc':c<p:=hc;show W.cell? ⟨b+1+r,0+c,none⟩=_;rw[(hrows r hr).cell (0+c),Nat.zero_add,FD hc',if_pos hc'];rfl
 len:=by show n<=maxLen;unfold maxLen;omega
 lens:=fun _ _=>by show p<=maxLen;unfold maxLen;omega
theorem LJ {x:FB}{W1 w1 w2:World}{B b:Nat}(hx:x.Ok)(h1:jK W1 x.size x.size (fun a b=>(x.best a b:Int)) x.size w1)(h2:jK w1 x.el x.size (fun e a=>(x.edge e a:Int)) x.el w2)(hB:B<W1.heap.size)(hb:b<=W1.heap.size)(v0 v1 v2:Value):
 Made x b (.returned (.agg #[.int .i64 x.size,.slice (some ⟨W1.heap.size,0,none⟩) x.size x.size,.slice (some ⟨w1.heap.size,0,none⟩) x.el x.el])) (((w2.setCell ⟨B,0,none⟩ v0).setCell ⟨B,1,none⟩ v1).setCell ⟨B,2,none⟩ v2):=by
 have hi:=hx.hi;have he:=hx.el;have s1:=h1.size;refine⟨⟨x.size,yH W1.heap.size x.size x.size (fun a b=>(x.best a b:Int)),yH w1.heap.size x.el x.size (fun e a=>(x.edge e a:Int))⟩,rfl,rfl,⟨?_,?_⟩,⟨(fI _ _ _ _).mono hb,(fI _ _ _ _).mono (by omega),fun r hr _=>⟨_,((h1.rows r hr).below h2.below (h1.rows r hr).lt).far3 (by omega) _ _ _⟩,fun r hr _=>⟨_,(h2.rows r hr).far3 (by omega) _ _ _⟩⟩⟩
 ·exact oP hi hi ((h1.out.below h2.below h1.out.lt).far3 (by omega) _ _ _) (fun r hr=>((h1.rows r hr).below h2.below (h1.rows r hr).lt).far3 (by omega) _ _ _)
 ·exact oP (by omega) hi (h2.out.far3 (by omega) _ _ _) (fun r hr=>(h2.rows r hr).far3 (by omega) _ _ _)
theorem VQ (h:yA)(N bx bi e a n:Nat)(W:World)(hh:h.In n W)(hx:W.cell? ⟨bx,0,none⟩=some (.slice h.eg h.en h.ec))(hb:W.cell? ⟨bi,0,none⟩=some (.int .i64 ((N:Int)+1)))
 (he:e<h.en) (hv:1<=h.ev e/\h.ev e<=N) (hN:N<=22) (ha:a<N+2) :
 Calls Tryz.prog 119 #[.int .i64 e,.int .i64 a,.pointer (some ⟨bx,0,none⟩),.pointer (some ⟨bi,0,none⟩)] W fun r w'=>r=.returned (.int .i64 ((min (a+h.evN e) (N+1):Nat):Int))/\∃m,w'=W.drewN m:=by
 have d0:=hh.ea (by omega);have hc:=hh.ecell e he;have:(e:Int)<(h.en:Int):=by omega
 have h0:=hh.elen;unfold maxLen at h0;obtain⟨v,g0⟩:∃v:Nat,h.ev e=(v:Int):=⟨(h.ev e).toNat,by omega⟩;have f0:h.evN e=v:=by unfold yA.evN;omega
 rw[f0];rw[g0]at hc hv;clear g0 f0 hh;rw[d0]at hx;clear d0;by_cases hl:(N:Int)+1<(a:Int)+(v:Int)
 ·go_enter Tryz.func119,Tryz.ntmps119;go_wp2_with fail
  go_quiet (fail)
  go_wp2;go_ret;exact⟨zF (by omega),_,rfl⟩
 ·go_enter Tryz.func119,Tryz.ntmps119;go_wp2_with fail
  go_quiet (fail)
  go_wp2;go_ret;exact⟨zF (by omega),_,rfl⟩
theorem lQ (h:yA)(N bx e a n:Nat)(W:World)(hh:h.In n W)(hx:W.cell? ⟨bx,0,none⟩=some (.slice h.eg h.en h.ec))
 (he:e<h.en) (hv:1<=h.ev e/\h.ev e<=N) :
 Calls Tryz.prog 120 #[.int .i64 e,.int .i64 a,.pointer (some ⟨bx,0,none⟩)] W fun r w'=>r=.returned (.int .i64 ((max a (h.evN e):Nat):Int))/\∃m,w'=W.drewN m:=by
 have d0:=hh.ea (by omega);have hc:=hh.ecell e he;have:(e:Int)<(h.en:Int):=by omega
 have h0:=hh.elen;unfold maxLen at h0;obtain⟨v,g0⟩:∃v:Nat,h.ev e=(v:Int):=⟨(h.ev e).toNat,by omega⟩;have f0:h.evN e=v:=by unfold yA.evN;omega
 rw[f0];rw[g0]at hc hv;clear g0 f0 hh;rw[d0]at hx;clear d0;go_enter Tryz.func120,Tryz.ntmps120;go_wp2
 all_goals go_ret
 all_goals exact⟨zF (by omega),0,rfl⟩
theorem YK (h:yA)(N:Nat)(w:World)(hh:h.In w.heap.size w)(h1:1<=N)(h2:N<=22)(he:h.en<=8)(hv:∀i,i<h.en->1<=h.ev i/\h.ev i<=N):
 Calls Tryz.prog 84 #[.int .i64 N,.slice h.eg h.en h.ec] w fun e w'=>Made (mG N h.en h.evN) w.heap.size e w'/\Below w.heap.size w w':=by
 have b0:=((Blk.new w #[.slice h.eg h.en h.ec] 32).alloc (.cells #[.int .i64 0,.slice none 0 0,.slice none 0 0] 24)).alloc (.cells #[.int .i64 ((N:Int)+1)] 3);have b1:Blk (((w.alloc (.cells #[.slice h.eg h.en h.ec] 32)).alloc (.cells #[.int .i64 0,.slice none 0 0,.slice none 0 0] 24)).alloc (.cells #[.int .i64 ((N:Int)+1)] 3)) (w.heap.size+1) #[.int .i64 0,.slice none 0 0,.slice none 0 0] 24:=(Blk.new' (by simp)).alloc _;have b2:Blk (((w.alloc (.cells #[.slice h.eg h.en h.ec] 32)).alloc (.cells #[.int .i64 0,.slice none 0 0,.slice none 0 0] 24)).alloc (.cells #[.int .i64 ((N:Int)+1)] 3)) (w.heap.size+1+1) #[.int .i64 ((N:Int)+1)] 3:=Blk.new' (by simp);have q0:Below w.heap.size w (((w.alloc (.cells #[.slice h.eg h.en h.ec] 32)).alloc (.cells #[.int .i64 0,.slice none 0 0,.slice none 0 0] 24)).alloc (.cells #[.int .i64 ((N:Int)+1)] 3)):=(((Below.refl _ w).alloc lR _).alloc (by simp) _).alloc (by simp;omega) _;go_enter Tryz.func84,Tryz.ntmps84;go_wp2_with fail;generalize hW:(((w.alloc (.cells #[.slice h.eg h.en h.ec] 32)).alloc (.cells #[.int .i64 0,.slice none 0 0,.slice none 0 0] 24)).alloc (.cells #[.int .i64 ((N:Int)+1)] 3))=W at *;have s0:W.heap.size=w.heap.size+3:=by rw[<-hW];simp
 clear hW;have x0:=b0.cell 0;simp at x0;have HL:=hide (MJ (N+2) W.drew (by omega));have HT:=hide (fun (w1:World) (hb:Below W.heap.size W w1)=>vE 119 #[.pointer (some ⟨w.heap.size,0,none⟩),.pointer (some ⟨w.heap.size+1+1,0,none⟩)] h.en (N+2) (fun e a=>((min (a+h.evN e) (N+1):Nat):Int)) w1 (by omega) (by omega) fO (fun e a W' hi hk hb'=>by
  have h0:=hb.trans (hb'.mono hb.size);have:=VQ h N w.heap.size (w.heap.size+1+1) e a w.heap.size W' (hh.below (q0.trans (h0.mono (by omega))) lR) ((b0.below h0 b0.lt).cell 0) ((b2.below h0 b2.lt).cell 0) hi (hv e hi) h2 hk;simpa using this))
 have e2:((N+2:Nat):Int)=(N:Int)+2:=by omega
 simp only[e2]at HL HT;have y0:IntKind.i64.wrap ((N:Int)+2)=(N:Int)+2:=by rw[IntKind.wrap_i64];omega
 go_region_held3 (fun w'=>w'.cell? ⟨w.heap.size,0,none⟩=some (.slice h.eg h.en h.ec)) (first | go_keep | exact k1 | exact k2 | exact((j0.far3 (by omega) _ _ _).cell 0))
  (first
   | (go_at_call 117;refine HL.out.mono ?_;rintro e w1 ⟨rfl,o0⟩;have g0:=Below.trans (⟨rfl,rfl,rfl,lR,fun _ _=>rfl⟩:Below W.heap.size W W.drew) o0.below;have k1:=(b0.below g0 b0.lt).cell 0;have u0:=hide o0;clear o0)
   | (go_at_call 118;refine(HT.out _ g0).mono ?_;rintro e w2 ⟨rfl,p0⟩;have i0:=g0.trans (p0.below.mono g0.size);have j0:=b0.below i0 b0.lt;have k2:=j0.cell 0;have f0:=b1.below i0 b1.lt;have d0:=f0.cell 0;have d1:=f0.cell 1;have d2:=f0.cell 2;have df:=f0.frozen;simp at d0 d1 d2;have v0:=hide p0;clear p0))
 all_goals
  have HM:=hide (LJ (B:=w.heap.size+1) (b:=w.heap.size) (mM (ev:=h.evN) h1 h2 he) u0.out v0.out (by show w.heap.size+1<W.heap.size;omega) (by show w.heap.size<=W.heap.size;omega) (.int .i64 ((N:Int)+2)) (.slice (some ⟨w.heap.size+3,0,none⟩) (N+2) (N+2)) (.slice (some ⟨w1.heap.size,0,none⟩) h.en h.en));have w0:=hide (iB (q0.trans (i0.mono (by omega))) (show w.heap.size<=w.heap.size+1 by omega) (.int .i64 ((N:Int)+2)) (.slice (some ⟨w.heap.size+3,0,none⟩) (N+2) (N+2)) (.slice (some ⟨w1.heap.size,0,none⟩) h.en h.en));have k0:=f0.set3 (.int .i64 ((N:Int)+2)) (.slice (some ⟨w.heap.size+3,0,none⟩) (N+2) (N+2)) (.slice (some ⟨w1.heap.size,0,none⟩) h.en h.en);have e0:=k0.cell 0;have e1:=k0.cell 1;have m0:=k0.cell 2;unfold st3 at e0 e1 m0;simp at e0 e1 m0;clear d0 d1 d2 df k1 k2 j0 f0;go_wp2;refine bodyPost_ret (v:=.agg #[.int .i64 ((N:Int)+2),.slice (some ⟨w.heap.size+3,0,none⟩) (N+2) (N+2),.slice (some ⟨w1.heap.size,0,none⟩) h.en h.en]) (by simp[results,Tryz.results84,go_sem,e0,e1,m0]) rfl ⟨?_,w0.out⟩;have:=HM.out;rw[show W.drew.heap.size=w.heap.size+3 from s0]at this;exact this
end Go.Proofs.YtjhkadffaephmacGreat
