/-
  Our own texts, bundled: a claim holds few files.
-/
import Derived.RegionTactic
import Derived.Deep.RegionWith
import Derived.Test.YtjhkadffaephmabGreatCutEnginePlaysAD
import Derived.Test.YtjhkadffaephmabGreatCutEnginePlaysAC
import Derived.Test.YtjhkadffaephmabGreatCutEnginePlaysAA
import Derived.Deep.AppendLies
import Derived.Lib.SmallJoins
import Derived.Laws.OwnMore
import Derived.Maps.Range
import Derived.Laws.IdiomStrings
import Derived.Laws.DeepStrings4
/-
  A region that draws its order, by what each operation leaves: one obligation an operation, not one an order.
-/
namespace Go.Proofs.YtjhkadffaephmabGreat
open Go

section
variable {P : Program} {ops : Array Oper} {Q : Exit → Act → World → Prop} {md : Region.Mode}

/-- t, but v at i. -/
def upd (t : Nat → Value) (i : Nat) (v : Value) : Nat → Value := fun j => if j = i then v else t j
theorem upd_same (t : Nat → Value) (i : Nat) (v : Value) : upd t i v i = v := by simp [upd]
theorem upd_other (t : Nat → Value) {i j : Nat} (v : Value) (h : j ≠ i) : upd t i v j = t j := by simp [upd, h]

/-- The frame with the operations' values in their slots. -/
def fill : List Oper → Nat → (Nat → Value) → Act → Act
  | [], _, _, a => a
  | o :: os, i, t, a => fill os (i + 1) t (a.put o.dst (t i))

/-- No two operations write one slot. -/
def apartFrom (d : Option Tmp) : List Oper → Bool
  | [] => true
  | o :: os => (match d, o.dst with | some x, some y => !(x == y) | _, _ => true) && apartFrom d os
def allApart : List Oper → Bool
  | [] => true
  | o :: os => apartFrom o.dst os && allApart os

theorem put_put (a : Act) (d : Option Tmp) (u v : Value) : (a.put d u).put d v = a.put d v := by
  cases d <;> simp [Act.put]

theorem fill_put (d : Option Tmp) (v : Value) : ∀ (os : List Oper) (i : Nat) (t : Nat → Value) (a : Act), apartFrom d os = true →
    fill os i t (a.put d v) = (fill os i t a).put d v
  | [], _, _, _, _ => rfl
  | o :: os, i, t, a, h => by
    simp only [apartFrom, Bool.and_eq_true] at h
    have hc : (a.put d v).put o.dst (t i) = (a.put o.dst (t i)).put d v := Act.put_comm a v (t i) (fun x hx hy => by
      subst hx
      rw [hy] at h
      simp at h)
    simp only [fill]
    rw [hc]
    exact fill_put d v os (i + 1) t _ h.2

theorem fill_same : ∀ (os : List Oper) (i k : Nat) (t : Nat → Value) (v : Value) (a : Act), k < i → fill os i (upd t k v) a = fill os i t a
  | [], _, _, _, _, _, _ => rfl
  | o :: os, i, k, t, v, a, h => by
    simp only [fill]
    rw [upd_other t v (by omega)]
    exact fill_same os (i + 1) k t v _ (by omega)

theorem fill_upd : ∀ (os : List Oper) (k i : Nat) (o : Oper) (t : Nat → Value) (v : Value) (a : Act), allApart os = true → os[i]? = some o →
    fill os k (upd t (k + i) v) a = (fill os k t a).put o.dst v
  | [], _, _, _, _, _, _, _, h => by simp at h
  | o' :: os, k, 0, o, t, v, a, hd, h => by
    simp only [allApart, Bool.and_eq_true] at hd
    simp at h
    subst h
    simp only [fill, Nat.add_zero]
    rw [upd_same, fill_same os (k + 1) k t v _ (by omega), ← fill_put _ v os (k + 1) t _ hd.1, put_put]
  | o' :: os, k, i + 1, o, t, v, a, hd, h => by
    simp only [allApart, Bool.and_eq_true] at hd
    simp at h
    simp only [fill]
    rw [upd_other t v (by omega)]
    have := fill_upd os (k + 1) i o t v (a.put o'.dst (t k)) hd.2 h
    rw [show k + (i + 1) = k + 1 + i by omega]
    exact this

/-- What lies in the operation's slot as the region begins. -/
def first (os : List Oper) (a : Act) (i : Nat) : Value :=
  match os[i]? with
  | some o => match o.dst with
    | some d => a.tmps.getD d undef
    | none => undef
  | none => undef

theorem put_self (a : Act) (d : Nat) : a.put (some d) (a.tmps.getD d undef) = a := by
  have h : a.tmps.setIfInBounds d (a.tmps.getD d undef) = a.tmps := by
    apply Array.ext
    · simp
    · intro j h1 h2
      by_cases hj : d = j
      · subst hj; simp [h2]
      · exact Array.getElem_setIfInBounds_ne h2 hj
  cases a
  simp only [Act.put] at h ⊢
  simp only [h]

theorem fill_self : ∀ (os : List Oper) (k : Nat) (t : Nat → Value) (a : Act), (∀ i o, os[i]? = some o → a.put o.dst (t (k + i)) = a) → fill os k t a = a
  | [], _, _, _, _ => rfl
  | o :: os, k, t, a, h => by
    simp only [fill]
    have h0 := h 0 o rfl
    rw [Nat.add_zero] at h0
    rw [h0]
    exact fill_self os (k + 1) t a (fun i o' hi => by
      have := h (i + 1) o' (by simpa using hi)
      rw [show k + 1 + i = k + (i + 1) by omega]
      exact this)

theorem fill_first (os : List Oper) (a : Act) : fill os 0 (first os a) a = a := fill_self os 0 _ a (fun i o hi => by
  rw [Nat.zero_add]
  unfold first
  simp only [hi]
  cases hd : o.dst with
  | none => rfl
  | some d => exact put_self a d)

/-- Edges lead back. -/
def backOnly : List Oper → Nat → Bool
  | [], _ => true
  | o :: os, i => o.after.all (fun e => decide (e.on < i)) && backOnly os (i + 1)
theorem backOnly_spec : ∀ (os : List Oper) (k i : Nat) (o : Oper), backOnly os k = true → os[i]? = some o → ∀ e ∈ o.after, e.on < k + i
  | [], _, _, _, _, h => by simp at h
  | o' :: os, k, 0, o, hb, h => fun e he => by
    simp only [backOnly, Bool.and_eq_true, Array.all_eq_true_iff_forall_mem] at hb
    simp at h
    subst h
    simpa using hb.1 e he
  | o' :: os, k, i + 1, o, hb, h => fun e he => by
    simp only [backOnly, Bool.and_eq_true] at hb
    have := backOnly_spec os (k + 1) i o hb.2 (by simpa using h) e he
    omega

/-- What an operation waits for. -/
def waits (md : Region.Mode) (o : Oper) : List Nat := (o.after.toList.filter (fun e => Region.binds md e)).map (·.on)

/-- Each operation, from what those that it waits for have left: it keeps what the others have left, and leaves its own. -/
def EachOp (P : Program) (md : Region.Mode) (ops : Array Oper) (Q : Exit → Act → World → Prop) (G : World → Prop) (E : Nat → Value → World → Prop) (a0 : Act) : List Oper → Nat → Prop
  | [], _ => True
  | o :: os, i => (∀ (t : Nat → Value) (w : World), G w → (∀ j ∈ waits md o, E j (t j) w) →
      ∀ K : Act → World → Prop, (∀ v w', G w' → E i v w' → (∀ j u, j ≠ i → E j u w → E j u w') → K ((fill ops.toList 0 t a0).put o.dst v) w') →
        if Region.wanted o (yielded ops (fill ops.toList 0 t a0).tmps) = true then Oper.wp P o (fill ops.toList 0 t a0) w K Q else K ((fill ops.toList 0 t a0).put o.dst undef) w) ∧
    EachOp P md ops Q G E a0 os (i + 1)

theorem EachOp.at {G : World → Prop} {E : Nat → Value → World → Prop} {a0 : Act} : ∀ (os : List Oper) (k i : Nat) (o : Oper), EachOp P md ops Q G E a0 os k → os[i]? = some o →
    ∀ (t : Nat → Value) (w : World), G w → (∀ j ∈ waits md o, E j (t j) w) →
      ∀ K : Act → World → Prop, (∀ v w', G w' → E (k + i) v w' → (∀ j u, j ≠ k + i → E j u w → E j u w') → K ((fill ops.toList 0 t a0).put o.dst v) w') →
        if Region.wanted o (yielded ops (fill ops.toList 0 t a0).tmps) = true then Oper.wp P o (fill ops.toList 0 t a0) w K Q else K ((fill ops.toList 0 t a0).put o.dst undef) w
  | [], _, _, _, _, h => by simp at h
  | o' :: os, k, 0, o, he, h => by
    simp at h
    subst h
    exact he.1
  | o' :: os, k, i + 1, o, he, h => by
    have := EachOp.at os (k + 1) i o he.2 (by simpa using h)
    rw [show k + 1 + i = k + (i + 1) by omega] at this
    exact this

theorem wpAny_each {G : World → Prop} {E : Nat → Value → World → Prop} {a0 : Act} (hap : allApart ops.toList = true) (hb : backOnly ops.toList 0 = true)
    (hs : EachOp P md ops Q G E a0 ops.toList 0)
    (hend : ∀ (t : Nat → Value) (w : World), G w → (∀ i, i < ops.size → E i (t i) w) → Q .normal (fill ops.toList 0 t a0) w) :
    ∀ (fuel : Nat) (l : Array Bool) (t : Nat → Value) (w : World), l.size = ops.size → (l.toList.filter (· == false)).length ≤ fuel → G w →
      (∀ i, i < ops.size → l.getD i false = true → E i (t i) w) → wpAny P md ops Q fuel l (fill ops.toList 0 t a0) w := by
  have hall : ∀ (l : Array Bool), l.size = ops.size → Region.ready md ops l = [] → ∀ i, i < ops.size → l.getD i false = true := by
    intro l hl hr i
    induction i using Nat.strongRecOn with
    | _ i ih =>
      intro hi
      cases hg : l.getD i false with
      | true => rfl
      | false =>
        exfalso
        have hm : i ∈ Region.ready md ops l := by
          refine mem_ready.2 ⟨?_, ops[i], by simp [hi], fun e he _ => ?_⟩
          · simp [hl, hi] at hg ⊢; exact hg
          · have := backOnly_spec ops.toList 0 i ops[i] hb (by simp [hi]) e he
            exact ih e.on (by omega) (by omega)
        rw [hr] at hm
        cases hm
  intro fuel
  induction fuel with
  | zero =>
    intro l t w hl hf hG hE
    have hr : Region.ready md ops l = [] := by
      apply List.eq_nil_iff_forall_not_mem.2
      intro i hi
      obtain ⟨h0, o, ho, -⟩ := mem_ready.1 hi
      have hlt : i < l.size := by rw [hl]; exact (Array.getElem?_eq_some_iff.1 ho).1
      have hz : l.toList.filter (· == false) = [] := List.eq_nil_of_length_eq_zero (by omega)
      have : l[i] ∈ l.toList.filter (· == false) := by
        rw [List.mem_filter]
        refine ⟨by simp, ?_⟩
        simpa [hlt] using h0
      rw [hz] at this
      cases this
    exact ⟨hr, hend t w hG (fun i hi => hE i hi (hall l hl hr i hi))⟩
  | succ fuel ih =>
    intro l t w hl hf hG hE
    refine ⟨fun hr => hend t w hG (fun i hi => hE i hi (hall l hl hr i hi)), fun i hi => ?_⟩
    obtain ⟨h0, o, ho, haf⟩ := mem_ready.1 hi
    have hlt : i < ops.size := (Array.getElem?_eq_some_iff.1 ho).1
    refine wpOp_step ho (fun K' hK => ?_)
    have hat := EachOp.at ops.toList 0 i o hs (by simpa using ho) t w hG (fun j hj => by
      simp only [waits, List.mem_map, List.mem_filter] at hj
      obtain ⟨e, ⟨he, hbi⟩, rfl⟩ := hj
      have h1 := haf e (by simpa using he) hbi
      refine hE e.on ?_ h1
      rcases Nat.lt_or_ge e.on l.size with h' | h'
      · omega
      · simp [Array.getElem?_eq_none h'] at h1) K'
    refine hat (fun v w' hG' hEi hkeep => hK _ _ ?_)
    rw [Nat.zero_add] at hEi hkeep
    have hfu := fill_upd ops.toList 0 i o t v a0 hap (by simpa using ho)
    rw [Nat.zero_add] at hfu
    rw [← hfu]
    refine ih (l.setIfInBounds i true) (upd t i v) w' (by simp [hl]) ?_ hG' (fun j hj hlj => ?_)
    · have hcount : ∀ (ls : List Bool) (k : Nat), ls[k]? = some false → ((ls.set k true).filter (· == false)).length + 1 = (ls.filter (· == false)).length := by
        intro ls
        induction ls with
        | nil => intro k h; simp at h
        | cons b bs ihl =>
          intro k h
          cases k with
          | zero => simp at h; subst h; simp
          | succ k =>
            have := ihl k (by simpa using h)
            cases b <;> simp_all
      have := hcount l.toList i (by
        have hli : i < l.size := by omega
        simp [hli] at h0 ⊢
        exact h0)
      rw [Array.toList_setIfInBounds]
      omega
    · by_cases hji : j = i
      · subst hji; rw [upd_same]; exact hEi
      · rw [upd_other t v hji]
        rw [getD_set_ne false (Ne.symm hji)] at hlj
        exact hkeep j (t j) hji (hE j hj hlj)

theorem wp_region_each {id : Nat} {a : Act} {w : World} (G : World → Prop) (E : Nat → Value → World → Prop) (hm : P.follows .mixedOrders = true)
    (hap : allApart ops.toList = true) (hb : backOnly ops.toList 0 = true) (hG : G w.drew)
    (hs : EachOp P .any ops Q G E a ops.toList 0)
    (hend : ∀ (t : Nat → Value) (w : World), G w → (∀ i, i < ops.size → E i (t i) w) → Q .normal (fill ops.toList 0 t a) w) :
    (Code.region id ops true).wp P Q a w := by
  refine wp_region_any hm ?_
  have := wpAny_each (md := .any) hap hb hs hend ops.size (Array.replicate ops.size false) (first ops.toList a) w.drew (by simp) (by simp) hG (fun i hi h => by simp [hi] at h)
  rw [fill_first] at this
  exact this

/-- d, but true at i. -/
def updB (d : Nat → Bool) (i : Nat) : Nat → Bool := fun j => if j = i then true else d j

/-- Edges that bind lead back. -/
def backBinds (md : Region.Mode) : List Oper → Nat → Bool
  | [], _ => true
  | o :: os, i => o.after.all (fun e => !(Region.binds md e) || decide (e.on < i)) && backBinds md os (i + 1)
theorem backBinds_spec (md : Region.Mode) : ∀ (os : List Oper) (k i : Nat) (o : Oper), backBinds md os k = true → os[i]? = some o → ∀ e ∈ o.after, Region.binds md e = true → e.on < k + i
  | [], _, _, _, _, h => by simp at h
  | o' :: os, k, 0, o, hb, h => fun e he hbi => by
    simp only [backBinds, Bool.and_eq_true, Array.all_eq_true_iff_forall_mem] at hb
    simp at h
    subst h
    have := hb.1 e he
    simpa [hbi] using this
  | o' :: os, k, i + 1, o, hb, h => fun e he hbi => by
    simp only [backBinds, Bool.and_eq_true] at hb
    have := backBinds_spec md os (k + 1) i o hb.2 (by simpa using h) e he hbi
    omega

/-- Each operation, from what holds of all that were carried out: d tells which, t what they left. -/
def EachI (P : Program) (md : Region.Mode) (ops : Array Oper) (Q : Exit → Act → World → Prop) (I : (Nat → Bool) → (Nat → Value) → World → Prop) (a0 : Act) : List Oper → Nat → Prop
  | [], _ => True
  | o :: os, i => (∀ (d : Nat → Bool) (t : Nat → Value) (w : World), I d t w → d i = false → (∀ j ∈ waits md o, d j = true) →
      ∀ K : Act → World → Prop, (∀ v w', I (updB d i) (upd t i v) w' → K ((fill ops.toList 0 t a0).put o.dst v) w') →
        if Region.wanted o (yielded ops (fill ops.toList 0 t a0).tmps) = true then Oper.wp P o (fill ops.toList 0 t a0) w K Q else K ((fill ops.toList 0 t a0).put o.dst undef) w) ∧
    EachI P md ops Q I a0 os (i + 1)

theorem EachI.at {I : (Nat → Bool) → (Nat → Value) → World → Prop} {a0 : Act} : ∀ (os : List Oper) (k i : Nat) (o : Oper), EachI P md ops Q I a0 os k → os[i]? = some o →
    ∀ (d : Nat → Bool) (t : Nat → Value) (w : World), I d t w → d (k + i) = false → (∀ j ∈ waits md o, d j = true) →
      ∀ K : Act → World → Prop, (∀ v w', I (updB d (k + i)) (upd t (k + i) v) w' → K ((fill ops.toList 0 t a0).put o.dst v) w') →
        if Region.wanted o (yielded ops (fill ops.toList 0 t a0).tmps) = true then Oper.wp P o (fill ops.toList 0 t a0) w K Q else K ((fill ops.toList 0 t a0).put o.dst undef) w
  | [], _, _, _, _, h => by simp at h
  | o' :: os, k, 0, o, he, h => by
    simp at h
    subst h
    exact he.1
  | o' :: os, k, i + 1, o, he, h => by
    have := EachI.at os (k + 1) i o he.2 (by simpa using h)
    rw [show k + 1 + i = k + (i + 1) by omega] at this
    exact this

theorem wpAny_inv {I : (Nat → Bool) → (Nat → Value) → World → Prop} {a0 : Act} (hap : allApart ops.toList = true) (hb : backBinds md ops.toList 0 = true)
    (hs : EachI P md ops Q I a0 ops.toList 0)
    (hend : ∀ (d : Nat → Bool) (t : Nat → Value) (w : World), I d t w → (∀ i, i < ops.size → d i = true) → Q .normal (fill ops.toList 0 t a0) w) :
    ∀ (fuel : Nat) (l : Array Bool) (t : Nat → Value) (w : World), l.size = ops.size → (l.toList.filter (· == false)).length ≤ fuel →
      I (fun i => l.getD i false) t w → wpAny P md ops Q fuel l (fill ops.toList 0 t a0) w := by
  have hall : ∀ (l : Array Bool), l.size = ops.size → Region.ready md ops l = [] → ∀ i, i < ops.size → l.getD i false = true := by
    intro l hl hr i
    induction i using Nat.strongRecOn with
    | _ i ih =>
      intro hi
      cases hg : l.getD i false with
      | true => rfl
      | false =>
        exfalso
        have hm : i ∈ Region.ready md ops l := by
          refine mem_ready.2 ⟨?_, ops[i], by simp [hi], fun e he hbi => ?_⟩
          · simp [hl, hi] at hg ⊢; exact hg
          · have := backBinds_spec md ops.toList 0 i ops[i] hb (by simp [hi]) e he hbi
            exact ih e.on (by omega) (by omega)
        rw [hr] at hm
        cases hm
  intro fuel
  induction fuel with
  | zero =>
    intro l t w hl hf hI
    have hr : Region.ready md ops l = [] := by
      apply List.eq_nil_iff_forall_not_mem.2
      intro i hi
      obtain ⟨h0, o, ho, -⟩ := mem_ready.1 hi
      have hlt : i < l.size := by rw [hl]; exact (Array.getElem?_eq_some_iff.1 ho).1
      have hz : l.toList.filter (· == false) = [] := List.eq_nil_of_length_eq_zero (by omega)
      have : l[i] ∈ l.toList.filter (· == false) := by
        rw [List.mem_filter]
        refine ⟨by simp, ?_⟩
        simpa [hlt] using h0
      rw [hz] at this
      cases this
    exact ⟨hr, hend _ t w hI (fun i hi => hall l hl hr i hi)⟩
  | succ fuel ih =>
    intro l t w hl hf hI
    refine ⟨fun hr => hend _ t w hI (fun i hi => hall l hl hr i hi), fun i hi => ?_⟩
    obtain ⟨h0, o, ho, haf⟩ := mem_ready.1 hi
    have hlt : i < ops.size := (Array.getElem?_eq_some_iff.1 ho).1
    have hli : i < l.size := by omega
    refine wpOp_step ho (fun K' hK => ?_)
    have hat := EachI.at ops.toList 0 i o hs (by simpa using ho) _ t w hI (by simp [hli] at h0 ⊢; exact h0) (fun j hj => by
      simp only [waits, List.mem_map, List.mem_filter] at hj
      obtain ⟨e, ⟨he, hbi⟩, rfl⟩ := hj
      exact haf e (by simpa using he) hbi) K'
    refine hat (fun v w' hI' => hK _ _ ?_)
    rw [Nat.zero_add] at hI'
    have hfu := fill_upd ops.toList 0 i o t v a0 hap (by simpa using ho)
    rw [Nat.zero_add] at hfu
    rw [← hfu]
    have hd : (fun j => (l.setIfInBounds i true).getD j false) = updB (fun j => l.getD j false) i := by
      funext j
      unfold updB
      by_cases e : j = i
      · subst e; simp [hli]
      · rw [getD_set_ne false (Ne.symm e), if_neg e]
    refine ih (l.setIfInBounds i true) (upd t i v) w' (by simp [hl]) ?_ (by rw [hd]; exact hI')
    have hcount : ∀ (ls : List Bool) (k : Nat), ls[k]? = some false → ((ls.set k true).filter (· == false)).length + 1 = (ls.filter (· == false)).length := by
      intro ls
      induction ls with
      | nil => intro k h; simp at h
      | cons b bs ihl =>
        intro k h
        cases k with
        | zero => simp at h; subst h; simp
        | succ k =>
          have := ihl k (by simpa using h)
          cases b <;> simp_all
    have := hcount l.toList i (by
      simp [hli] at h0 ⊢
      exact h0)
    rw [Array.toList_setIfInBounds]
    omega

end
end Go.Proofs.YtjhkadffaephmabGreat

/-
  plan.lesser, buildHops, buildWide.
-/
namespace Go.Proofs.YtjhkadffaephmabGreat
set_option maxRecDepth 100000
open Go.RowKit

/-- It lies in blocks from b on. -/
structure Mat.From (m : Mat) (b : Nat) : Prop where
  gb : 0 < m.t.len → b ≤ m.gb
  rows : ∀ r, r < m.t.len → 0 < m.t.L r → b ≤ m.RB r
theorem Mat.From.mono {m : Mat} {b c : Nat} (h : m.From b) (hc : c ≤ b) : m.From c := ⟨fun h0 => Nat.le_trans hc (h.gb h0), fun r hr h0 => Nat.le_trans hc (h.rows r hr h0)⟩
theorem cell_other {W : World} {B C i j : Nat} (hne : B ≠ C) (v : Value) : (W.setCell ⟨C, i, none⟩ v).cell? ⟨B, j, none⟩ = W.cell? ⟨B, j, none⟩ :=
  World.cell?_of_block (by
    show (W.heap.modify C _)[B]? = _
    rw [Array.getElem?_modify, if_neg (Ne.symm hne)])

theorem Mat.In.other {m : Mat} {n b C i : Nat} {w : World} (h : m.In n w) (hf : m.From b) (hC : C < b) (v : Value) : m.In n (w.setCell ⟨C, i, none⟩ v) where
  ga := h.ga
  gb := h.gb
  row := fun r hr => by rw [cell_other (by have := hf.gb (by omega); omega)]; exact h.row r hr
  addr := h.addr
  cell := fun r hr c hc => by rw [cell_other (by have := hf.rows r hr (by omega); omega)]; exact h.cell r hr c hc
  len := h.len
  lens := h.lens

/-- Three stores into a block of three cells. -/
def set3 (W : World) (B : Nat) (v0 v1 v2 : Value) : World := ((W.setCell ⟨B, 0, none⟩ v0).setCell ⟨B, 1, none⟩ v1).setCell ⟨B, 2, none⟩ v2
theorem Blk.set3 {W : World} {B : Nat} {t : TypeId} {u0 u1 u2 : Value} (h : Blk W B #[u0, u1, u2] t) (v0 v1 v2 : Value) : Blk (set3 W B v0 v1 v2) B #[v0, v1, v2] t := by
  have := ((h.set 0 v0).set 1 v1).set 2 v2
  unfold YtjhkadffaephmabGreat.set3
  simpa using this
theorem below3 {W W' : World} {k B : Nat} (h : Below k W W') (hk : k ≤ B) (v0 v1 v2 : Value) : Below k W (set3 W' B v0 v1 v2) :=
  ((h.setCell (p := ⟨B, 0, none⟩) hk _).setCell (p := ⟨B, 1, none⟩) hk _).setCell (p := ⟨B, 2, none⟩) hk _

end Go.Proofs.YtjhkadffaephmabGreat

/-
  Tables that were made by append: each row in a block of its own.
-/
namespace Go.Proofs.YtjhkadffaephmabGreat
set_option maxRecDepth 100000
open Go.RowKit

theorem below_grown {w w' : World} (h : Below w.heap.size w w') : w.grownBy w' none := ⟨h.os, h.tape, h.output, h.size, fun i hi _ => h.block i hi⟩
theorem owns_below {w w' : World} {base : Nat} {e : TypeId} {size : Nat} {v : Value} {n : Nat} {xs : List Value} (h : w.ownsRow base e size v n xs) (hb : Below w.heap.size w w') : w'.ownsRow base e size v n xs :=
  h.kept (below_grown hb) (by cases v.ownBlock <;> simp)
theorem grown_below {w w' : World} {row : Option Nat} {B : Nat} (h : w.grownBy w' row) (hr : ∀ g, row = some g → B ≤ g) (hB : B ≤ w.heap.size) : Below B w w' where
  os := h.os
  tape := h.tape
  output := h.output
  size := h.size
  block := fun k hk => h.block k (by omega) (fun e => by have := hr k e.symm; omega)

/-- n numbers, as values. -/
def intsL (f : Nat → Int) (n : Nat) : List Value := (List.range n).map fun j => Value.int .i64 (f j)
theorem intsL_succ (f : Nat → Int) (n : Nat) : intsL f (n + 1) = intsL f n ++ [.int .i64 (f n)] := by simp [intsL, List.range_succ]
theorem intsL_len (f : Nat → Int) (n : Nat) : (intsL f n).length = n := by simp [intsL]
theorem intsL_get {f : Nat → Int} {n j : Nat} (h : j < n) : (intsL f n)[j]? = some (.int .i64 (f j)) := by simp [intsL, h]
end Go.Proofs.YtjhkadffaephmabGreat

/-
  Packets: plain mathematics. The sum of bytes; what is written; what is read; one byte turned.
-/
namespace Go.Proofs.YtjhkadffaephmabGreat

/-- A packet by its numbers. -/
structure Pkt where
  F : Int
  T : Int
  n : Nat
  R : Nat → Int

def u8 (x : Int) : UInt8 := UInt8.ofNat x.toNat
theorem u8_toNat {x : Int} (h0 : 0 ≤ x) (h1 : x < 256) : ((u8 x).toNat : Int) = x := by
  unfold u8
  rw [UInt8.toNat_ofNat']
  omega
theorem u8_of (b : UInt8) : u8 (b.toNat : Int) = b := by
  unfold u8
  rw [Int.toNat_natCast]
  exact UInt8.ofNat_toNat

def sumStep (s : Nat) (b : UInt8) : Nat := (31 * s + b.toNat) % 65521
def sumOf (l : List UInt8) : Nat := l.foldl sumStep 1
theorem sumStep_lt (s : Nat) (b : UInt8) : sumStep s b < 65521 := Nat.mod_lt _ (by decide)
theorem sumFold_lt : ∀ (l : List UInt8) (s : Nat), s < 65521 → l.foldl sumStep s < 65521
  | [], _, h => h
  | b :: l, s, _ => sumFold_lt l _ (sumStep_lt s b)
theorem sumOf_lt (l : List UInt8) : sumOf l < 65521 := sumFold_lt l 1 (by decide)
theorem sumOf_snoc (l : List UInt8) (b : UInt8) : sumOf (l ++ [b]) = sumStep (sumOf l) b := by
  simp [sumOf, List.foldl_append]
def inB (x : Int) : Bool := decide (0 ≤ x) && decide (x ≤ 250)
def Pkt.routesIn (p : Pkt) : Bool := (List.range p.n).all fun i => inB (p.R i)
theorem Pkt.routesIn_iff {p : Pkt} : p.routesIn = true ↔ ∀ i, i < p.n → 0 ≤ p.R i ∧ p.R i ≤ 250 := by
  simp [Pkt.routesIn, inB]
theorem Pkt.routesIn_false {p : Pkt} {i : Nat} (h : i < p.n) (hn : ¬ (0 ≤ p.R i ∧ p.R i ≤ 250)) : p.routesIn = false := by
  rw [Bool.eq_false_iff]; intro hw; exact hn (Pkt.routesIn_iff.1 hw i h)
def Pkt.inRange (p : Pkt) : Bool := inB p.F && inB p.T && p.routesIn
def Pkt.routes (p : Pkt) : List UInt8 := (List.range p.n).map fun i => u8 (p.R i)
def Pkt.body (p : Pkt) : List UInt8 := [83, u8 p.F, u8 p.T, u8 p.n] ++ p.routes
def tailOf (s : Nat) : List UInt8 := [UInt8.ofNat (s / 256), UInt8.ofNat (s % 256)]
def Pkt.bytes (p : Pkt) : List UInt8 := p.body ++ tailOf (sumOf p.body)
def Pkt.err (p : Pkt) : Int := if p.inRange = false then 3 else if 60 < p.n + 6 then 2 else 0
def Pkt.text (p : Pkt) : List UInt8 := if p.err = 0 then p.bytes else []
theorem Pkt.routes_length (p : Pkt) : p.routes.length = p.n := by simp [Pkt.routes]
theorem Pkt.body_length (p : Pkt) : p.body.length = p.n + 4 := by simp [Pkt.body, Pkt.routes_length]
theorem Pkt.bytes_length (p : Pkt) : p.bytes.length = p.n + 6 := by simp [Pkt.bytes, Pkt.body_length, tailOf]
theorem Pkt.err_ok {p : Pkt} (h : p.err = 0) : p.inRange = true ∧ p.n + 6 ≤ 60 := by
  unfold Pkt.err at h
  split at h
  · cases h
  · next h1 =>
    split at h
    · cases h
    · next h2 => exact ⟨by simpa using h1, by omega⟩
theorem Pkt.err_of {p : Pkt} (h : p.inRange = true) (h2 : p.n + 6 ≤ 60) : p.err = 0 := by
  unfold Pkt.err
  rw [if_neg (by simp [h]), if_neg (by omega)]

/-- Two packets that tell the same. -/
def Pkt.same (p q : Pkt) : Prop := p.F = q.F ∧ p.T = q.T ∧ p.n = q.n ∧ ∀ i, i < p.n → p.R i = q.R i
theorem Pkt.same_inRange {p q : Pkt} (h : p.same q) : p.inRange = q.inRange := by
  have e : p.routesIn = q.routesIn := by
    rw [Bool.eq_iff_iff, Pkt.routesIn_iff, Pkt.routesIn_iff]
    constructor
    · intro k i hi; have := h.2.2.1; rw [← h.2.2.2 i (by omega)]; exact k i (by omega)
    · intro k i hi; have := h.2.2.1; rw [h.2.2.2 i hi]; exact k i (by omega)
  unfold Pkt.inRange; rw [h.1, h.2.1, e]
theorem Pkt.same_routes {p q : Pkt} (h : p.same q) : p.routes = q.routes := by
  unfold Pkt.routes
  rw [h.2.2.1]
  apply List.map_congr_left
  intro i hi
  rw [h.2.2.2 i (by rw [h.2.2.1]; simpa using hi)]
theorem Pkt.same_bytes {p q : Pkt} (h : p.same q) : p.bytes = q.bytes := by
  unfold Pkt.bytes Pkt.body
  rw [Pkt.same_routes h, h.1, h.2.1, h.2.2.1]
theorem Pkt.same_err {p q : Pkt} (h : p.same q) : p.err = q.err := by
  unfold Pkt.err; rw [Pkt.same_inRange h, h.2.2.1]
theorem Pkt.same_text {p q : Pkt} (h : p.same q) : p.text = q.text := by
  unfold Pkt.text; rw [Pkt.same_err h, Pkt.same_bytes h]

/-- What bytes would be of. -/
def packet (l : List UInt8) : Pkt := ⟨((l.getD 1 0).toNat : Int), ((l.getD 2 0).toNat : Int), l.length - 6, fun i => ((l.getD (4 + i) 0).toNat : Int)⟩
def readErr (l : List UInt8) : Int := if 60 < l.length then 2 else if l.length < 6 then 1 else if (packet l).err = 0 ∧ (packet l).bytes = l then 0 else 1
/-- What is read of bytes: the packet, or the empty one. -/
def readOf (l : List UInt8) : Pkt := if readErr l = 0 then packet l else ⟨0, 0, 0, fun _ => 0⟩

theorem tailOf_iff {s : Nat} (h : s < 65521) (x y : UInt8) : tailOf s = [x, y] ↔ s = 256 * x.toNat + y.toNat := by
  have hx := x.toNat_lt
  have hy := y.toNat_lt
  unfold tailOf
  constructor
  · intro e
    injection e with e1 e2
    injection e2 with e2 _
    have h1 := congrArg UInt8.toNat e1
    have h2 := congrArg UInt8.toNat e2
    rw [UInt8.toNat_ofNat'] at h1 h2
    omega
  · intro e
    have h1 : UInt8.ofNat (s / 256) = x := by
      apply UInt8.toNat_inj.1
      rw [UInt8.toNat_ofNat']; omega
    have h2 : UInt8.ofNat (s % 256) = y := by
      apply UInt8.toNat_inj.1
      rw [UInt8.toNat_ofNat']; omega
    rw [h1, h2]

theorem split6 : ∀ (l : List UInt8), 6 ≤ l.length → ∃ a b c d r x y, l = [a, b, c, d] ++ r ++ [x, y] := by
  intro l h
  match l, h with
  | a :: b :: c :: d :: m, h =>
    have hm : 2 ≤ m.length := by simp at h; omega
    refine ⟨a, b, c, d, m.take (m.length - 2), m[m.length - 2], m[m.length - 1], ?_⟩
    have : m.drop (m.length - 2) = [m[m.length - 2], m[m.length - 1]] := by
      apply List.ext_getElem
      · simp; omega
      · intro i h1 h2
        simp at h2
        match i, h2 with
        | 0, _ => simp
        | 1, _ => simp; congr 1; omega
    rw [List.append_assoc, ← this, List.take_append_drop]
    rfl
theorem packet_split (a b c d : UInt8) (r : List UInt8) (x y : UInt8) : (packet ([a, b, c, d] ++ r ++ [x, y])).same ⟨(b.toNat : Int), (c.toNat : Int), r.length, fun i => ((r.getD i 0).toNat : Int)⟩ := by
  refine ⟨by simp [packet], by simp [packet], by simp [packet], ?_⟩
  intro i hi
  simp [packet] at hi
  have h2 : ([a, b, c, d] ++ r ++ [x, y]).getD (4 + i) 0 = r.getD i 0 := by
    have e : [a, b, c, d] ++ r ++ [x, y] = [a, b, c, d] ++ (r ++ [x, y]) := by simp
    rw [e, List.getD_eq_getElem?_getD, List.getElem?_append_right (by simp), List.getElem?_append_left (by simpa using hi), List.getD_eq_getElem?_getD]
    simp
  show (((([a, b, c, d] ++ r ++ [x, y]).getD (4 + i) 0).toNat : Nat) : Int) = _
  rw [h2]
theorem routes_list (r : List UInt8) (F T : Int) : (Pkt.mk F T r.length fun i => ((r.getD i 0).toNat : Int)).routes = r := by
  apply List.ext_getElem
  · simp [Pkt.routes]
  · intro i h1 h2
    simp only [Pkt.routes, List.getElem_map, List.getElem_range, u8_of]
    rw [List.getD_eq_getElem?_getD, List.getElem?_eq_getElem h2]; rfl

/-- What makes bytes a packet's. -/
theorem bytes_iff {a b c d : UInt8} {r : List UInt8} {x y : UInt8} (h : r.length ≤ 54) :
    (packet ([a, b, c, d] ++ r ++ [x, y])).bytes = [a, b, c, d] ++ r ++ [x, y] ↔ a = 83 ∧ d.toNat = r.length ∧ sumOf ([a, b, c, d] ++ r) = 256 * x.toNat + y.toNat := by
  rw [Pkt.same_bytes (packet_split a b c d r x y)]
  unfold Pkt.bytes Pkt.body
  rw [routes_list]
  simp only [u8_of]
  have hlen : (u8 (r.length : Int)).toNat = r.length := by
    have := u8_toNat (x := (r.length : Int)) (by omega) (by omega)
    omega
  constructor
  · intro e
    obtain ⟨e1, e2⟩ := List.append_inj' e (by simp [tailOf])
    simp only [List.cons_append, List.nil_append, List.cons.injEq] at e1
    obtain ⟨rfl, _, _, rfl, _⟩ := e1
    exact ⟨rfl, hlen, (tailOf_iff (sumOf_lt _) x y).1 e2⟩
  · rintro ⟨rfl, e, hs⟩
    have hd : u8 (r.length : Int) = d := UInt8.toNat_inj.1 (by rw [hlen, e])
    rw [hd, (tailOf_iff (sumOf_lt _) x y).2 hs]

end Go.Proofs.YtjhkadffaephmabGreat

/-
  Packets in memory; wire.sum, wire.Write.
-/
namespace Go.Proofs.YtjhkadffaephmabGreat
set_option maxRecDepth 100000
open Go.RowKit

/-- Bytes in memory. -/
structure Bytes (a : Option Addr) (l : List UInt8) (b o : Nat) (w : World) : Prop where
  addr : 0 < l.length → a = some ⟨b, o, none⟩
  cell : ∀ (i : Nat) (h : i < l.length), w.cell? ⟨b, o + i, none⟩ = some (.int .u8 (l[i].toNat : Int))

def bytesL (l : List UInt8) : List Value := l.map fun b => Value.int .u8 (b.toNat : Int)
theorem bytesL_len (l : List UInt8) : (bytesL l).length = l.length := by simp [bytesL]
theorem bytesL_append (l m : List UInt8) : bytesL (l ++ m) = bytesL l ++ bytesL m := by simp [bytesL]
theorem bytesL_get {l : List UInt8} {i : Nat} (h : i < l.length) : (bytesL l)[i]? = some (.int .u8 (l[i].toNat : Int)) := by simp [bytesL, h]
def txt (l : List UInt8) : Value := .string ⟨l.toArray⟩

set_option maxHeartbeats 1000000 in
theorem sum_any (a : Option Addr) (l : List UInt8) (c b o : Nat) (w : World) (h : Bytes a l b o w) (hl : l.length ≤ 100) :
    Calls Tryz.prog 92 #[.slice a l.length c] w fun e w' => e = .returned (.int .i64 ((sumOf l : Nat) : Int)) ∧ w' = w := by
  have H := hide h
  have HE : Hid (sumOf (l.take l.length) = sumOf l) := hide (by rw [List.take_length])
  clear h
  go_enter Tryz.func92, Tryz.ntmps92
  go_wp2
  go_loop [3, 5, 8] (fun s _ i => ∃ k : Nat, k ≤ l.length ∧ i = .int .i64 k ∧ s = .int .i64 ((sumOf (l.take k) : Nat) : Int)) (fun _ _ i => l.length - (intOf i).toNat)
  case atStart => exact ⟨0, Nat.zero_le _, rfl, rfl⟩
  case round =>
    obtain ⟨k, hk, rfl, rfl⟩ := hrel
    by_cases hlt : k < l.length
    · have ha := H.out.addr (by omega)
      have hc := H.out.cell k hlt
      have hs := sumOf_lt (l.take k)
      have hb := (l[k]).toNat_lt
      have Hn : Hid (sumOf (l.take (k + 1)) = (31 * sumOf (l.take k) + (l[k]).toNat) % 65521) := hide (by rw [List.take_succ_eq_append_getElem hlt, sumOf_snoc]; rfl)
      generalize sumOf (l.take k) = s at *
      generalize (l[k]).toNat = bv at *
      have hki : (k : Int) < (l.length : Int) := by omega
      go_wp2
      go_round
      case rel => exact ⟨k + 1, by omega, by go_num, by rw [Hn.out]; go_num⟩
      case measure => simp [intOf]; omega
    · have hkn : k = l.length := by omega
      subst hkn
      rw [HE.out]
      go_wp2
      go_ret
      exact ⟨rfl, rfl⟩

theorem calls_write1 (args : Array Value) (W : World) : (callFunc 91 args).run Tryz.prog W = .ok (.enter 91 args) W := by rfl

set_option maxHeartbeats 400000 in
theorem write1_any (x : Int) (w : World) :
    Calls Tryz.prog 91 #[.int .i64 x] w fun e w' => e = .returned (.bool (!inB x)) ∧ w' = w := by
  by_cases h : x < 0
  · have Hv : Hid (inB x = false) := hide (by unfold inB; simp; omega)
    go_enter Tryz.func91, Tryz.ntmps91
    go_wp2
    go_ret
    exact ⟨by rw [Hv.out]; rfl, rfl⟩
  · by_cases h2 : 250 < x
    · have Hv : Hid (inB x = false) := hide (by unfold inB; simp; omega)
      go_enter Tryz.func91, Tryz.ntmps91
      go_wp2
      go_ret
      exact ⟨by rw [Hv.out]; simp, rfl⟩
    · have Hv : Hid (inB x = true) := hide (by unfold inB; simp; omega)
      go_enter Tryz.func91, Tryz.ntmps91
      go_wp2
      go_ret
      exact ⟨by rw [Hv.out]; simp, rfl⟩

/-- A packet in memory. -/
structure PktM where
  F : Int
  T : Int
  ra : Option Addr
  n : Nat
  rc : Nat
  rb : Nat
  ro : Nat
  R : Nat → Int
def PktM.cells (p : PktM) : Array Value := #[.int .i64 p.F, .int .i64 p.T, .slice p.ra p.n p.rc]
def PktM.val (p : PktM) : Value := .agg p.cells
def PktM.pkt (p : PktM) : Pkt := ⟨p.F, p.T, p.n, p.R⟩
structure PktM.In (p : PktM) (N : Nat) (w : World) : Prop where
  ints : Ints p.ra p.n p.rb p.ro p.R w
  lt : 0 < p.n → p.rb < N
  small : p.n ≤ 17592186044416
theorem PktM.In.below {p : PktM} {N k : Nat} {w w' : World} (h : p.In N w) (hb : Below k w w') (hk : N ≤ k) : p.In N w' := ⟨h.ints.below hb (fun h0 => Nat.lt_of_lt_of_le (h.lt h0) hk), h.lt, h.small⟩
theorem PktM.In.grown {p : PktM} {w w' : World} (h : p.In w.heap.size w) (hb : Below w.heap.size w w') : p.In w'.heap.size w' := ⟨(h.below hb (Nat.le_refl _)).ints, fun h0 => Nat.lt_of_lt_of_le (h.lt h0) hb.size, h.small⟩

theorem Pkt.routes_any (p : Pkt) : ((List.range p.n).any fun i => !inB (p.R i)) = !p.routesIn := by
  unfold Pkt.routesIn
  rw [List.all_eq_not_any_not, Bool.not_not]

theorem Tryz.infoByte : (Tryz.prog.info? 5).map (fun i => (i.zero, i.size, i.bytes)) = some (some (.int .u8 0), 1, 1) := by kernel_rfl
theorem wrap_u8 {x : Int} (h0 : 0 ≤ x) (h1 : x < 256) : IntKind.u8.wrap x = x := by
  simp [IntKind.wrap, IntKind.bits, IntKind.signed]; omega

end Go.Proofs.YtjhkadffaephmabGreat

/-
  Schedules: plain mathematics. What nodes that look one at a time come to; cycles; strict algebras settle, whoever looks when.
-/
namespace Go.Proofs.YtjhkadffaephmabGreat

/-- A schedule by its numbers. -/
structure Sched where
  tn : Nat
  al : Nat → Nat
  act : Nat → Nat → Bool
  ages : Nat → Tab

section
variable {n : Net} {s : Sched}

end

end Go.Proofs.YtjhkadffaephmabGreat
