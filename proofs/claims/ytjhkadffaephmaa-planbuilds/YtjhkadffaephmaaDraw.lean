/-
  A region that draws its order, by what each operation leaves: one obligation an operation, not one an order.
-/
import Derived.RegionTactic
import Derived.Deep.RegionWith
namespace Go.Proofs.Ytjhkadffaephmaa
open Go

section
variable {P : Program} {ops : Array Oper} {Q : Exit → Act → World → Prop} {md : Region.Mode}

/-- t, but v at i. -/
def upd (t : Nat → Value) (i : Nat) (v : Value) : Nat → Value := fun j => if j = i then v else t j
theorem upd_same (t : Nat → Value) (i : Nat) (v : Value) : upd t i v i = v := by simp [upd]
theorem upd_other (t : Nat → Value) {i j : Nat} (v : Value) (h : j ≠ i) : upd t i v j = t j := by simp [upd, h]

/-- The frame with the operations' values in their slots. -/
def fill : List Oper → Nat → (Nat → Value) → Act → Act
  | [], _, _, a => a
  | o :: os, i, t, a => fill os (i + 1) t (a.put o.dst (t i))

/-- No two operations write one slot. -/
def apartFrom (d : Option Tmp) : List Oper → Bool
  | [] => true
  | o :: os => (match d, o.dst with | some x, some y => !(x == y) | _, _ => true) && apartFrom d os
def allApart : List Oper → Bool
  | [] => true
  | o :: os => apartFrom o.dst os && allApart os

theorem put_put (a : Act) (d : Option Tmp) (u v : Value) : (a.put d u).put d v = a.put d v := by
  cases d <;> simp [Act.put]

theorem fill_put (d : Option Tmp) (v : Value) : ∀ (os : List Oper) (i : Nat) (t : Nat → Value) (a : Act), apartFrom d os = true →
    fill os i t (a.put d v) = (fill os i t a).put d v
  | [], _, _, _, _ => rfl
  | o :: os, i, t, a, h => by
    simp only [apartFrom, Bool.and_eq_true] at h
    have hc : (a.put d v).put o.dst (t i) = (a.put o.dst (t i)).put d v := Act.put_comm a v (t i) (fun x hx hy => by
      subst hx
      rw [hy] at h
      simp at h)
    simp only [fill]
    rw [hc]
    exact fill_put d v os (i + 1) t _ h.2

theorem fill_same : ∀ (os : List Oper) (i k : Nat) (t : Nat → Value) (v : Value) (a : Act), k < i → fill os i (upd t k v) a = fill os i t a
  | [], _, _, _, _, _, _ => rfl
  | o :: os, i, k, t, v, a, h => by
    simp only [fill]
    rw [upd_other t v (by omega)]
    exact fill_same os (i + 1) k t v _ (by omega)

theorem fill_upd : ∀ (os : List Oper) (k i : Nat) (o : Oper) (t : Nat → Value) (v : Value) (a : Act), allApart os = true → os[i]? = some o →
    fill os k (upd t (k + i) v) a = (fill os k t a).put o.dst v
  | [], _, _, _, _, _, _, _, h => by simp at h
  | o' :: os, k, 0, o, t, v, a, hd, h => by
    simp only [allApart, Bool.and_eq_true] at hd
    simp at h
    subst h
    simp only [fill, Nat.add_zero]
    rw [upd_same, fill_same os (k + 1) k t v _ (by omega), ← fill_put _ v os (k + 1) t _ hd.1, put_put]
  | o' :: os, k, i + 1, o, t, v, a, hd, h => by
    simp only [allApart, Bool.and_eq_true] at hd
    simp at h
    simp only [fill]
    rw [upd_other t v (by omega)]
    have := fill_upd os (k + 1) i o t v (a.put o'.dst (t k)) hd.2 h
    rw [show k + (i + 1) = k + 1 + i by omega]
    exact this

/-- What lies in the operation's slot as the region begins. -/
def first (os : List Oper) (a : Act) (i : Nat) : Value :=
  match os[i]? with
  | some o => match o.dst with
    | some d => a.tmps.getD d undef
    | none => undef
  | none => undef

theorem put_self (a : Act) (d : Nat) : a.put (some d) (a.tmps.getD d undef) = a := by
  have h : a.tmps.setIfInBounds d (a.tmps.getD d undef) = a.tmps := by
    apply Array.ext
    · simp
    · intro j h1 h2
      by_cases hj : d = j
      · subst hj; simp [h2]
      · exact Array.getElem_setIfInBounds_ne h2 hj
  cases a
  simp only [Act.put] at h ⊢
  simp only [h]

theorem fill_self : ∀ (os : List Oper) (k : Nat) (t : Nat → Value) (a : Act), (∀ i o, os[i]? = some o → a.put o.dst (t (k + i)) = a) → fill os k t a = a
  | [], _, _, _, _ => rfl
  | o :: os, k, t, a, h => by
    simp only [fill]
    have h0 := h 0 o rfl
    rw [Nat.add_zero] at h0
    rw [h0]
    exact fill_self os (k + 1) t a (fun i o' hi => by
      have := h (i + 1) o' (by simpa using hi)
      rw [show k + 1 + i = k + (i + 1) by omega]
      exact this)

theorem fill_first (os : List Oper) (a : Act) : fill os 0 (first os a) a = a := fill_self os 0 _ a (fun i o hi => by
  rw [Nat.zero_add]
  unfold first
  simp only [hi]
  cases hd : o.dst with
  | none => rfl
  | some d => exact put_self a d)

/-- Edges lead back. -/
def backOnly : List Oper → Nat → Bool
  | [], _ => true
  | o :: os, i => o.after.all (fun e => decide (e.on < i)) && backOnly os (i + 1)
theorem backOnly_spec : ∀ (os : List Oper) (k i : Nat) (o : Oper), backOnly os k = true → os[i]? = some o → ∀ e ∈ o.after, e.on < k + i
  | [], _, _, _, _, h => by simp at h
  | o' :: os, k, 0, o, hb, h => fun e he => by
    simp only [backOnly, Bool.and_eq_true, Array.all_eq_true_iff_forall_mem] at hb
    simp at h
    subst h
    simpa using hb.1 e he
  | o' :: os, k, i + 1, o, hb, h => fun e he => by
    simp only [backOnly, Bool.and_eq_true] at hb
    have := backOnly_spec os (k + 1) i o hb.2 (by simpa using h) e he
    omega

/-- What an operation waits for. -/
def waits (md : Region.Mode) (o : Oper) : List Nat := (o.after.toList.filter (fun e => Region.binds md e)).map (·.on)

/-- Each operation, from what those that it waits for have left: it keeps what the others have left, and leaves its own. -/
def EachOp (P : Program) (md : Region.Mode) (ops : Array Oper) (Q : Exit → Act → World → Prop) (G : World → Prop) (E : Nat → Value → World → Prop) (a0 : Act) : List Oper → Nat → Prop
  | [], _ => True
  | o :: os, i => (∀ (t : Nat → Value) (w : World), G w → (∀ j ∈ waits md o, E j (t j) w) →
      ∀ K : Act → World → Prop, (∀ v w', G w' → E i v w' → (∀ j u, j ≠ i → E j u w → E j u w') → K ((fill ops.toList 0 t a0).put o.dst v) w') →
        if Region.wanted o (yielded ops (fill ops.toList 0 t a0).tmps) = true then Oper.wp P o (fill ops.toList 0 t a0) w K Q else K ((fill ops.toList 0 t a0).put o.dst undef) w) ∧
    EachOp P md ops Q G E a0 os (i + 1)

theorem EachOp.at {G : World → Prop} {E : Nat → Value → World → Prop} {a0 : Act} : ∀ (os : List Oper) (k i : Nat) (o : Oper), EachOp P md ops Q G E a0 os k → os[i]? = some o →
    ∀ (t : Nat → Value) (w : World), G w → (∀ j ∈ waits md o, E j (t j) w) →
      ∀ K : Act → World → Prop, (∀ v w', G w' → E (k + i) v w' → (∀ j u, j ≠ k + i → E j u w → E j u w') → K ((fill ops.toList 0 t a0).put o.dst v) w') →
        if Region.wanted o (yielded ops (fill ops.toList 0 t a0).tmps) = true then Oper.wp P o (fill ops.toList 0 t a0) w K Q else K ((fill ops.toList 0 t a0).put o.dst undef) w
  | [], _, _, _, _, h => by simp at h
  | o' :: os, k, 0, o, he, h => by
    simp at h
    subst h
    exact he.1
  | o' :: os, k, i + 1, o, he, h => by
    have := EachOp.at os (k + 1) i o he.2 (by simpa using h)
    rw [show k + 1 + i = k + (i + 1) by omega] at this
    exact this

theorem wpAny_each {G : World → Prop} {E : Nat → Value → World → Prop} {a0 : Act} (hap : allApart ops.toList = true) (hb : backOnly ops.toList 0 = true)
    (hs : EachOp P md ops Q G E a0 ops.toList 0)
    (hend : ∀ (t : Nat → Value) (w : World), G w → (∀ i, i < ops.size → E i (t i) w) → Q .normal (fill ops.toList 0 t a0) w) :
    ∀ (fuel : Nat) (l : Array Bool) (t : Nat → Value) (w : World), l.size = ops.size → (l.toList.filter (· == false)).length ≤ fuel → G w →
      (∀ i, i < ops.size → l.getD i false = true → E i (t i) w) → wpAny P md ops Q fuel l (fill ops.toList 0 t a0) w := by
  have hall : ∀ (l : Array Bool), l.size = ops.size → Region.ready md ops l = [] → ∀ i, i < ops.size → l.getD i false = true := by
    intro l hl hr i
    induction i using Nat.strongRecOn with
    | _ i ih =>
      intro hi
      cases hg : l.getD i false with
      | true => rfl
      | false =>
        exfalso
        have hm : i ∈ Region.ready md ops l := by
          refine mem_ready.2 ⟨?_, ops[i], by simp [hi], fun e he _ => ?_⟩
          · simp [hl, hi] at hg ⊢; exact hg
          · have := backOnly_spec ops.toList 0 i ops[i] hb (by simp [hi]) e he
            exact ih e.on (by omega) (by omega)
        rw [hr] at hm
        cases hm
  intro fuel
  induction fuel with
  | zero =>
    intro l t w hl hf hG hE
    have hr : Region.ready md ops l = [] := by
      apply List.eq_nil_iff_forall_not_mem.2
      intro i hi
      obtain ⟨h0, o, ho, -⟩ := mem_ready.1 hi
      have hlt : i < l.size := by rw [hl]; exact (Array.getElem?_eq_some_iff.1 ho).1
      have hz : l.toList.filter (· == false) = [] := List.eq_nil_of_length_eq_zero (by omega)
      have : l[i] ∈ l.toList.filter (· == false) := by
        rw [List.mem_filter]
        refine ⟨by simp, ?_⟩
        simpa [hlt] using h0
      rw [hz] at this
      cases this
    exact ⟨hr, hend t w hG (fun i hi => hE i hi (hall l hl hr i hi))⟩
  | succ fuel ih =>
    intro l t w hl hf hG hE
    refine ⟨fun hr => hend t w hG (fun i hi => hE i hi (hall l hl hr i hi)), fun i hi => ?_⟩
    obtain ⟨h0, o, ho, haf⟩ := mem_ready.1 hi
    have hlt : i < ops.size := (Array.getElem?_eq_some_iff.1 ho).1
    refine wpOp_step ho (fun K' hK => ?_)
    have hat := EachOp.at ops.toList 0 i o hs (by simpa using ho) t w hG (fun j hj => by
      simp only [waits, List.mem_map, List.mem_filter] at hj
      obtain ⟨e, ⟨he, hbi⟩, rfl⟩ := hj
      have h1 := haf e (by simpa using he) hbi
      refine hE e.on ?_ h1
      rcases Nat.lt_or_ge e.on l.size with h' | h'
      · omega
      · simp [Array.getElem?_eq_none h'] at h1) K'
    refine hat (fun v w' hG' hEi hkeep => hK _ _ ?_)
    rw [Nat.zero_add] at hEi hkeep
    have hfu := fill_upd ops.toList 0 i o t v a0 hap (by simpa using ho)
    rw [Nat.zero_add] at hfu
    rw [← hfu]
    refine ih (l.setIfInBounds i true) (upd t i v) w' (by simp [hl]) ?_ hG' (fun j hj hlj => ?_)
    · have hcount : ∀ (ls : List Bool) (k : Nat), ls[k]? = some false → ((ls.set k true).filter (· == false)).length + 1 = (ls.filter (· == false)).length := by
        intro ls
        induction ls with
        | nil => intro k h; simp at h
        | cons b bs ihl =>
          intro k h
          cases k with
          | zero => simp at h; subst h; simp
          | succ k =>
            have := ihl k (by simpa using h)
            cases b <;> simp_all
      have := hcount l.toList i (by
        have hli : i < l.size := by omega
        simp [hli] at h0 ⊢
        exact h0)
      rw [Array.toList_setIfInBounds]
      omega
    · by_cases hji : j = i
      · subst hji; rw [upd_same]; exact hEi
      · rw [upd_other t v hji]
        rw [getD_set_ne false (Ne.symm hji)] at hlj
        exact hkeep j (t j) hji (hE j hj hlj)

theorem wp_region_each {id : Nat} {a : Act} {w : World} (G : World → Prop) (E : Nat → Value → World → Prop) (hm : P.follows .mixedOrders = true)
    (hap : allApart ops.toList = true) (hb : backOnly ops.toList 0 = true) (hG : G w.drew)
    (hs : EachOp P .any ops Q G E a ops.toList 0)
    (hend : ∀ (t : Nat → Value) (w : World), G w → (∀ i, i < ops.size → E i (t i) w) → Q .normal (fill ops.toList 0 t a) w) :
    (Code.region id ops true).wp P Q a w := by
  refine wp_region_any hm ?_
  have := wpAny_each (md := .any) hap hb hs hend ops.size (Array.replicate ops.size false) (first ops.toList a) w.drew (by simp) (by simp) hG (fun i hi h => by simp [hi] at h)
  rw [fill_first] at this
  exact this

/-- d, but true at i. -/
def updB (d : Nat → Bool) (i : Nat) : Nat → Bool := fun j => if j = i then true else d j

/-- Edges that bind lead back. -/
def backBinds (md : Region.Mode) : List Oper → Nat → Bool
  | [], _ => true
  | o :: os, i => o.after.all (fun e => !(Region.binds md e) || decide (e.on < i)) && backBinds md os (i + 1)
theorem backBinds_spec (md : Region.Mode) : ∀ (os : List Oper) (k i : Nat) (o : Oper), backBinds md os k = true → os[i]? = some o → ∀ e ∈ o.after, Region.binds md e = true → e.on < k + i
  | [], _, _, _, _, h => by simp at h
  | o' :: os, k, 0, o, hb, h => fun e he hbi => by
    simp only [backBinds, Bool.and_eq_true, Array.all_eq_true_iff_forall_mem] at hb
    simp at h
    subst h
    have := hb.1 e he
    simpa [hbi] using this
  | o' :: os, k, i + 1, o, hb, h => fun e he hbi => by
    simp only [backBinds, Bool.and_eq_true] at hb
    have := backBinds_spec md os (k + 1) i o hb.2 (by simpa using h) e he hbi
    omega

/-- Each operation, from what holds of all that were carried out: d tells which, t what they left. -/
def EachI (P : Program) (md : Region.Mode) (ops : Array Oper) (Q : Exit → Act → World → Prop) (I : (Nat → Bool) → (Nat → Value) → World → Prop) (a0 : Act) : List Oper → Nat → Prop
  | [], _ => True
  | o :: os, i => (∀ (d : Nat → Bool) (t : Nat → Value) (w : World), I d t w → d i = false → (∀ j ∈ waits md o, d j = true) →
      ∀ K : Act → World → Prop, (∀ v w', I (updB d i) (upd t i v) w' → K ((fill ops.toList 0 t a0).put o.dst v) w') →
        if Region.wanted o (yielded ops (fill ops.toList 0 t a0).tmps) = true then Oper.wp P o (fill ops.toList 0 t a0) w K Q else K ((fill ops.toList 0 t a0).put o.dst undef) w) ∧
    EachI P md ops Q I a0 os (i + 1)

theorem EachI.at {I : (Nat → Bool) → (Nat → Value) → World → Prop} {a0 : Act} : ∀ (os : List Oper) (k i : Nat) (o : Oper), EachI P md ops Q I a0 os k → os[i]? = some o →
    ∀ (d : Nat → Bool) (t : Nat → Value) (w : World), I d t w → d (k + i) = false → (∀ j ∈ waits md o, d j = true) →
      ∀ K : Act → World → Prop, (∀ v w', I (updB d (k + i)) (upd t (k + i) v) w' → K ((fill ops.toList 0 t a0).put o.dst v) w') →
        if Region.wanted o (yielded ops (fill ops.toList 0 t a0).tmps) = true then Oper.wp P o (fill ops.toList 0 t a0) w K Q else K ((fill ops.toList 0 t a0).put o.dst undef) w
  | [], _, _, _, _, h => by simp at h
  | o' :: os, k, 0, o, he, h => by
    simp at h
    subst h
    exact he.1
  | o' :: os, k, i + 1, o, he, h => by
    have := EachI.at os (k + 1) i o he.2 (by simpa using h)
    rw [show k + 1 + i = k + (i + 1) by omega] at this
    exact this

theorem wpAny_inv {I : (Nat → Bool) → (Nat → Value) → World → Prop} {a0 : Act} (hap : allApart ops.toList = true) (hb : backBinds md ops.toList 0 = true)
    (hs : EachI P md ops Q I a0 ops.toList 0)
    (hend : ∀ (d : Nat → Bool) (t : Nat → Value) (w : World), I d t w → (∀ i, i < ops.size → d i = true) → Q .normal (fill ops.toList 0 t a0) w) :
    ∀ (fuel : Nat) (l : Array Bool) (t : Nat → Value) (w : World), l.size = ops.size → (l.toList.filter (· == false)).length ≤ fuel →
      I (fun i => l.getD i false) t w → wpAny P md ops Q fuel l (fill ops.toList 0 t a0) w := by
  have hall : ∀ (l : Array Bool), l.size = ops.size → Region.ready md ops l = [] → ∀ i, i < ops.size → l.getD i false = true := by
    intro l hl hr i
    induction i using Nat.strongRecOn with
    | _ i ih =>
      intro hi
      cases hg : l.getD i false with
      | true => rfl
      | false =>
        exfalso
        have hm : i ∈ Region.ready md ops l := by
          refine mem_ready.2 ⟨?_, ops[i], by simp [hi], fun e he hbi => ?_⟩
          · simp [hl, hi] at hg ⊢; exact hg
          · have := backBinds_spec md ops.toList 0 i ops[i] hb (by simp [hi]) e he hbi
            exact ih e.on (by omega) (by omega)
        rw [hr] at hm
        cases hm
  intro fuel
  induction fuel with
  | zero =>
    intro l t w hl hf hI
    have hr : Region.ready md ops l = [] := by
      apply List.eq_nil_iff_forall_not_mem.2
      intro i hi
      obtain ⟨h0, o, ho, -⟩ := mem_ready.1 hi
      have hlt : i < l.size := by rw [hl]; exact (Array.getElem?_eq_some_iff.1 ho).1
      have hz : l.toList.filter (· == false) = [] := List.eq_nil_of_length_eq_zero (by omega)
      have : l[i] ∈ l.toList.filter (· == false) := by
        rw [List.mem_filter]
        refine ⟨by simp, ?_⟩
        simpa [hlt] using h0
      rw [hz] at this
      cases this
    exact ⟨hr, hend _ t w hI (fun i hi => hall l hl hr i hi)⟩
  | succ fuel ih =>
    intro l t w hl hf hI
    refine ⟨fun hr => hend _ t w hI (fun i hi => hall l hl hr i hi), fun i hi => ?_⟩
    obtain ⟨h0, o, ho, haf⟩ := mem_ready.1 hi
    have hlt : i < ops.size := (Array.getElem?_eq_some_iff.1 ho).1
    have hli : i < l.size := by omega
    refine wpOp_step ho (fun K' hK => ?_)
    have hat := EachI.at ops.toList 0 i o hs (by simpa using ho) _ t w hI (by simp [hli] at h0 ⊢; exact h0) (fun j hj => by
      simp only [waits, List.mem_map, List.mem_filter] at hj
      obtain ⟨e, ⟨he, hbi⟩, rfl⟩ := hj
      exact haf e (by simpa using he) hbi) K'
    refine hat (fun v w' hI' => hK _ _ ?_)
    rw [Nat.zero_add] at hI'
    have hfu := fill_upd ops.toList 0 i o t v a0 hap (by simpa using ho)
    rw [Nat.zero_add] at hfu
    rw [← hfu]
    have hd : (fun j => (l.setIfInBounds i true).getD j false) = updB (fun j => l.getD j false) i := by
      funext j
      unfold updB
      by_cases e : j = i
      · subst e; simp [hli]
      · rw [getD_set_ne false (Ne.symm e), if_neg e]
    refine ih (l.setIfInBounds i true) (upd t i v) w' (by simp [hl]) ?_ (by rw [hd]; exact hI')
    have hcount : ∀ (ls : List Bool) (k : Nat), ls[k]? = some false → ((ls.set k true).filter (· == false)).length + 1 = (ls.filter (· == false)).length := by
      intro ls
      induction ls with
      | nil => intro k h; simp at h
      | cons b bs ihl =>
        intro k h
        cases k with
        | zero => simp at h; subst h; simp
        | succ k =>
          have := ihl k (by simpa using h)
          cases b <;> simp_all
    have := hcount l.toList i (by
      simp [hli] at h0 ⊢
      exact h0)
    rw [Array.toList_setIfInBounds]
    omega

theorem wp_region_inv {id : Nat} {a : Act} {w : World} (I : (Nat → Bool) → (Nat → Value) → World → Prop) (hm : P.follows .mixedOrders = true)
    (hap : allApart ops.toList = true) (hb : backBinds .any ops.toList 0 = true) (h0 : ∀ t, I (fun _ => false) t w.drew)
    (hs : EachI P .any ops Q I a ops.toList 0)
    (hend : ∀ (d : Nat → Bool) (t : Nat → Value) (w : World), I d t w → (∀ i, i < ops.size → d i = true) → Q .normal (fill ops.toList 0 t a) w) :
    (Code.region id ops true).wp P Q a w := by
  refine wp_region_any hm ?_
  have hz : (fun i => (Array.replicate ops.size false).getD i false) = fun _ => false := by
    funext i
    by_cases hi : i < ops.size
    · simp [hi]
    · simp [hi]
  have := wpAny_inv (md := .any) hap hb hs hend ops.size (Array.replicate ops.size false) (first ops.toList a) w.drew (by simp) (by simp) (by rw [hz]; exact h0 _)
  rw [fill_first] at this
  exact this

end
end Go.Proofs.Ytjhkadffaephmaa
