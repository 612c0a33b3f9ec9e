/-
  Our own texts, bundled: a claim holds few files.
-/
import Derived.Test.YtjhkadffaephmabGreatCutEngineStepsAJ
/-
  A region that draws its order, in which one operation turns a mark: what stands ahead of it, and what behind it.
-/
namespace Go.Proofs.YtjhkadffaephmabGreat
open Go

section
variable {P : Program} {ops : Array Oper} {Q : Exit → Act → World → Prop} {md : Region.Mode}

/-- Is operation k one that S waits for, by up to so many steps? -/
def reachB (md : Region.Mode) (ops : Array Oper) (S : Nat) : Nat → Nat → Bool
  | 0, _ => false
  | f + 1, k => (List.range (S + 1)).any fun i => (match ops[i]? with | some o => (waits md o).contains k | none => false) && (i == S || reachB md ops S f i)
theorem reachB_spec {S : Nat} {d : Nat → Bool} (hs : Shut md ops d) (hS : d S = true) : ∀ f k, reachB md ops S f k = true → d k = true
  | 0, _, h => by cases h
  | f + 1, k, h => by
    unfold reachB at h
    rw [List.any_eq_true] at h
    obtain ⟨i, _, hx⟩ := h
    simp only [Bool.and_eq_true, Bool.or_eq_true, beq_iff_eq] at hx
    obtain ⟨h1, h2⟩ := hx
    cases ho : ops[i]? with
    | none => rw [ho] at h1; cases h1
    | some o =>
      rw [ho] at h1
      have hm : k ∈ waits md o := by simpa using h1
      have hi : d i = true := by
        rcases h2 with h2 | h2
        · rw [h2]; exact hS
        · exact reachB_spec hs hS f i h2
      exact hs i o ho hi k hm

/-- An operation that is not S: b tells whether S was carried out. -/
def MarkN (P : Program) (md : Region.Mode) (ops : Array Oper) (Q : Exit → Act → World → Prop) (S F : Nat) (G : Bool → World → Prop) (E : Bool → Nat → Value → World → Prop) (a0 : Act) (o : Oper) (i : Nat) : Prop :=
  ∀ (b : Bool) (t : Nat → Value) (w : World), (reachB md ops S F i = true → b = false) → G b w → (∀ j ∈ waits md o, E b j (t j) w) →
      ∀ K : Act → World → Prop, (∀ v w', G b w' → E b i v w' → (∀ j, j ≠ i → E b j (t j) w → E b j (t j) w') → K ((fill ops.toList 0 t a0).put o.dst v) w') →
        if Region.wanted o (yielded ops (fill ops.toList 0 t a0).tmps) = true then Oper.wp P o (fill ops.toList 0 t a0) w K Q else K ((fill ops.toList 0 t a0).put o.dst undef) w
/-- S itself. -/
def MarkS (P : Program) (md : Region.Mode) (ops : Array Oper) (Q : Exit → Act → World → Prop) (G : Bool → World → Prop) (E : Bool → Nat → Value → World → Prop) (a0 : Act) (o : Oper) (i : Nat) : Prop :=
  ∀ (t : Nat → Value) (w : World), G false w → (∀ j ∈ waits md o, E false j (t j) w) →
      ∀ K : Act → World → Prop, (∀ v w', G true w' → E true i v w' → (∀ j, j ≠ i → E false j (t j) w → E true j (t j) w') → K ((fill ops.toList 0 t a0).put o.dst v) w') →
        if Region.wanted o (yielded ops (fill ops.toList 0 t a0).tmps) = true then Oper.wp P o (fill ops.toList 0 t a0) w K Q else K ((fill ops.toList 0 t a0).put o.dst undef) w
def EachMark (P : Program) (md : Region.Mode) (ops : Array Oper) (Q : Exit → Act → World → Prop) (S F : Nat) (G : Bool → World → Prop) (E : Bool → Nat → Value → World → Prop) (a0 : Act) : List Oper → Nat → Prop
  | [], _ => True
  | o :: os, i => (if i = S then MarkS P md ops Q G E a0 o i else MarkN P md ops Q S F G E a0 o i) ∧ EachMark P md ops Q S F G E a0 os (i + 1)

structure MarkI (md : Region.Mode) (ops : Array Oper) (S : Nat) (G : Bool → World → Prop) (E : Bool → Nat → Value → World → Prop) (d : Nat → Bool) (t : Nat → Value) (w : World) : Prop where
  shut : Shut md ops d
  held : G (d S) w
  left : ∀ k, d k = true → E (d S) k (t k) w

theorem each_of_mark {S F : Nat} {G : Bool → World → Prop} {E : Bool → Nat → Value → World → Prop} {a0 : Act} : ∀ (os : List Oper) (i : Nat), (∀ j o, os[j]? = some o → ops[i + j]? = some o) → EachMark P md ops Q S F G E a0 os i → EachI P md ops Q (MarkI md ops S G E) a0 os i
  | [], _, _, _ => trivial
  | o :: os, i, hos, h => by
    have ho : ops[i]? = some o := by simpa using hos 0 o rfl
    refine ⟨fun d t w hI hd hp K hK => ?_, each_of_mark os (i + 1) (fun j o' hj => by rw [show i + 1 + j = i + (j + 1) by omega]; exact hos (j + 1) o' (by simpa using hj)) h.2⟩
    have h1 := h.1
    by_cases e : i = S
    · rw [if_pos e] at h1
      subst e
      have hG := hI.held
      rw [hd] at hG
      have hS : updB d i i = true := by simp [updB]
      refine h1 t w hG (fun j hj => by have := hI.left j (hp j hj); rwa [hd] at this) K (fun v w' hG' hE hkeep => hK v w' ⟨hI.shut.upd ho hp, by rw [hS]; exact hG', fun k hk => ?_⟩)
      rw [hS]
      by_cases ek : k = i
      · subst ek; rw [upd_same]; exact hE
      · rw [upd_other t v ek]
        refine hkeep k ek ?_
        have := hI.left k (by simpa [updB, ek] using hk)
        rwa [hd] at this
    · rw [if_neg e] at h1
      have hS : updB d i S = d S := by unfold updB; exact if_neg (fun hh => e hh.symm)
      refine h1 (d S) t w (fun hr => ?_) hI.held (fun j hj => hI.left j (hp j hj)) K (fun v w' hG hE hkeep => hK v w' ⟨hI.shut.upd ho hp, by rw [hS]; exact hG, fun k hk => ?_⟩)
      · cases eS : d S with
        | false => rfl
        | true =>
          have := reachB_spec hI.shut eS F i hr
          rw [hd] at this; cases this
      · rw [hS]
        by_cases ek : k = i
        · subst ek; rw [upd_same]; exact hE
        · rw [upd_other t v ek]
          exact hkeep k ek (hI.left k (by simpa [updB, ek] using hk))

theorem wp_region_mark {id : Nat} {a : Act} {w : World} (S F : Nat) (G : Bool → World → Prop) (E : Bool → Nat → Value → World → Prop) (hm : P.follows .mixedOrders = true)
    (hap : allApart ops.toList = true) (hb : backBinds .any ops.toList 0 = true) (hS : S < ops.size) (hG : G false w.drew)
    (hs : EachMark P .any ops Q S F G E a ops.toList 0)
    (hend : ∀ (t : Nat → Value) (w : World), G true w → (∀ i, i < ops.size → E true i (t i) w) → Q .normal (fill ops.toList 0 t a) w) :
    (Code.region id ops true).wp P Q a w := by
  refine wp_region_any hm ?_
  have hz : (fun i => (Array.replicate ops.size false).getD i false) = fun _ => false := by
    funext i
    by_cases hi : i < ops.size
    · simp [hi]
    · simp [hi]
  have := wpAny_inv (md := .any) (I := MarkI .any ops S G E) hap hb (each_of_mark ops.toList 0 (fun j o hj => by simpa using hj) hs) (fun d t w hI hall => hend t w (by have := hI.held; rwa [hall S hS] at this) (fun i hi => by have := hI.left i (hall i hi); rwa [hall S hS] at this)) ops.size (Array.replicate ops.size false) (first ops.toList a) w.drew (by simp) (by simp)
    (by rw [hz]; exact ⟨fun i o _ h => by simp at h, hG, fun _ h => by cases h⟩)
  rw [fill_first] at this
  exact this
end

end Go.Proofs.YtjhkadffaephmabGreat

/-
  A region that draws its order, by what stands while just these operations were carried out.
-/
namespace Go.Proofs.YtjhkadffaephmabGreat
open Go

section
variable {P : Program} {ops : Array Oper} {Q : Exit → Act → World → Prop} {md : Region.Mode}

/-- What an operation waits for, step by step, was carried out. -/
theorem done_back {d : Nat → Bool} {i S F : Nat} {o : Oper} (hs : Shut md ops d) (ho : ops[i]? = some o) (hw : ∀ j ∈ waits md o, d j = true) (hr : reachB md ops i F S = true) (hne : S ≠ i) : d S = true := by
  have h1 := hs.upd ho hw
  have h2 := reachB_spec h1 (S := i) (by simp [updB]) F S hr
  simpa [updB, hne] using h2
/-- What waits for an operation that was not carried out was not carried out. -/
theorem not_yet {d : Nat → Bool} {i S F : Nat} (hs : Shut md ops d) (hi : d i = false) (hr : reachB md ops S F i = true) : d S = false := by
  cases e : d S with
  | false => rfl
  | true =>
    have := reachB_spec hs e F i hr
    rw [hi] at this; cases this

/-- Each operation: d tells which were carried out. -/
def EachDone (P : Program) (md : Region.Mode) (ops : Array Oper) (Q : Exit → Act → World → Prop) (G : (Nat → Bool) → World → Prop) (E : (Nat → Bool) → Nat → Value → World → Prop) (a0 : Act) : List Oper → Nat → Prop
  | [], _ => True
  | o :: os, i => (∀ (d : Nat → Bool) (t : Nat → Value) (w : World), Shut md ops d → ops[i]? = some o → d i = false → (∀ j ∈ waits md o, d j = true) → G d w → (∀ j, d j = true → E d j (t j) w) →
      ∀ K : Act → World → Prop, (∀ v w', G (updB d i) w' → E (updB d i) i v w' → (∀ j, j ≠ i → d j = true → E d j (t j) w → E (updB d i) j (t j) w') → K ((fill ops.toList 0 t a0).put o.dst v) w') →
        if Region.wanted o (yielded ops (fill ops.toList 0 t a0).tmps) = true then Oper.wp P o (fill ops.toList 0 t a0) w K Q else K ((fill ops.toList 0 t a0).put o.dst undef) w) ∧
    EachDone P md ops Q G E a0 os (i + 1)

structure DoneI (md : Region.Mode) (ops : Array Oper) (G : (Nat → Bool) → World → Prop) (E : (Nat → Bool) → Nat → Value → World → Prop) (d : Nat → Bool) (t : Nat → Value) (w : World) : Prop where
  shut : Shut md ops d
  held : G d w
  left : ∀ k, d k = true → E d k (t k) w

theorem each_of_done {G : (Nat → Bool) → World → Prop} {E : (Nat → Bool) → Nat → Value → World → Prop} {a0 : Act} : ∀ (os : List Oper) (i : Nat), (∀ j o, os[j]? = some o → ops[i + j]? = some o) → EachDone P md ops Q G E a0 os i → EachI P md ops Q (DoneI md ops G E) a0 os i
  | [], _, _, _ => trivial
  | o :: os, i, hos, h => by
    have ho : ops[i]? = some o := by simpa using hos 0 o rfl
    refine ⟨fun d t w hI hd hp K hK => ?_, each_of_done os (i + 1) (fun j o' hj => by rw [show i + 1 + j = i + (j + 1) by omega]; exact hos (j + 1) o' (by simpa using hj)) h.2⟩
    refine h.1 d t w hI.shut ho hd hp hI.held hI.left K (fun v w' hG hE hkeep => hK v w' ⟨hI.shut.upd ho hp, hG, fun k hk => ?_⟩)
    by_cases ek : k = i
    · subst ek; rw [upd_same]; exact hE
    · rw [upd_other t v ek]
      have hk' : d k = true := by simpa [updB, ek] using hk
      exact hkeep k ek hk' (hI.left k hk')

theorem wp_region_done {id : Nat} {a : Act} {w : World} (G : (Nat → Bool) → World → Prop) (E : (Nat → Bool) → Nat → Value → World → Prop) (hm : P.follows .mixedOrders = true)
    (hap : allApart ops.toList = true) (hb : backBinds .any ops.toList 0 = true) (hG : G (fun _ => false) w.drew)
    (hs : EachDone P .any ops Q G E a ops.toList 0)
    (hend : ∀ (d : Nat → Bool) (t : Nat → Value) (w : World), (∀ i, i < ops.size → d i = true) → G d w → (∀ i, i < ops.size → E d i (t i) w) → Q .normal (fill ops.toList 0 t a) w) :
    (Code.region id ops true).wp P Q a w := by
  refine wp_region_any hm ?_
  have hz : (fun i => (Array.replicate ops.size false).getD i false) = fun _ => false := by
    funext i
    by_cases hi : i < ops.size
    · simp [hi]
    · simp [hi]
  have := wpAny_inv (md := .any) (I := DoneI .any ops G E) hap hb (each_of_done ops.toList 0 (fun j o hj => by simpa using hj) hs) (fun d t w hI hall => hend d t w hall hI.held (fun i hi => hI.left i (hall i hi))) ops.size (Array.replicate ops.size false) (first ops.toList a) w.drew (by simp) (by simp)
    (by rw [hz]; exact ⟨fun i o _ h => by simp at h, hG, fun _ h => by cases h⟩)
  rw [fill_first] at this
  exact this
end

end Go.Proofs.YtjhkadffaephmabGreat
