/-
  A region that draws its order and whose last operation alone turns what the others stand on.
-/
import Derived.Test.YtjhkadffaephmabDraw
namespace Go.Proofs.Ytjhkadffaephmab
open Go

section
variable {P : Program} {ops : Array Oper} {Q : Exit → Act → World → Prop} {md : Region.Mode}

/-- Each operation ahead of number L is waited for by one behind it, up to L. -/
def coversTo (md : Region.Mode) (ops : Array Oper) (L : Nat) : Bool :=
  (List.range L).all fun k => (List.range (L + 1)).any fun i => decide (k < i) && (match ops[i]? with | some o => (waits md o).contains k | none => false)
/-- Each operation behind number L waits for it. -/
def waitsFor (md : Region.Mode) (ops : Array Oper) (L : Nat) : Bool :=
  (List.range ops.size).all fun i => decide (i ≤ L) || (match ops[i]? with | some o => (waits md o).contains L | none => false)

/-- What is done was waited for. -/
def Shut (md : Region.Mode) (ops : Array Oper) (d : Nat → Bool) : Prop := ∀ i o, ops[i]? = some o → d i = true → ∀ j ∈ waits md o, d j = true

theorem coversTo_spec {L : Nat} (h : coversTo md ops L = true) {d : Nat → Bool} (hs : Shut md ops d) {oL : Oper} (hL : ops[L]? = some oL) (hw : ∀ j ∈ waits md oL, d j = true) : ∀ k, k < L → d k = true := by
  have key : ∀ m k, L - k ≤ m → k < L → d k = true := by
    intro m
    induction m with
    | zero => intro k h1 h2; omega
    | succ m ih =>
      intro k h1 h2
      unfold coversTo at h
      rw [List.all_eq_true] at h
      have := h k (by simpa using h2)
      rw [List.any_eq_true] at this
      obtain ⟨i, hi, hx⟩ := this
      simp only [List.mem_range, Bool.and_eq_true, decide_eq_true_eq] at hi hx
      obtain ⟨hx1, hx2⟩ := hx
      cases ho : ops[i]? with
      | none => rw [ho] at hx2; cases hx2
      | some o =>
        rw [ho] at hx2
        have hm : k ∈ waits md o := by simpa using hx2
        by_cases e : i = L
        · subst e
          rw [hL] at ho
          cases ho
          exact hw k hm
        · exact hs i o ho (ih i (by omega) (by omega)) k hm
  exact fun k hk => key (L - k) k (Nat.le_refl _) hk

theorem Shut.upd {d : Nat → Bool} (h : Shut md ops d) {i : Nat} {o : Oper} (ho : ops[i]? = some o) (hw : ∀ j ∈ waits md o, d j = true) : Shut md ops (updB d i) := by
  intro k o' hk hd j hj
  unfold updB at hd ⊢
  by_cases e : k = i
  · subst e
    rw [hk] at ho
    cases ho
    split
    · rfl
    · exact hw j hj
  · rw [if_neg e] at hd
    split
    · rfl
    · exact h k o' hk hd j hj

/-- Those ahead of number L: as EachOp, and what lies in the slots of the others is what lay there. -/
def EachAhead (P : Program) (md : Region.Mode) (ops : Array Oper) (Q : Exit → Act → World → Prop) (L : Nat) (G : World → Prop) (E : Nat → Value → World → Prop) (a0 : Act) : List Oper → Nat → Prop
  | [], _ => True
  | o :: os, i => (∀ (t : Nat → Value) (w : World), G w → (∀ j ∈ waits md o, E j (t j) w) → (∀ k, L ≤ k → t k = first ops.toList a0 k) →
      ∀ K : Act → World → Prop, (∀ v w', G w' → E i v w' → (∀ j u, j ≠ i → E j u w → E j u w') → K ((fill ops.toList 0 t a0).put o.dst v) w') →
        if Region.wanted o (yielded ops (fill ops.toList 0 t a0).tmps) = true then Oper.wp P o (fill ops.toList 0 t a0) w K Q else K ((fill ops.toList 0 t a0).put o.dst undef) w) ∧
    EachAhead P md ops Q L G E a0 os (i + 1)

theorem EachAhead.at {L : Nat} {G : World → Prop} {E : Nat → Value → World → Prop} {a0 : Act} : ∀ (os : List Oper) (k i : Nat) (o : Oper), EachAhead P md ops Q L G E a0 os k → os[i]? = some o →
    ∀ (t : Nat → Value) (w : World), G w → (∀ j ∈ waits md o, E j (t j) w) → (∀ k, L ≤ k → t k = first ops.toList a0 k) →
      ∀ K : Act → World → Prop, (∀ v w', G w' → E (k + i) v w' → (∀ j u, j ≠ k + i → E j u w → E j u w') → K ((fill ops.toList 0 t a0).put o.dst v) w') →
        if Region.wanted o (yielded ops (fill ops.toList 0 t a0).tmps) = true then Oper.wp P o (fill ops.toList 0 t a0) w K Q else K ((fill ops.toList 0 t a0).put o.dst undef) w
  | [], _, _, _, _, h => by simp at h
  | o' :: os, k, 0, o, he, h => by
    simp at h
    subst h
    exact he.1
  | o' :: os, k, i + 1, o, he, h => by
    have := EachAhead.at os (k + 1) i o he.2 (by simpa using h)
    rw [show k + 1 + i = k + (i + 1) by omega] at this
    exact this

/-- Those behind number L: what each leaves, as L has left it. -/
def EachAfter (P : Program) (ops : Array Oper) (Q : Exit → Act → World → Prop) (L : Nat) (G' : Value → World → Prop) (E' : Nat → Value → Value → Prop) (a0 : Act) : List Oper → Nat → Prop
  | [], _ => True
  | o :: os, i => (∀ (t : Nat → Value) (w : World), G' (t L) w →
      ∀ K : Act → World → Prop, (∀ v, E' i v (t L) → K ((fill ops.toList 0 t a0).put o.dst v) w) →
        if Region.wanted o (yielded ops (fill ops.toList 0 t a0).tmps) = true then Oper.wp P o (fill ops.toList 0 t a0) w K Q else K ((fill ops.toList 0 t a0).put o.dst undef) w) ∧
    EachAfter P ops Q L G' E' a0 os (i + 1)

theorem EachAfter.at {L : Nat} {G' : Value → World → Prop} {E' : Nat → Value → Value → Prop} {a0 : Act} : ∀ (os : List Oper) (k i : Nat) (o : Oper), EachAfter P ops Q L G' E' a0 os k → os[i]? = some o →
    ∀ (t : Nat → Value) (w : World), G' (t L) w →
      ∀ K : Act → World → Prop, (∀ v, E' (k + i) v (t L) → K ((fill ops.toList 0 t a0).put o.dst v) w) →
        if Region.wanted o (yielded ops (fill ops.toList 0 t a0).tmps) = true then Oper.wp P o (fill ops.toList 0 t a0) w K Q else K ((fill ops.toList 0 t a0).put o.dst undef) w
  | [], _, _, _, _, h => by simp at h
  | o' :: os, k, 0, o, he, h => by
    simp at h
    subst h
    exact he.1
  | o' :: os, k, i + 1, o, he, h => by
    have := EachAfter.at os (k + 1) i o he.2 (by simpa using h)
    rw [show k + 1 + i = k + (i + 1) by omega] at this
    exact this

structure LastI (md : Region.Mode) (ops : Array Oper) (a0 : Act) (L : Nat) (G : World → Prop) (E : Nat → Value → World → Prop) (G' : Value → World → Prop) (E' : Nat → Value → Value → Prop) (d : Nat → Bool) (t : Nat → Value) (w : World) : Prop where
  shut : Shut md ops d
  ahead : d L = false → G w ∧ (∀ k, k < L → d k = true → E k (t k) w) ∧ ∀ k, L ≤ k → t k = first ops.toList a0 k
  behind : d L = true → G' (t L) w ∧ ∀ k, L < k → k < ops.size → d k = true → E' k (t k) (t L)

theorem each_of_last {L : Nat} {G : World → Prop} {E : Nat → Value → World → Prop} {G' : Value → World → Prop} {E' : Nat → Value → Value → Prop} {a0 : Act}
    (hb : backBinds md ops.toList 0 = true) (hc : coversTo md ops L = true) (hf : waitsFor md ops L = true) {oL : Oper} (hoL : ops[L]? = some oL)
    (hs : EachAhead P md ops Q L G E a0 (ops.toList.take L) 0)
    (hL : ∀ (t : Nat → Value) (w : World), G w → (∀ k, k < L → E k (t k) w) → (∀ k, L ≤ k → t k = first ops.toList a0 k) → ∀ K : Act → World → Prop, (∀ v w', G' v w' → K ((fill ops.toList 0 t a0).put oL.dst v) w') →
        if Region.wanted oL (yielded ops (fill ops.toList 0 t a0).tmps) = true then Oper.wp P oL (fill ops.toList 0 t a0) w K Q else K ((fill ops.toList 0 t a0).put oL.dst undef) w)
    (ha : EachAfter P ops Q L G' E' a0 (ops.toList.drop (L + 1)) (L + 1)) :
    ∀ (os : List Oper) (i : Nat), (∀ j o, os[j]? = some o → ops[i + j]? = some o) → EachI P md ops Q (LastI md ops a0 L G E G' E') a0 os i
  | [], _, _ => trivial
  | o :: os, i, hos => by
    refine ⟨?_, each_of_last hb hc hf hoL hs hL ha os (i + 1) (fun j o' hj => by rw [show i + 1 + j = i + (j + 1) by omega]; exact hos (j + 1) o' (by simpa using hj))⟩
    have ho : ops[i]? = some o := by simpa using hos 0 o rfl
    intro d t w hI hd hp K hK
    have hsh := hI.shut.upd ho hp
    rcases Nat.lt_trichotomy i L with hlt | heq | hgt
    · have hdL : d L = false := by
        cases e : d L with
        | false => rfl
        | true =>
          have := coversTo_spec hc hI.shut hoL (hI.shut L oL hoL e) i hlt
          rw [hd] at this
          cases this
      obtain ⟨hG, hE, hT⟩ := hI.ahead hdL
      have hat := EachAhead.at (ops.toList.take L) 0 i o hs (by rw [List.getElem?_take, if_pos hlt]; simpa using ho) t w hG (fun j hj => by
        have hdj := hp j hj
        refine hE j ?_ hdj
        rcases Nat.lt_trichotomy j L with h | h | h
        · exact h
        · subst h; rw [hdL] at hdj; cases hdj
        · exfalso
          have hji : j < i := by
            simp only [waits, List.mem_map, List.mem_filter] at hj
            obtain ⟨e, ⟨he, hbi⟩, rfl⟩ := hj
            have := backBinds_spec md ops.toList 0 i o hb (by simpa using ho) e (by simpa using he) hbi
            omega
          omega) hT K
      refine hat (fun v w' hG' hEi hkeep => hK v w' ⟨hsh, fun _ => ⟨hG', fun k hk hdk => ?_, fun k hk => by rw [upd_other t v (by omega)]; exact hT k hk⟩, fun e => ?_⟩)
      · rw [Nat.zero_add] at hEi hkeep
        by_cases e : k = i
        · subst e; rw [upd_same]; exact hEi
        · rw [upd_other t v e]
          have : d k = true := by simpa [updB, e] using hdk
          exact hkeep k (t k) e (hE k hk this)
      · have : d L = true := by simpa [updB, Nat.ne_of_gt hlt] using e
        rw [hdL] at this; cases this
    · subst heq
      rw [hoL] at ho
      cases ho
      obtain ⟨hG, hE, hT⟩ := hI.ahead hd
      have hcov := coversTo_spec hc hI.shut hoL hp
      refine hL t w hG (fun k hk => hE k hk (hcov k hk)) hT K (fun v w' hG' => hK v w' ⟨hsh, fun e => ?_, fun _ => ⟨by rw [upd_same]; exact hG', fun k hk hks hdk => ?_⟩⟩)
      · simp [updB] at e
      · exfalso
        have hdk' : d k = true := by simpa [updB, Nat.ne_of_gt hk] using hdk
        unfold waitsFor at hf
        rw [List.all_eq_true] at hf
        have := hf k (by simpa using hks)
        rw [Array.getElem?_eq_getElem hks] at this
        simp only [Bool.or_eq_true, decide_eq_true_eq] at this
        rcases this with h | h
        · omega
        · have := hI.shut k ops[k] (Array.getElem?_eq_getElem hks) hdk' i (by simpa using h)
          rw [hd] at this; cases this
    · have hdL : d L = true := by
        unfold waitsFor at hf
        rw [List.all_eq_true] at hf
        have := hf i (by simpa using (Array.getElem?_eq_some_iff.1 ho).1)
        rw [ho] at this
        simp only [Bool.or_eq_true, decide_eq_true_eq] at this
        rcases this with h | h
        · omega
        · exact hp L (by simpa using h)
      obtain ⟨hG', hE'⟩ := hI.behind hdL
      have hat := EachAfter.at (ops.toList.drop (L + 1)) (L + 1) (i - (L + 1)) o ha (by rw [List.getElem?_drop, show L + 1 + (i - (L + 1)) = i by omega]; simpa using ho) t w hG' K
      rw [show L + 1 + (i - (L + 1)) = i by omega] at hat
      refine hat (fun v hv => hK v w ⟨hsh, fun e => ?_, fun _ => ?_⟩)
      · have : d L = false := by simpa [updB, Nat.ne_of_lt hgt] using e
        rw [hdL] at this; cases this
      · rw [upd_other t v (Nat.ne_of_lt hgt)]
        refine ⟨hG', fun k hk hks hdk => ?_⟩
        by_cases e : k = i
        · subst e; rw [upd_same]; exact hv
        · rw [upd_other t v e]
          exact hE' k hk hks (by simpa [updB, e] using hdk)

theorem wp_region_last {id : Nat} {a : Act} {w : World} (L : Nat) (oL : Oper) (G : World → Prop) (E : Nat → Value → World → Prop) (G' : Value → World → Prop) (E' : Nat → Value → Value → Prop) (hm : P.follows .mixedOrders = true)
    (hap : allApart ops.toList = true) (hb : backBinds .any ops.toList 0 = true) (hc : coversTo .any ops L = true) (hf : waitsFor .any ops L = true) (hoL : ops[L]? = some oL) (hG : G w.drew)
    (hs : EachAhead P .any ops Q L G E a (ops.toList.take L) 0)
    (hL : ∀ (t : Nat → Value) (w : World), G w → (∀ k, k < L → E k (t k) w) → (∀ k, L ≤ k → t k = first ops.toList a k) → ∀ K : Act → World → Prop, (∀ v w', G' v w' → K ((fill ops.toList 0 t a).put oL.dst v) w') →
        if Region.wanted oL (yielded ops (fill ops.toList 0 t a).tmps) = true then Oper.wp P oL (fill ops.toList 0 t a) w K Q else K ((fill ops.toList 0 t a).put oL.dst undef) w)
    (ha : EachAfter P ops Q L G' E' a (ops.toList.drop (L + 1)) (L + 1))
    (hend : ∀ (t : Nat → Value) (w : World), G' (t L) w → (∀ k, L < k → k < ops.size → E' k (t k) (t L)) → Q .normal (fill ops.toList 0 t a) w) :
    (Code.region id ops true).wp P Q a w := by
  have hLs : L < ops.size := (Array.getElem?_eq_some_iff.1 hoL).1
  refine wp_region_any hm ?_
  have hz : (fun i => (Array.replicate ops.size false).getD i false) = fun _ => false := by
    funext i
    by_cases hi : i < ops.size
    · simp [hi]
    · simp [hi]
  have := wpAny_inv (md := .any) (I := LastI .any ops a L G E G' E') hap hb (each_of_last hb hc hf hoL hs hL ha ops.toList 0 (fun j o hj => by simpa using hj)) (fun d t w hI hall => by
    obtain ⟨h1, h2⟩ := hI.behind (hall L hLs)
    exact hend t w h1 (fun k hk hks => h2 k hk hks (hall k hks))) ops.size (Array.replicate ops.size false) (first ops.toList a) w.drew (by simp) (by simp)
    (by rw [hz]; exact ⟨fun i o _ h => by simp at h, fun _ => ⟨hG, fun k _ h => by simp at h, fun _ _ => rfl⟩, fun h => by simp at h⟩)
  rw [fill_first] at this
  exact this
end

end Go.Proofs.Ytjhkadffaephmab
