/-
  slices.IndexFunc and slices.ContainsFunc, whatever the closure, at numbers and at rows; state.Below, state.AllBelow.
-/
import Derived.Test.YtjhkadffaephmaaSame
namespace Go.Proofs.Ytjhkadffaephmaa
set_option maxRecDepth 100000
open Go.RowKit

theorem Ints.below {a : Option Addr} {l b o k : Nat} {f : Nat → Int} {w w' : World} (h : Ints a l b o f w) (hb : Below k w w') (hk : 0 < l → b < k) : Ints a l b o f w' :=
  ⟨h.addr, fun i hi => by rw [hb.cell (p := ⟨b, o + i, none⟩) (hk (by omega))]; exact h.cell i hi, h.len⟩

set_option maxHeartbeats 1000000 in
theorem indexFunc_ints (fid : Nat) (cap : Array Value) (a : Option Addr) (l q b o : Nat) (f : Nat → Int) (p : Nat → Bool) (w : World) (h : Ints a l b o f w) (hb : 0 < l → b < w.heap.size)
    (hcf : ∀ (args : Array Value) (W : World), (callFunc fid args).run Try.prog W = .ok (.enter fid args) W)
    (hat : ∀ (i : Nat) (W : World), i < l → Below w.heap.size w W → Calls Try.prog fid (#[.int .i64 (f i)] ++ cap) W fun e w' => e = .returned (.bool (p i)) ∧ Below W.heap.size W w') :
    Calls Try.prog 128 #[.slice a l q, .func (.func fid) #[] cap] w fun e w' => (∃ r : Int, e = .returned (.int .i64 r) ∧ decide (0 ≤ r) = (List.range l).any p) ∧ Below w.heap.size w w' := by
  have hlen := h.len
  unfold maxLen at hlen
  have HA := hide hat
  have H := hide h
  have Hb := hide hb
  clear hat h
  go_enter Try.func128, Try.ntmps128
  go_wp2
  go_loopw [5, 8] (fun _ i wr => ∃ k : Nat, k ≤ l ∧ i = .int .i64 k ∧ Hid (∀ r, r < k → p r = false) ∧ Hid (Below w.heap.size w wr)) (fun _ i _ => l - (intOf i).toNat)
  case atStart => exact ⟨0, Nat.zero_le _, rfl, hide (fun r hr => absurd hr (Nat.not_lt_zero _)), hide (Below.refl _ _)⟩
  case round =>
    obtain ⟨k, hk, rfl, Hall, HB⟩ := hrel
    by_cases hlt : k < l
    · have ha := H.out.addr (by omega)
      have hc := (H.out.below HB.out Hb.out).cell k hlt
      have hki : (k : Int) < (l : Int) := by omega
      have HC := hide (HA.out k wr hlt HB.out)
      by_cases hp : p k = true
      · rw [hp] at HC
        have Hw : Hid ((List.range l).any p = true) := hide (List.any_eq_true.2 ⟨k, List.mem_range.2 hlt, hp⟩)
        clear hp
        go_wp2_with fail
        refine HC.out.mono ?_
        rintro e w2 ⟨rfl, hb2⟩
        have HB2 := hide (HB.out.trans (hb2.mono HB.out.size))
        clear hb2
        go_wp2
        go_ret
        exact ⟨⟨(k : Int), rfl, by rw [Hw.out]; simp⟩, HB2.out⟩
      · have hpf : p k = false := by simpa using hp
        rw [hpf] at HC
        have Hpf := hide hpf
        clear hp hpf
        go_wp2_with fail
        refine HC.out.mono ?_
        rintro e w2 ⟨rfl, hb2⟩
        have HB2 := hide (HB.out.trans (hb2.mono HB.out.size))
        clear hb2
        have Hn : Hid (∀ r, r < k + 1 → p r = false) := hide (fun r hr => by
          by_cases e : r = k
          · subst e; exact Hpf.out
          · exact Hall.out r (by omega))
        go_wp2
        go_roundw
        case rel =>
          first
          | exact ⟨k + 1, by omega, by go_num, Hn, HB2⟩
          | ((try rw [← ha]); (repeat apply Exists.intro); refine ⟨?_, rfl⟩; exact ⟨k + 1, by omega, by go_num, Hn, HB2⟩)
        case measure => simp [intOf]; omega
    · have Hw : Hid ((List.range l).any p = false) := hide (by
        rw [List.any_eq_false]
        intro r hr
        rw [Hall.out r (by have := List.mem_range.1 hr; omega)]; decide)
      go_wp2
      go_ret
      exact ⟨⟨-1, rfl, by rw [Hw.out]; rfl⟩, HB.out⟩

set_option maxHeartbeats 400000 in
theorem containsFunc_ints (fid : Nat) (cap : Array Value) (a : Option Addr) (l q b o : Nat) (f : Nat → Int) (p : Nat → Bool) (w : World) (h : Ints a l b o f w) (hb : 0 < l → b < w.heap.size)
    (hcf : ∀ (args : Array Value) (W : World), (callFunc fid args).run Try.prog W = .ok (.enter fid args) W)
    (hat : ∀ (i : Nat) (W : World), i < l → Below w.heap.size w W → Calls Try.prog fid (#[.int .i64 (f i)] ++ cap) W fun e w' => e = .returned (.bool (p i)) ∧ Below W.heap.size W w') :
    Calls Try.prog 96 #[.slice a l q, .func (.func fid) #[] cap] w fun e w' => e = .returned (.bool ((List.range l).any p)) ∧ Below w.heap.size w w' := by
  have HC := hide (indexFunc_ints fid cap a l q b o f p w h hb hcf hat)
  skip
  clear h hat hcf
  go_enter Try.func96, Try.ntmps96
  go_wp2_with fail
  go_at_call 128
  refine HC.out.mono ?_
  rintro e w1 ⟨⟨r, rfl, hr⟩, hb⟩
  have HB := hide hb
  have HR := hide hr
  clear hb hr
  go_wp2
  go_ret
  exact ⟨by rw [← HR.out]; rfl, HB.out⟩

set_option maxHeartbeats 1000000 in
theorem indexFunc_rows (fid : Nat) (cap : Array Value) (x : Mat) (p : Nat → Bool) (w : World) (h : x.In w.heap.size w)
    (hcf : ∀ (args : Array Value) (W : World), (callFunc fid args).run Try.prog W = .ok (.enter fid args) W)
    (hat : ∀ (i : Nat) (W : World), i < x.t.len → Below w.heap.size w W → Calls Try.prog fid (#[.slice (x.A i) (x.t.L i) (x.C i)] ++ cap) W fun e w' => e = .returned (.bool (p i)) ∧ Below W.heap.size W w') :
    Calls Try.prog 119 #[x.val, .func (.func fid) #[] cap] w fun e w' => (∃ r : Int, e = .returned (.int .i64 r) ∧ decide (0 ≤ r) = (List.range x.t.len).any p) ∧ Below w.heap.size w w' := by
  have hlen := h.len
  unfold maxLen at hlen
  have HA := hide hat
  have H := hide h
  simp only [Mat.val]
  clear hat h
  go_enter Try.func119, Try.ntmps119
  go_wp2
  go_loopw [5, 8] (fun _ i wr => ∃ k : Nat, k ≤ x.t.len ∧ i = .int .i64 k ∧ Hid (∀ r, r < k → p r = false) ∧ Hid (Below w.heap.size w wr)) (fun _ i _ => x.t.len - (intOf i).toNat)
  case atStart => exact ⟨0, Nat.zero_le _, rfl, hide (fun r hr => absurd hr (Nat.not_lt_zero _)), hide (Below.refl _ _)⟩
  case round =>
    obtain ⟨k, hk, rfl, Hall, HB⟩ := hrel
    by_cases hlt : k < x.t.len
    · have ha := H.out.ga (by omega)
      have hc := (H.out.below HB.out (Nat.le_refl _)).row k hlt
      have hki : (k : Int) < (x.t.len : Int) := by omega
      have HC := hide (HA.out k wr hlt HB.out)
      by_cases hp : p k = true
      · rw [hp] at HC
        have Hw : Hid ((List.range x.t.len).any p = true) := hide (List.any_eq_true.2 ⟨k, List.mem_range.2 hlt, hp⟩)
        clear hp
        go_wp2_with fail
        refine HC.out.mono ?_
        rintro e w2 ⟨rfl, hb2⟩
        have HB2 := hide (HB.out.trans (hb2.mono HB.out.size))
        clear hb2
        go_wp2
        go_ret
        exact ⟨⟨(k : Int), rfl, by rw [Hw.out]; simp⟩, HB2.out⟩
      · have hpf : p k = false := by simpa using hp
        rw [hpf] at HC
        have Hpf := hide hpf
        clear hp hpf
        go_wp2_with fail
        refine HC.out.mono ?_
        rintro e w2 ⟨rfl, hb2⟩
        have HB2 := hide (HB.out.trans (hb2.mono HB.out.size))
        clear hb2
        have Hn : Hid (∀ r, r < k + 1 → p r = false) := hide (fun r hr => by
          by_cases e : r = k
          · subst e; exact Hpf.out
          · exact Hall.out r (by omega))
        go_wp2
        go_roundw
        case rel =>
          first
          | exact ⟨k + 1, by omega, by go_num, Hn, HB2⟩
          | ((try rw [← ha]); (repeat apply Exists.intro); refine ⟨?_, rfl⟩; exact ⟨k + 1, by omega, by go_num, Hn, HB2⟩)
        case measure => simp [intOf]; omega
    · have Hw : Hid ((List.range x.t.len).any p = false) := hide (by
        rw [List.any_eq_false]
        intro r hr
        rw [Hall.out r (by have := List.mem_range.1 hr; omega)]; decide)
      go_wp2
      go_ret
      exact ⟨⟨-1, rfl, by rw [Hw.out]; rfl⟩, HB.out⟩

set_option maxHeartbeats 400000 in
theorem containsFunc_rows (fid : Nat) (cap : Array Value) (x : Mat) (p : Nat → Bool) (w : World) (h : x.In w.heap.size w)
    (hcf : ∀ (args : Array Value) (W : World), (callFunc fid args).run Try.prog W = .ok (.enter fid args) W)
    (hat : ∀ (i : Nat) (W : World), i < x.t.len → Below w.heap.size w W → Calls Try.prog fid (#[.slice (x.A i) (x.t.L i) (x.C i)] ++ cap) W fun e w' => e = .returned (.bool (p i)) ∧ Below W.heap.size W w') :
    Calls Try.prog 84 #[x.val, .func (.func fid) #[] cap] w fun e w' => e = .returned (.bool ((List.range x.t.len).any p)) ∧ Below w.heap.size w w' := by
  have HC := hide (indexFunc_rows fid cap x p w h  hcf hat)
  simp only [Mat.val] at HC ⊢
  clear h hat hcf
  go_enter Try.func84, Try.ntmps84
  go_wp2_with fail
  go_at_call 119
  refine HC.out.mono ?_
  rintro e w1 ⟨⟨r, rfl, hr⟩, hb⟩
  have HB := hide hb
  have HR := hide hr
  clear hb hr
  go_wp2
  go_ret
  exact ⟨by rw [← HR.out]; rfl, HB.out⟩

set_option maxHeartbeats 400000 in
theorem sbelow_any (x n : Int) (w : World) :
    Calls Try.prog 116 #[.int .i64 x, .int .i64 n] w fun e w' => e = .returned (.bool (decide (0 ≤ x) && decide (x < n))) ∧ w' = w := by
  by_cases h : 0 ≤ x
  · go_enter Try.func116, Try.ntmps116
    go_wp2
    go_ret
    exact ⟨by simp [h], rfl⟩
  · go_enter Try.func116, Try.ntmps116
    go_wp2
    go_ret
    exact ⟨by simp; omega, rfl⟩

theorem calls_allBelow1 (args : Array Value) (W : World) : (callFunc 118 args).run Try.prog W = .ok (.enter 118 args) W := by rfl

set_option maxHeartbeats 400000 in
theorem allBelow1_any (x s : Int) (bx : Nat) (w : World) (h : w.cell? ⟨bx, 0, none⟩ = some (.int .i64 s)) :
    Calls Try.prog 118 #[.int .i64 x, .pointer (some ⟨bx, 0, none⟩)] w fun e w' => e = .returned (.bool (!(decide (0 ≤ x) && decide (x < s)))) ∧ w' = w := by
  have HS := hide (sbelow_any x s w)
  generalize hv : (decide (0 ≤ x) && decide (x < s)) = v at HS ⊢
  clear hv
  go_enter Try.func118, Try.ntmps118
  go_wp2_with fail
  go_at_call 116
  refine HS.out.mono ?_
  rintro e w1 ⟨rfl, rfl⟩
  go_wp2
  go_ret
  exact ⟨rfl, rfl⟩

/-- All of a row are routes. -/
def rowIn (l : Nat) (f : Nat → Int) (s : Int) : Bool := (List.range l).all fun j => decide (0 ≤ f j) && decide (f j < s)
theorem rowIn_iff {l : Nat} {f : Nat → Int} {s : Int} : rowIn l f s = true ↔ ∀ j, j < l → 0 ≤ f j ∧ f j < s := by simp [rowIn]
theorem rowIn_any (l : Nat) (f : Nat → Int) (s : Int) : (!(List.range l).any fun j => !(decide (0 ≤ f j) && decide (f j < s))) = rowIn l f s := by
  unfold rowIn
  rw [List.all_eq_not_any_not]

set_option maxHeartbeats 1000000 in
theorem sallBelow_any (a : Option Addr) (l q b o : Nat) (f : Nat → Int) (s : Int) (w : World) (h : Ints a l b o f w) (hb : 0 < l → b < w.heap.size) :
    Calls Try.prog 83 #[.slice a l q, .int .i64 s] w fun e w' => e = .returned (.bool (rowIn l f s)) ∧ Below w.heap.size w w' := by
  have hBa : Below w.heap.size w (w.alloc (.cells #[.int .i64 s] 3)) := (Below.refl _ w).alloc (Nat.le_refl _) _
  have b0 := Blk.new w #[.int .i64 s] 3
  have HC := hide (containsFunc_ints 118 #[.pointer (some ⟨w.heap.size, 0, none⟩)] a l q b o f (fun j => !(decide (0 ≤ f j) && decide (f j < s))) _ (h.below hBa hb) (fun h0 => Nat.lt_of_lt_of_le (hb h0) hBa.size) calls_allBelow1 (fun i W hi hB => by
    refine (allBelow1_any (f i) s w.heap.size W ((b0.below hB b0.lt).cell 0)).mono ?_
    rintro e w' ⟨rfl, rfl⟩
    exact ⟨rfl, Below.refl _ _⟩))
  have HBa := hide hBa
  have HI := hide (rowIn_any l f s)
  clear h hb hBa b0
  go_enter Try.func83, Try.ntmps83
  go_wp2_with fail
  go_at_call 96
  refine HC.out.mono ?_
  rintro e w1 ⟨rfl, hb1⟩
  have HB := hide (HBa.out.trans (hb1.mono HBa.out.size))
  generalize hv : ((List.range l).any fun j => !(decide (0 ≤ f j) && decide (f j < s))) = v at HI ⊢
  clear hv hb1
  go_wp2
  go_ret
  exact ⟨by rw [← HI.out]; rfl, HB.out⟩

end Go.Proofs.Ytjhkadffaephmaa
