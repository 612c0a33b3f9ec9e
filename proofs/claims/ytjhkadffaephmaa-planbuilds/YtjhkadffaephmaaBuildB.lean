/-
  plan.buildWide, buildFilter.
-/
import Derived.Test.YtjhkadffaephmaaBuildA
import Derived.Laws.BitsLemmas
import Derived.Laws.Bits64
namespace Go.Proofs.Ytjhkadffaephmaa
set_option maxRecDepth 100000
open Go.RowKit

set_option maxHeartbeats 2000000 in
theorem buildWide_any (h : PHead) (N : Nat) (w : World) (hh : h.In w.heap.size w) (h1 : 1 ≤ N) (h2 : N ≤ 22) (he : h.en ≤ 8) (hv : ∀ i, i < h.en → 1 ≤ h.ev i ∧ h.ev i ≤ N) :
    Calls Try.prog 106 #[.int .i64 N, .slice h.eg h.en h.ec] w fun e w' => Made (wideN N h.en h.evN) w.heap.size e w' ∧ Below w.heap.size w w' := by
  have b0 := (Blk.new w #[.slice h.eg h.en h.ec] 32).alloc (.cells #[.int .i64 0, .slice none 0 0, .slice none 0 0] 24)
  have b1 : Blk ((w.alloc (.cells #[.slice h.eg h.en h.ec] 32)).alloc (.cells #[.int .i64 0, .slice none 0 0, .slice none 0 0] 24)) (w.heap.size + 1) #[.int .i64 0, .slice none 0 0, .slice none 0 0] 24 := Blk.new' (by simp)
  have hb0 : Below w.heap.size w ((w.alloc (.cells #[.slice h.eg h.en h.ec] 32)).alloc (.cells #[.int .i64 0, .slice none 0 0, .slice none 0 0] 24)) := ((Below.refl _ w).alloc (Nat.le_refl _) _).alloc (by simp) _
  go_enter Try.func106, Try.ntmps106
  go_wp2_with fail
  generalize hW : ((w.alloc (.cells #[.slice h.eg h.en h.ec] 32)).alloc (.cells #[.int .i64 0, .slice none 0 0, .slice none 0 0] 24)) = W at *
  have hsz : W.heap.size = w.heap.size + 2 := by rw [← hW]; simp
  clear hW
  have x0 := b0.cell 0
  simp at x0
  have HL := hide (lesser_any (N + 2) W.drew (by omega))
  have HT := hide (fun (w1 : World) (hb : Below W.heap.size W w1) => table_any 133 #[.pointer (some ⟨w.heap.size, 0, none⟩)] h.en (N + 2) (fun e a => ((max a (h.evN e) : Nat) : Int)) w1 (by omega) (by omega) calls_wide1 (fun e a W' hi _ hb' => by
    have hbb := hb.trans (hb'.mono hb.size)
    have := wide1_any h N w.heap.size e a w.heap.size W' (hh.below (hb0.trans (hbb.mono (by omega))) (Nat.le_refl _)) ((b0.below hbb b0.lt).cell 0) hi (hv e hi)
    simpa using this))
  have e2 : ((N + 2 : Nat) : Int) = (N : Int) + 2 := by omega
  simp only [e2] at HL HT
  have hw2 : IntKind.i64.wrap ((N : Int) + 2) = (N : Int) + 2 := by rw [IntKind.wrap_i64]; omega
  go_region_held3 (fun w' => w'.cell? ⟨w.heap.size, 0, none⟩ = some (.slice h.eg h.en h.ec)) (first | go_keep | exact k1 | exact k2 | exact ((b02.far3 (by omega) _ _ _).cell 0))
    (first
      | (go_at_call 130; refine HL.out.mono ?_; rintro e w1 ⟨rfl, hl1⟩; have hB1 := Below.trans (⟨rfl, rfl, rfl, Nat.le_refl _, fun _ _ => rfl⟩ : Below W.heap.size W W.drew) hl1.below; have k1 := (b0.below hB1 b0.lt).cell 0; have HL1 := hide hl1; clear hl1)
      | (go_at_call 131; refine (HT.out _ hB1).mono ?_; rintro e w2 ⟨rfl, hl2⟩; have hB2 := hB1.trans (hl2.below.mono hB1.size); have b02 := b0.below hB2 b0.lt; have k2 := b02.cell 0; have b12 := b1.below hB2 b1.lt; have d0 := b12.cell 0; have d1 := b12.cell 1; have d2 := b12.cell 2; have df := b12.frozen; simp at d0 d1 d2; have HL2 := hide hl2; clear hl2))
  all_goals
    have HM := hide (made_end (B := w.heap.size + 1) (b := w.heap.size) (wide_ok (ev := h.evN) h1 h2 he (fun e hi => by have := hv e hi; unfold PHead.evN; omega)) HL1.out HL2.out (by show w.heap.size + 1 < W.heap.size; omega) (by show w.heap.size ≤ W.heap.size; omega) (.int .i64 ((N : Int) + 2)) (.slice (some ⟨w.heap.size + 2, 0, none⟩) (N + 2) (N + 2)) (.slice (some ⟨w1.heap.size, 0, none⟩) h.en h.en))
    have HBe := hide (below3 (hb0.trans (hB2.mono (by omega))) (show w.heap.size ≤ w.heap.size + 1 by omega) (.int .i64 ((N : Int) + 2)) (.slice (some ⟨w.heap.size + 2, 0, none⟩) (N + 2) (N + 2)) (.slice (some ⟨w1.heap.size, 0, none⟩) h.en h.en))
    have b13 := b12.set3 (.int .i64 ((N : Int) + 2)) (.slice (some ⟨w.heap.size + 2, 0, none⟩) (N + 2) (N + 2)) (.slice (some ⟨w1.heap.size, 0, none⟩) h.en h.en)
    have e0 := b13.cell 0
    have e1 := b13.cell 1
    have e2' := b13.cell 2
    unfold Ytjhkadffaephmaa.set3 at e0 e1 e2'
    simp at e0 e1 e2'
    clear d0 d1 d2 df k1 k2 b02 b12
    go_wp2
    refine bodyPost_ret (v := .agg #[.int .i64 ((N : Int) + 2), .slice (some ⟨w.heap.size + 2, 0, none⟩) (N + 2) (N + 2), .slice (some ⟨w1.heap.size, 0, none⟩) h.en h.en]) (by simp [results, Try.results106, go_sem, e0, e1, e2']) rfl ⟨?_, HBe.out⟩
    have := HM.out
    rw [show W.drew.heap.size = w.heap.size + 2 from hsz] at this
    exact this

theorem calls_filter1 (args : Array Value) (W : World) : (callFunc 136 args).run Try.prog W = .ok (.enter 136 args) W := by rfl

theorem wraps_i64_62 (n : Int) (h₀ : 0 ≤ n) (h₁ : n < 2 ^ 62) : IntKind.i64.wrap n = n := by rw [IntKind.wrap_i64]; omega
theorem bit_one (v a : Nat) (hv : v < 2 ^ 24) : bits .and .i64 ((v : Int) / 2 ^ a) 1 = if v.testBit a then 1 else 0 := by
  have hq : v / 2 ^ a < 2 ^ 62 := Nat.lt_of_le_of_lt (Nat.div_le_self _ _) (by omega)
  have h := (bits_nat .i64 62 (by decide) wraps_i64_62 (v / 2 ^ a) 1 hq (by decide)).1
  have e : ((v : Int) / 2 ^ a) = ((v / 2 ^ a : Nat) : Int) := by simp
  rw [e]
  have h1 : ((1 : Nat) : Int) = 1 := rfl
  rw [h1] at h
  rw [h, Nat.and_one_is_mod, Nat.testBit_eq_decide_div_mod_eq]
  by_cases hb : v / 2 ^ a % 2 = 1
  · simp [hb]
  · have : v / 2 ^ a % 2 = 0 := by omega
    simp [this]

/-- An algebra in memory whose numbers are these. -/
structure LiesA (m : AlgM) (x : NAlg) : Prop where
  size : m.size = (x.size : Int)
  B : m.B.t = x.B
  E : m.E.t = x.E
theorem lies_of {m : AlgM} {x : NAlg} (h : m.alg = x.alg) : LiesA m x := by
  unfold AlgM.alg NAlg.alg at h
  injection h with h1 h2 h3
  exact ⟨h1, h2, h3⟩

/-- The edge table of such a one, a row and a cell. -/
theorem edge_row {m : AlgM} {x : NAlg} {n : Nat} {W : World} (hl : LiesA m x) (hi : m.In n W) {e : Nat} (he : e < x.el) (hx : 0 < x.size) :
    m.E.ga = some ⟨m.E.gb, m.E.go, none⟩ ∧ W.cell? ⟨m.E.gb, m.E.go + e, none⟩ = some (.slice (some ⟨m.E.RB e, m.E.RO e, none⟩) x.size (m.E.C e)) ∧ ∀ a, a < x.size → W.cell? ⟨m.E.RB e, m.E.RO e + a, none⟩ = some (.int .i64 (x.edge e a)) := by
  have hlen : m.E.t.len = x.el := by rw [hl.E]; rfl
  have hL : m.E.t.L e = x.size := by rw [hl.E]; rfl
  refine ⟨hi.E.ga (by omega), ?_, fun a ha => ?_⟩
  · have h1 := hi.E.row e (by omega)
    rw [(hi.E.addr e (by omega) (by omega)).1, hL] at h1
    exact h1
  · have h1 := hi.E.cell e (by omega) a (by omega)
    rw [hl.E] at h1
    exact h1
theorem best_row {m : AlgM} {x : NAlg} {n : Nat} {W : World} (hl : LiesA m x) (hi : m.In n W) {e : Nat} (he : e < x.size) :
    m.B.ga = some ⟨m.B.gb, m.B.go, none⟩ ∧ W.cell? ⟨m.B.gb, m.B.go + e, none⟩ = some (.slice (some ⟨m.B.RB e, m.B.RO e, none⟩) x.size (m.B.C e)) ∧ ∀ a, a < x.size → W.cell? ⟨m.B.RB e, m.B.RO e + a, none⟩ = some (.int .i64 (x.best e a)) := by
  have hlen : m.B.t.len = x.size := by rw [hl.B]; rfl
  have hL : m.B.t.L e = x.size := by rw [hl.B]; rfl
  refine ⟨hi.B.ga (by omega), ?_, fun a ha => ?_⟩
  · have h1 := hi.B.row e (by omega)
    rw [(hi.B.addr e (by omega) (by omega)).1, hL] at h1
    exact h1
  · have h1 := hi.B.cell e (by omega) a (by omega)
    rw [hl.B] at h1
    exact h1

set_option maxHeartbeats 1000000 in
theorem filter1_any (h : PHead) (m : AlgM) (x : NAlg) (bs bi bp e a n : Nat) (W : World) (hh : h.In n W) (hl : LiesA m x) (hm : m.In n W) (hx : x.Ok)
    (hs : W.cell? ⟨bs, 0, none⟩ = some (.slice h.eg h.en h.ec)) (hi : W.cell? ⟨bi, 0, none⟩ = some (.int .i64 ((x.size : Int) - 1))) (hp : W.cell? ⟨bp, 2, none⟩ = some m.E.val)
    (he : e < x.el) (hen : h.en = x.el) (hv : 0 ≤ h.ev e ∧ h.ev e ≤ 2 ^ x.size - 1) (ha : a < x.size) :
    Calls Try.prog 136 #[.int .i64 e, .int .i64 a, .pointer (some ⟨bs, 0, none⟩), .pointer (some ⟨bi, 0, none⟩), .pointer (some ⟨bp, 0, none⟩)] W fun r w' => r = .returned (.int .i64 (((filtN x h.evN).edge e a : Nat) : Int)) ∧ ∃ m, w' = W.drewN m := by
  have lo := hx.lo
  have hi24 := hx.hi
  have hea := hh.ea (by omega)
  have hc := hh.ecell e (by omega)
  have hei : (e : Int) < (h.en : Int) := by omega
  have hel := hh.elen
  unfold maxLen at hel
  obtain ⟨r0, r1, r2⟩ := edge_row hl hm he (by omega)
  have r3 := r2 a ha
  have hlen : m.E.t.len = x.el := by rw [hl.E]; rfl
  have hel8 := hx.el
  simp only [Mat.val] at hp
  rw [r0, hlen] at hp
  obtain ⟨v, hv'⟩ : ∃ v : Nat, h.ev e = (v : Int) := ⟨(h.ev e).toNat, by omega⟩
  have hvN : h.evN e = v := by unfold PHead.evN; omega
  have hv24 : v < 2 ^ 24 := by
    have b : 2 ^ x.size ≤ 2 ^ 24 := Nat.pow_le_pow_right (by omega) hi24
    have e2 : ((2 ^ x.size : Nat) : Int) = (2 : Int) ^ x.size := by simp
    omega
  have hbit := bit_one v a hv24
  have hxe : (e : Int) < (x.el : Int) := by omega
  have hxa : (a : Int) < (x.size : Int) := by omega
  have hed : (filtN x h.evN).edge e a = if v.testBit a then x.size - 1 else x.edge e a := by
    show (if (h.evN e).testBit a then x.size - 1 else x.edge e a) = _
    rw [hvN]
  rw [hed]
  rw [hv'] at hc
  rw [hea] at hs
  clear hv hv' hvN hh hea hed r2 hm hl
  cases hb : v.testBit a with
  | true =>
    rw [hb] at hbit
    simp at hbit
    clear hb
    simp only [if_true]
    go_enter Try.func136, Try.ntmps136
    go_wp2
    go_ret
    exact ⟨ret_int (by omega), 0, rfl⟩
  | false =>
    rw [hb] at hbit
    simp at hbit
    clear hb
    simp only [Bool.false_eq_true, if_false]
    go_enter Try.func136, Try.ntmps136
    go_wp2
    go_ret
    exact ⟨rfl, 0, rfl⟩

set_option maxHeartbeats 2000000 in
theorem buildFilter_any (h : PHead) (m : AlgM) (x : NAlg) (b : Nat) (w : World) (hbw : b ≤ w.heap.size) (hfr : m.FromS b w) (hh : h.In w.heap.size w) (hl : LiesA m x) (hm : m.In w.heap.size w) (hx : x.Ok) (hen : h.en = x.el) (hv : ∀ i, i < h.en → 0 ≤ h.ev i ∧ h.ev i ≤ 2 ^ x.size - 1) :
    Calls Try.prog 108 #[m.val, .slice h.eg h.en h.ec] w fun e w' => Made (filtN x h.evN) b e w' ∧ Below w.heap.size w w' := by
  have lo := hx.lo
  have hi24 := hx.hi
  have he8 := hx.el
  have b0 : Blk ((((w.alloc (.cells #[.int .i64 x.size, (.slice m.B.ga m.B.t.len m.B.cap), (.slice m.E.ga m.E.t.len m.E.cap)] 24)).alloc (.cells #[.slice h.eg h.en h.ec] 32)).alloc (.cells #[.int .i64 0, .slice none 0 0, .slice none 0 0] 24)).alloc (.cells #[.int .i64 ((x.size : Int) - 1)] 3)) w.heap.size #[.int .i64 x.size, (.slice m.B.ga m.B.t.len m.B.cap), (.slice m.E.ga m.E.t.len m.E.cap)] 24 := (((Blk.new w _ _).alloc _).alloc _).alloc _
  have b1 : Blk ((((w.alloc (.cells #[.int .i64 x.size, (.slice m.B.ga m.B.t.len m.B.cap), (.slice m.E.ga m.E.t.len m.E.cap)] 24)).alloc (.cells #[.slice h.eg h.en h.ec] 32)).alloc (.cells #[.int .i64 0, .slice none 0 0, .slice none 0 0] 24)).alloc (.cells #[.int .i64 ((x.size : Int) - 1)] 3)) (w.heap.size + 1) #[.slice h.eg h.en h.ec] 32 := ((Blk.new' (by simp)).alloc _).alloc _
  have b2 : Blk ((((w.alloc (.cells #[.int .i64 x.size, (.slice m.B.ga m.B.t.len m.B.cap), (.slice m.E.ga m.E.t.len m.E.cap)] 24)).alloc (.cells #[.slice h.eg h.en h.ec] 32)).alloc (.cells #[.int .i64 0, .slice none 0 0, .slice none 0 0] 24)).alloc (.cells #[.int .i64 ((x.size : Int) - 1)] 3)) (w.heap.size + 1 + 1) #[.int .i64 0, .slice none 0 0, .slice none 0 0] 24 := (Blk.new' (by simp)).alloc _
  have b3 : Blk ((((w.alloc (.cells #[.int .i64 x.size, (.slice m.B.ga m.B.t.len m.B.cap), (.slice m.E.ga m.E.t.len m.E.cap)] 24)).alloc (.cells #[.slice h.eg h.en h.ec] 32)).alloc (.cells #[.int .i64 0, .slice none 0 0, .slice none 0 0] 24)).alloc (.cells #[.int .i64 ((x.size : Int) - 1)] 3)) (w.heap.size + 1 + 1 + 1) #[.int .i64 ((x.size : Int) - 1)] 3 := Blk.new' (by simp)
  have hb0 : Below w.heap.size w ((((w.alloc (.cells #[.int .i64 x.size, (.slice m.B.ga m.B.t.len m.B.cap), (.slice m.E.ga m.E.t.len m.E.cap)] 24)).alloc (.cells #[.slice h.eg h.en h.ec] 32)).alloc (.cells #[.int .i64 0, .slice none 0 0, .slice none 0 0] 24)).alloc (.cells #[.int .i64 ((x.size : Int) - 1)] 3)) := ((((Below.refl _ w).alloc (Nat.le_refl _) _).alloc (by simp) _).alloc (by simp; omega) _).alloc (by simp; omega) _
  simp only [AlgM.val, Mat.val, hl.size]
  have Hen := hide hen
  have he8' : h.en ≤ 8 := by omega
  clear hen
  go_enter Try.func108, Try.ntmps108
  go_wp2_with fail
  generalize hW : ((((w.alloc (.cells #[.int .i64 x.size, (.slice m.B.ga m.B.t.len m.B.cap), (.slice m.E.ga m.E.t.len m.E.cap)] 24)).alloc (.cells #[.slice h.eg h.en h.ec] 32)).alloc (.cells #[.int .i64 0, .slice none 0 0, .slice none 0 0] 24)).alloc (.cells #[.int .i64 ((x.size : Int) - 1)] 3)) = W at *
  have hsz : W.heap.size = w.heap.size + 4 := by rw [← hW]; simp
  clear hW
  have x0 := b0.cell 0
  have x1 := b0.cell 1
  have x2 := b1.cell 0
  simp at x0 x1 x2
  have HT := hide (table_any 136 #[.pointer (some ⟨w.heap.size + 1, 0, none⟩), .pointer (some ⟨w.heap.size + 1 + 1 + 1, 0, none⟩), .pointer (some ⟨w.heap.size, 0, none⟩)] h.en x.size (fun e a => (((filtN x h.evN).edge e a : Nat) : Int)) W.drew (by omega) (by omega) calls_filter1 (fun e a W' hi hk hb' => by
    have hbb : Below W.heap.size W W' := Below.trans (⟨rfl, rfl, rfl, Nat.le_refl _, fun _ _ => rfl⟩ : Below W.heap.size W W.drew) hb'
    have hbw' := hb0.trans (hbb.mono (by omega))
    have := filter1_any h m x (w.heap.size + 1) (w.heap.size + 1 + 1 + 1) w.heap.size e a w.heap.size W' (hh.below hbw' (Nat.le_refl _)) hl (hm.below hbw' (Nat.le_refl _)) hx ((b1.below hbb b1.lt).cell 0) ((b3.below hbb b3.lt).cell 0) ((b0.below hbb b0.lt).cell 2) (by have := Hen.out; omega) Hen.out (hv e hi) hk
    simpa using this))
  have ne0 : w.heap.size ≠ w.heap.size + 1 + 1 := by omega
  have ne1 : w.heap.size + 1 ≠ w.heap.size + 1 + 1 := by omega
  go_region_held3 (fun w' => w'.cell? ⟨w.heap.size, 0, none⟩ = some (.int .i64 x.size) ∧ w'.cell? ⟨w.heap.size, 1, none⟩ = some (.slice m.B.ga m.B.t.len m.B.cap) ∧ w'.cell? ⟨w.heap.size + 1, 0, none⟩ = some (.slice h.eg h.en h.ec)) (first | (go_keep; done) | exact ⟨b02.cell 0, b02.cell 1, b11.cell 0⟩ | exact ⟨(b02.far3 ne0 _ _ _).cell 0, (b02.far3 ne0 _ _ _).cell 1, (b11.far3 ne1 _ _ _).cell 0⟩)
    (first
      | (go_at_call 131; refine HT.out.mono ?_; rintro e w2 ⟨rfl, hl2⟩; have hB2 := Below.trans (⟨rfl, rfl, rfl, Nat.le_refl _, fun _ _ => rfl⟩ : Below W.heap.size W W.drew) hl2.below; have b02 := b0.below hB2 b0.lt; have b11 := b1.below hB2 b1.lt; have b12 := b2.below hB2 b2.lt; have d0 := b12.cell 0; have d1 := b12.cell 1; have d2 := b12.cell 2; have df := b12.frozen; simp at d0 d1 d2; have HL2 := hide hl2; clear hl2))
  all_goals
    have HBe := hide (below3 (hb0.trans (hB2.mono (by omega))) (show w.heap.size ≤ w.heap.size + 1 + 1 by omega) (.int .i64 x.size) (.slice m.B.ga m.B.t.len m.B.cap) (.slice (some ⟨w.heap.size + 4, 0, none⟩) h.en h.en))
    have b13 := b12.set3 (.int .i64 x.size) (.slice m.B.ga m.B.t.len m.B.cap) (.slice (some ⟨w.heap.size + 4, 0, none⟩) h.en h.en)
    have e0 := b13.cell 0
    have e1 := b13.cell 1
    have e2' := b13.cell 2
    unfold Ytjhkadffaephmaa.set3 at e0 e1 e2'
    simp at e0 e1 e2'
    have HM : Hid (Made (filtN x h.evN) b (.returned (.agg #[.int .i64 x.size, (.slice m.B.ga m.B.t.len m.B.cap), .slice (some ⟨w.heap.size + 4, 0, none⟩) h.en h.en])) (set3 w2 (w.heap.size + 1 + 1) (.int .i64 x.size) (.slice m.B.ga m.B.t.len m.B.cap) (.slice (some ⟨w.heap.size + 4, 0, none⟩) h.en h.en))) := hide (by
      have hws : W.drew.heap.size = w.heap.size + 4 := hsz
      have o2 := HL2.out.out
      have r2 := HL2.out.rows
      rw [hws] at o2
      simp only [hws] at r2
      refine ⟨⟨x.size, m.B, madeMat (w.heap.size + 4) h.en x.size (fun e a => (((filtN x h.evN).edge e a : Nat) : Int))⟩, rfl, ?_, ⟨(hm.B.below HBe.out (Nat.le_refl _)).mono HBe.out.size, ?_⟩, ⟨hfr.B, (made_from _ _ _ _).mono (by omega), fun r hr h0 => (hfr.sB r hr h0).below HBe.out (hfr.sB r hr h0).lt, fun r hr _ => ⟨_, (r2 r hr).far3 (by omega) _ _ _⟩⟩⟩
      · unfold AlgM.alg NAlg.alg
        simp only [hl.B]
        rw [Hen.out]
        rfl
      · exact mat_in (by omega) (by omega) (o2.far3 (by omega) _ _ _) (fun r hr => (r2 r hr).far3 (by omega) _ _ _))
    clear d0 d1 d2 df b02 b12 b11
    go_wp2
    exact bodyPost_ret (v := .agg #[.int .i64 x.size, (.slice m.B.ga m.B.t.len m.B.cap), .slice (some ⟨w.heap.size + 4, 0, none⟩) h.en h.en]) (by simp [results, Try.results108, go_sem, e0, e1, e2']) rfl ⟨HM.out, HBe.out⟩

end Go.Proofs.Ytjhkadffaephmaa
