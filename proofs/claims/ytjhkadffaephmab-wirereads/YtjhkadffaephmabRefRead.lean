/-
  The document's reckoning of packets: ReadOf.
-/
import Derived.Test.YtjhkadffaephmabRefWire
import Derived.Test.YtjhkadffaephmabRefCheck
namespace Go.Proofs.Ytjhkadffaephmab
set_option maxRecDepth 100000
open Go.RowKit

/-- When bytes are a packet's, byte by byte. -/
theorem readErr_split {a b c d : UInt8} {r : List UInt8} {x y : UInt8} (h : r.length ≤ 54) :
    readErr ([a, b, c, d] ++ r ++ [x, y]) = if a.toNat = 83 ∧ d.toNat = r.length ∧ b.toNat ≤ 250 ∧ c.toNat ≤ 250 ∧ (∀ i, i < r.length → (r.getD i 0).toNat ≤ 250) ∧ sumOf ([a, b, c, d] ++ r) = 256 * x.toNat + y.toNat then 0 else 1 := by
  have hlen : ([a, b, c, d] ++ r ++ [x, y]).length = r.length + 6 := by simp
  unfold readErr
  rw [if_neg (by omega), if_neg (by omega)]
  have hbi := bytes_iff (a := a) (b := b) (c := c) (d := d) (x := x) (y := y) h
  have hs := packet_split a b c d r x y
  have herr : (packet ([a, b, c, d] ++ r ++ [x, y])).err = 0 ↔ b.toNat ≤ 250 ∧ c.toNat ≤ 250 ∧ ∀ i, i < r.length → (r.getD i 0).toNat ≤ 250 := by
    rw [Pkt.same_err hs]
    constructor
    · intro e
      have := (Pkt.err_ok e).1
      unfold Pkt.inRange inB at this
      simp only [Bool.and_eq_true, decide_eq_true_eq] at this
      refine ⟨by omega, by omega, fun i hi => ?_⟩
      have := (Pkt.routesIn_iff.1 this.2 i hi).2
      simp only at this
      omega
    · rintro ⟨h1, h2, h3⟩
      apply Pkt.err_of
      · unfold Pkt.inRange inB
        simp only [Bool.and_eq_true, decide_eq_true_eq]
        exact ⟨⟨⟨by omega, by omega⟩, ⟨by omega, by omega⟩⟩, Pkt.routesIn_iff.2 fun i hi => by have := h3 i hi; simp only; omega⟩
      · show r.length + 6 ≤ 60
        omega
  have ha : a = 83 ↔ a.toNat = 83 := ⟨fun e => by rw [e]; rfl, fun e => UInt8.toNat_inj.1 (by rw [e]; rfl)⟩
  by_cases hc : a.toNat = 83 ∧ d.toNat = r.length ∧ b.toNat ≤ 250 ∧ c.toNat ≤ 250 ∧ (∀ i, i < r.length → (r.getD i 0).toNat ≤ 250) ∧ sumOf ([a, b, c, d] ++ r) = 256 * x.toNat + y.toNat
  · rw [if_pos hc, if_pos ⟨herr.2 ⟨hc.2.2.1, hc.2.2.2.1, hc.2.2.2.2.1⟩, hbi.2 ⟨ha.2 hc.1, hc.2.1, hc.2.2.2.2.2⟩⟩]
  · rw [if_neg hc, if_neg]
    rintro ⟨e1, e5⟩
    obtain ⟨e2, e3, e4⟩ := hbi.1 e5
    have := herr.1 e1
    exact hc ⟨ha.1 e2, e3, this.1, this.2.1, this.2.2, e4⟩

set_option maxHeartbeats 4000000 in
theorem readOf_bad (l : List UInt8) (w : World) (h60 : l.length ≤ 60) (hx : readErr l = 1)
    (hbad : l.length < 6 ∨ (6 ≤ l.length ∧ (l.getD 0 0).toNat ≠ 83) ∨ (6 ≤ l.length ∧ (l.getD 0 0).toNat = 83 ∧ (l.getD 3 0).toNat ≠ l.length - 6) ∨
      (6 ≤ l.length ∧ (l.getD 0 0).toNat = 83 ∧ (l.getD 3 0).toNat = l.length - 6 ∧ 250 < (l.getD 1 0).toNat) ∨
      (6 ≤ l.length ∧ (l.getD 0 0).toNat = 83 ∧ (l.getD 3 0).toNat = l.length - 6 ∧ ¬ 250 < (l.getD 1 0).toNat ∧ 250 < (l.getD 2 0).toNat)) :
    Calls Try.prog 14 #[txt l] w fun e w' => ReadAns l w.heap.size e w' ∧ Below w.heap.size w w' := by
  have hsz : (ByteArray.mk l.toArray).size = l.length := by simp [ByteArray.size]
  have b0 := Blk.new w #[.int .i64 0, .int .i64 0, .slice none 0 0] 24
  have HBe : Hid (Below w.heap.size w (w.alloc (.cells #[.int .i64 0, .int .i64 0, .slice none 0 0] 24))) := hide ((Below.refl _ w).alloc (Nat.le_refl _) _)
  have d0 := b0.cell 0
  have d1 := b0.cell 1
  have d2 := b0.cell 2
  have df := b0.frozen
  simp at d0 d1 d2
  have Hx := hide hx
  have hg : ∀ (i : Nat) (h : i < (ByteArray.mk l.toArray).size), ((ByteArray.mk l.toArray)[i]).toNat = (l.getD i 0).toNat := fun i h => by rw [read_idx h]
  have g0 := hg 0
  have g1 := hg 1
  have g2 := hg 2
  have g3 := hg 3
  have l0 := (l.getD 0 0).toNat_lt
  have l1 := (l.getD 1 0).toNat_lt
  have l2 := (l.getD 2 0).toNat_lt
  have l3 := (l.getD 3 0).toNat_lt
  clear hx hg b0
  unfold txt
  generalize (l.getD 0 0).toNat = c0 at *
  generalize (l.getD 1 0).toNat = c1 at *
  generalize (l.getD 2 0).toNat = c2 at *
  generalize (l.getD 3 0).toNat = c3 at *
  generalize ByteArray.mk l.toArray = s at *
  have h60i : ¬ (60 : Int) < (s.size : Int) := by omega
  rcases hbad with h | ⟨h, h0⟩ | ⟨h, h0, h3⟩ | ⟨h, h0, h3, h1⟩ | ⟨h, h0, h3, h1, h2⟩
  · have h6i : (s.size : Int) < 6 := by omega
    clear h g0 g1 g2 g3
    go_enter Try.func14, Try.ntmps14
    go_wp2
    exact bodyPost_ret (v := .tuple #[.agg #[.int .i64 0, .int .i64 0, .slice none 0 0], .int .i64 1]) (by simp [results, Try.results14, go_sem]) rfl ⟨readAns_bad Hx.out (by decide), HBe.out⟩
  · have h6i : ¬ (s.size : Int) < 6 := by omega
    have q0 : ((c0 : Int) != 83) = true := by simp; omega
    clear h0
    go_enter Try.func14, Try.ntmps14
    go_wp2
    exact bodyPost_ret (v := .tuple #[.agg #[.int .i64 0, .int .i64 0, .slice none 0 0], .int .i64 1]) (by simp [results, Try.results14, go_sem]) rfl ⟨readAns_bad Hx.out (by decide), HBe.out⟩
  · have h6i : ¬ (s.size : Int) < 6 := by omega
    subst h0
    have q3 : ((c3 : Int) != (l.length : Int) - 6) = true := by simp; omega
    clear h3
    go_enter Try.func14, Try.ntmps14
    go_wp2
    exact bodyPost_ret (v := .tuple #[.agg #[.int .i64 0, .int .i64 0, .slice none 0 0], .int .i64 1]) (by simp [results, Try.results14, go_sem]) rfl ⟨readAns_bad Hx.out (by decide), HBe.out⟩
  · have h6i : ¬ (s.size : Int) < 6 := by omega
    subst h0
    have q3 : ((c3 : Int) != (l.length : Int) - 6) = false := by simp; omega
    have q1 : (250 : Int) < (c1 : Int) := by omega
    clear h3 h1
    go_enter Try.func14, Try.ntmps14
    go_wp2
    exact bodyPost_ret (v := .tuple #[.agg #[.int .i64 0, .int .i64 0, .slice none 0 0], .int .i64 1]) (by simp [results, Try.results14, go_sem]) rfl ⟨readAns_bad Hx.out (by decide), HBe.out⟩
  · have h6i : ¬ (s.size : Int) < 6 := by omega
    subst h0
    have q3 : ((c3 : Int) != (l.length : Int) - 6) = false := by simp; omega
    have q1 : ¬ (250 : Int) < (c1 : Int) := by omega
    have q2 : (250 : Int) < (c2 : Int) := by omega
    clear h3 h1 h2
    go_enter Try.func14, Try.ntmps14
    go_wp2
    exact bodyPost_ret (v := .tuple #[.agg #[.int .i64 0, .int .i64 0, .slice none 0 0], .int .i64 1]) (by simp [results, Try.results14, go_sem]) rfl ⟨readAns_bad Hx.out (by decide), HBe.out⟩

/-- The append of one number, run ahead. -/
theorem append_run (W : World) (C : Nat) (V : Value) (k : Nat) (f : Nat → Int) (x : Int) (ho : W.ownsRow C 3 1 V k (intsL f k)) (hk : k ≤ 100) (hC : C ≤ W.heap.size) (ty : TypeId) :
    ∃ g cap W4, (Builtin.append_ #[22, 22] ty #[V, .slice (some ⟨W.heap.size, 0, none⟩) 1 1]).run Try.prog (W.alloc (.cells #[.int .i64 x] 3)).drew = .ok (.slice (some ⟨g, 0, none⟩) (k + 1) cap) W4 ∧
      W4.ownsRow C 3 1 (.slice (some ⟨g, 0, none⟩) (k + 1) cap) (k + 1) (intsL f k ++ [.int .i64 x]) ∧ Below C W W4 := by
  obtain ⟨i1, hi1, hy0, hy1, hy2⟩ := info_parts Try.infoInt
  have hb : Below C W (W.alloc (.cells #[.int .i64 x] 3)).drew := ((Below.refl C W).alloc hC _).trans ⟨rfl, rfl, rfl, Nat.le_refl _, fun _ _ => rfl⟩
  have ho2 : (W.alloc (.cells #[.int .i64 x] 3)).drew.ownsRow C 3 1 V k (intsL f k) := (ho.alloc _).drew
  obtain ⟨g, cap, w', hr, h2, h3, h4, h5⟩ := run_append_lies (P := Try.prog) (W.alloc (.cells #[.int .i64 x] 3)).drew 22 ty C 3 i1 _ 1 8 Try.underlying22 hi1 hy0 hy1 hy2 rfl (by decide) V k _ ho2 ⟨W.heap.size, 0, none⟩ 1 1 [.int .i64 x] rfl (World.news_of_block (cs := #[.int .i64 x]) (show (W.alloc (.cells #[.int .i64 x] 3)).drew.heap[W.heap.size]? = _ from heap_alloc_new W _)) (by simp [Value.oneCell']) (by decide) (by unfold maxLen; omega) (by omega) (Nat.le_trans hC hb.size) _ rfl
  exact ⟨g, cap, w', hr, h2, hb.trans (grown_below h3 (fun g hg => (ho.lt g hg).1) (Nat.le_trans hC hb.size))⟩

end Go.Proofs.Ytjhkadffaephmab
