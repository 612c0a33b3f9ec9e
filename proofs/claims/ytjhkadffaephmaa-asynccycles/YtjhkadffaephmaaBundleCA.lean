/-
  Our own texts, bundled: a claim holds few files.
-/
import Derived.Test.YtjhkadffaephmaaBundleBE
import Derived.Test.YtjhkadffaephmaaBundleBF
import Derived.Test.YtjhkadffaephmaaBundleAH
/-
  Schedules in memory; async.checkTurn, async.Check, async.used.
-/
namespace Go.Proofs.Ytjhkadffaephmaa
set_option maxRecDepth 100000
open Go.RowKit

/-- A turn in memory. -/
structure TurnM where
  ag : Option Addr
  an : Nat
  ac : Nat
  ab : Nat
  ao : Nat
  act : Nat → Bool
  ages : Mat

def TurnM.cells (t : TurnM) : Array Value := #[.slice t.ag t.an t.ac, t.ages.val]
def TurnM.val (t : TurnM) : Value := .agg t.cells
structure TurnM.In (t : TurnM) (N : Nat) (w : World) : Prop where
  aa : 0 < t.an → t.ag = some ⟨t.ab, t.ao, none⟩
  al : 0 < t.an → t.ab < N
  cell : ∀ i, i < t.an → w.cell? ⟨t.ab, t.ao + i, none⟩ = some (.bool (t.act i))
  len : t.an ≤ maxLen
  ages : t.ages.In N w
theorem TurnM.In.below {t : TurnM} {N k : Nat} {w w' : World} (h : t.In N w) (hb : Below k w w') (hk : N ≤ k) : t.In N w' :=
  ⟨h.aa, h.al, fun i hi => by rw [hb.cell (p := ⟨t.ab, t.ao + i, none⟩) (Nat.lt_of_lt_of_le (h.al (by omega)) hk)]; exact h.cell i hi, h.len, h.ages.below hb hk⟩
theorem TurnM.In.mono {t : TurnM} {N k : Nat} {w : World} (h : t.In N w) (hk : N ≤ k) : t.In k w :=
  ⟨h.aa, fun h0 => Nat.lt_of_lt_of_le (h.al h0) hk, h.cell, h.len, h.ages.mono hk⟩
theorem TurnM.In.grown {t : TurnM} {w w' : World} (h : t.In w.heap.size w) (hb : Below w.heap.size w w') : t.In w'.heap.size w' := (h.below hb (Nat.le_refl _)).mono hb.size

/-- A schedule in memory. -/
structure SchedM where
  ta : Option Addr
  tn : Nat
  tc : Nat
  tb : Nat
  off : Nat
  turn : Nat → TurnM

def SchedM.val (s : SchedM) : Value := .slice s.ta s.tn s.tc
def SchedM.sched (s : SchedM) : Sched := ⟨s.tn, fun k => (s.turn k).an, fun k => (s.turn k).act, fun k => (s.turn k).ages.t⟩
structure SchedM.In (s : SchedM) (N : Nat) (w : World) : Prop where
  ta : 0 < s.tn → s.ta = some ⟨s.tb, s.off, none⟩
  tb : 0 < s.tn → s.tb < N
  c0 : ∀ k, k < s.tn → w.cell? ⟨s.tb, s.off + k * 2, none⟩ = some (.slice (s.turn k).ag (s.turn k).an (s.turn k).ac)
  c1 : ∀ k, k < s.tn → w.cell? ⟨s.tb, s.off + k * 2 + 1, none⟩ = some (s.turn k).ages.val
  each : ∀ k, k < s.tn → (s.turn k).In N w
  len : s.tn ≤ maxLen
theorem SchedM.In.below {s : SchedM} {N k : Nat} {w w' : World} (h : s.In N w) (hb : Below k w w') (hk : N ≤ k) : s.In N w' where
  ta := h.ta
  tb := h.tb
  c0 := fun i hi => by rw [hb.cell (p := ⟨s.tb, s.off + i * 2, none⟩) (Nat.lt_of_lt_of_le (h.tb (by omega)) hk)]; exact h.c0 i hi
  c1 := fun i hi => by rw [hb.cell (p := ⟨s.tb, s.off + i * 2 + 1, none⟩) (Nat.lt_of_lt_of_le (h.tb (by omega)) hk)]; exact h.c1 i hi
  each := fun i hi => (h.each i hi).below hb hk
  len := h.len
theorem SchedM.In.mono {s : SchedM} {N k : Nat} {w : World} (h : s.In N w) (hk : N ≤ k) : s.In k w :=
  ⟨h.ta, fun h0 => Nat.lt_of_lt_of_le (h.tb h0) hk, h.c0, h.c1, fun i hi => (h.each i hi).mono hk, h.len⟩
theorem SchedM.In.grown {s : SchedM} {w w' : World} (h : s.In w.heap.size w) (hb : Below w.heap.size w w') : s.In w'.heap.size w' := (h.below hb (Nat.le_refl _)).mono hb.size

/-- What is wrong with a turn. -/
def turnE (nodes : Int) (al : Nat) (t : Tab) : Int := if (al : Int) ≠ nodes ∨ (t.len : Int) ≠ nodes ∨ t.wide nodes = false then 1 else if t.agesOk = false then 3 else 0

set_option maxHeartbeats 4000000 in
theorem checkTurn_any (t : TurnM) (nodes : Int) (w : World) (h : t.In w.heap.size w) :
    Calls Try.prog 91 #[t.val, .int .i64 nodes] w fun e w' => e = .returned (.int .i64 (turnE nodes t.an t.ages.t)) ∧ Below w.heap.size w w' := by
  have hal := h.len
  have htl := h.ages.len
  unfold maxLen at hal htl
  have HB0 := hide (fun o => show Below w.heap.size w (w.alloc o) from (Below.refl _ w).alloc (Nat.le_refl _) _)
  have HA := hide (fun o => h.ages.below (HB0.out o) (Nat.le_refl _))
  have Hdef : Hid (turnE nodes t.an t.ages.t = if (t.an : Int) ≠ nodes ∨ (t.ages.t.len : Int) ≠ nodes ∨ t.ages.t.wide nodes = false then 1 else if t.ages.t.agesOk = false then 3 else 0) := hide rfl
  have HGa := hide h.ages.ga
  clear h
  simp only [TurnM.val, TurnM.cells, Mat.val] at *
  generalize t.ages = m at *
  by_cases h1 : (t.an : Int) = nodes
  rotate_left
  · have h1' : ((t.an : Int) != nodes) = true := by simp [h1]
    have hfin : Hid (turnE nodes t.an m.t = 1) := hide (by rw [Hdef.out, if_pos (Or.inl h1)])
    clear h1 Hdef
    go_enter Try.func91, Try.ntmps91
    go_wp2
    go_ret
    exact ⟨by rw [hfin.out]; rfl, HB0.out _⟩
  have h1' : ((t.an : Int) != nodes) = false := by simp [h1]
  have H1 := hide h1
  clear h1
  by_cases h2 : (m.t.len : Int) = nodes
  rotate_left
  · have h2' : ((m.t.len : Int) != nodes) = true := by simp [h2]
    have hfin : Hid (turnE nodes t.an m.t = 1) := hide (by rw [Hdef.out, if_pos (Or.inr (Or.inl h2))])
    clear h2 Hdef
    go_enter Try.func91, Try.ntmps91
    go_wp2
    go_ret
    exact ⟨by rw [hfin.out]; rfl, HB0.out _⟩
  have h2' : ((m.t.len : Int) != nodes) = false := by simp [h2]
  have H2 := hide h2
  clear h2
  go_enter Try.func91, Try.ntmps91
  go_wp2
  go_loop [6, 26] (fun _ i => ∃ k : Nat, k ≤ m.t.len ∧ i = .int .i64 k ∧ Hid (∀ r, r < k → (m.t.L r : Int) = nodes)) (fun _ i => m.t.len - (intOf i).toNat)
  case atStart => exact ⟨0, Nat.zero_le _, rfl, hide fun r hr => absurd hr (Nat.not_lt_zero _)⟩
  case round =>
    obtain ⟨k, hk, rfl, Hall⟩ := hrel
    by_cases hlt : k < m.t.len
    · have hga := HGa.out (by omega)
      have hrow := fun o => (HA.out o).row k hlt
      have hlens := (HA.out (.map #[] 0)).lens k hlt
      unfold maxLen at hlens
      have hki : (k : Int) < (m.t.len : Int) := by omega
      by_cases he : (m.t.L k : Int) = nodes
      · have he' : ((m.t.L k : Int) != nodes) = false := by simp [he]
        have Hn : Hid (∀ r, r < k + 1 → (m.t.L r : Int) = nodes) := hide (fun r hr => by
          by_cases e : r = k
          · subst e; exact he
          · exact Hall.out r (by omega))
        clear he
        go_wp2
        go_round
        case rel =>
          first
          | exact ⟨k + 1, by omega, by go_num, Hn⟩
          | exact ⟨_, _, _, ⟨k + 1, by omega, by go_num, Hn⟩, rfl, rfl, rfl⟩
          | (rw [← hga]; (repeat apply Exists.intro); refine ⟨?_, rfl⟩; exact ⟨k + 1, by omega, by go_num, Hn⟩)
          | (rw [← hga]; refine ⟨trivial, ?_⟩; (repeat apply Exists.intro); refine ⟨?_, rfl⟩; exact ⟨k + 1, by omega, by go_num, Hn⟩)
        case measure => simp [intOf]; omega
      · have he' : ((m.t.L k : Int) != nodes) = true := by simp [he]
        have hfin : Hid (turnE nodes t.an m.t = 1) := hide (by rw [Hdef.out, if_pos (Or.inr (Or.inr (Tab.wide_false hlt he)))])
        clear he
        go_wp2
        go_ret
        exact ⟨by rw [hfin.out]; rfl, HB0.out _⟩
    · have hki : (m.t.len : Int) ≤ (k : Int) := by omega
      have Hw : Hid (m.t.wide nodes = true) := hide ((m.t.wide_iff nodes).2 (fun r hr => Hall.out r (by omega)))
      have Hd2 : Hid (turnE nodes t.an m.t = if m.t.agesOk = false then 3 else 0) := hide (by rw [Hdef.out, if_neg (by simp [H1.out, H2.out, Hw.out])])
      clear Hdef Hall Hw
      go_wp2
      go_loop [8, 10, 38] (fun _ _ i => ∃ k : Nat, k ≤ m.t.len ∧ i = .int .i64 k ∧ Hid (∀ r, r < k → ∀ c, c < m.t.L r → 1 ≤ m.t.Z r c ∧ m.t.Z r c ≤ 20)) (fun _ _ i => m.t.len - (intOf i).toNat)
      case atStart => exact ⟨0, Nat.zero_le _, rfl, hide fun r hr => absurd hr (Nat.not_lt_zero _)⟩
      case round =>
        obtain ⟨r, hr, rfl, Hall⟩ := hrel
        by_cases hlt : r < m.t.len
        · have hga := HGa.out (by omega)
          have hrow := fun o => (HA.out o).row r hlt
          have hlens := (HA.out (.map #[] 0)).lens r hlt
          unfold maxLen at hlens
          have hri : (r : Int) < (m.t.len : Int) := by omega
          go_wp2
          go_loop [10, 44] (fun _ j => ∃ c : Nat, c ≤ m.t.L r ∧ j = .int .i64 c ∧ Hid (∀ c', c' < c → 1 ≤ m.t.Z r c' ∧ m.t.Z r c' ≤ 20)) (fun _ j => m.t.L r - (intOf j).toNat)
          case atStart => exact ⟨0, Nat.zero_le _, rfl, hide fun r hr => absurd hr (Nat.not_lt_zero _)⟩
          case round =>
            obtain ⟨c, hc, rfl, Hrow⟩ := hrel
            by_cases hcl : c < m.t.L r
            · have hA := ((HA.out (.map #[] 0)).addr r hlt (by omega)).1
              have hcell := fun o => (HA.out o).cell r hlt c hcl
              have hci : (c : Int) < (m.t.L r : Int) := by omega
              by_cases hneg : m.t.Z r c < 1
              · have hao : m.t.agesOk = false := Tab.agesOk_false hlt hcl (Or.inl hneg)
                have hfin : Hid (turnE nodes t.an m.t = 3) := hide (by rw [Hd2.out, hao]; rfl)
                clear hao
                go_wp2
                go_ret
                exact ⟨by rw [hfin.out]; rfl, HB0.out _⟩
              by_cases hbig : 20 < m.t.Z r c
              · have hao : m.t.agesOk = false := Tab.agesOk_false hlt hcl (Or.inr hbig)
                have hfin : Hid (turnE nodes t.an m.t = 3) := hide (by rw [Hd2.out, hao]; rfl)
                clear hao
                go_wp2
                go_ret
                exact ⟨by rw [hfin.out]; rfl, HB0.out _⟩
              have Hn : Hid (∀ c', c' < c + 1 → 1 ≤ m.t.Z r c' ∧ m.t.Z r c' ≤ 20) := hide (fun c' hc' => by
                by_cases e : c' = c
                · subst e; omega
                · exact Hrow.out c' (by omega))
              go_wp2
              go_round
              case rel =>
                first
                | exact ⟨c + 1, by omega, by go_num, Hn⟩
                | ((try rw [← hga]); (try rw [← hA]); (repeat apply Exists.intro); refine ⟨?_, rfl⟩; exact ⟨c + 1, by omega, by go_num, Hn⟩)
                | ((try rw [← hga]); (try rw [← hA]); refine ⟨trivial, ?_⟩; (repeat apply Exists.intro); refine ⟨?_, rfl⟩; exact ⟨c + 1, by omega, by go_num, Hn⟩)
              case measure => simp [intOf]; omega
            · have hci : (m.t.L r : Int) ≤ (c : Int) := by omega
              have HAn : Hid (∀ r', r' < r + 1 → ∀ c, c < m.t.L r' → 1 ≤ m.t.Z r' c ∧ m.t.Z r' c ≤ 20) := hide (fun r' hr' => by
                by_cases e : r' = r
                · subst e; exact fun c' hc' => Hrow.out c' (by omega)
                · exact Hall.out r' (by omega))
              go_wp2
              go_round
              case rel =>
                first
                | exact ⟨r + 1, by omega, by go_num, HAn⟩
                | exact ⟨_, _, _, _, ⟨r + 1, by omega, by go_num, HAn⟩, rfl, rfl, rfl, rfl⟩
                | ((try rw [← hga]); (repeat apply Exists.intro); refine ⟨?_, rfl⟩; exact ⟨r + 1, by omega, by go_num, HAn⟩)
                | ((try rw [← hga]); refine ⟨trivial, ?_⟩; (repeat apply Exists.intro); refine ⟨?_, rfl⟩; exact ⟨r + 1, by omega, by go_num, HAn⟩)
              case measure => simp [intOf]; omega
        · have hri : (m.t.len : Int) ≤ (r : Int) := by omega
          have hao : m.t.agesOk = true := Tab.agesOk_iff.2 (fun r' hr' => Hall.out r' (by omega))
          have hfin : Hid (turnE nodes t.an m.t = 0) := hide (by rw [Hd2.out, hao]; rfl)
          clear hao
          go_wp2
          go_ret
          exact ⟨by rw [hfin.out]; rfl, HB0.out _⟩

theorem turnErr_eq (n : Net) (s : SchedM) (k : Nat) : n.turnErr s.sched k = turnE n.nodes (s.turn k).an (s.turn k).ages.t := rfl

set_option maxHeartbeats 4000000 in
theorem asyncCheck_any (n : NetM) (s : SchedM) (w : World) (h : n.In w.heap.size w) (hs : s.In w.heap.size w) :
    Calls Try.prog 48 #[n.val, s.val] w fun e w' => e = .returned (.int .i64 (n.net.turns s.sched)) ∧ Below w.heap.size w w' := by
  have hlen := hs.len
  unfold maxLen at hlen
  have hB0 : Below w.heap.size w (w.alloc (.cells n.cells 50)) := (Below.refl _ w).alloc (Nat.le_refl _) _
  have b0 := Blk.new w n.cells 50
  have HC := hide (netCheck_any n _ (h.grown hB0))
  have HT := hide (fun (t : TurnM) W (ht : t.In W.heap.size W) => checkTurn_any t n.nodes W ht)
  have Hdef : Hid (n.net.turns s.sched = if n.net.check ≠ 0 then n.net.check else if 200 < s.tn then 2 else firstErr (n.net.turnErr s.sched) s.tn) := hide rfl
  have HS := hide hs
  generalize n.net.check = ck at *
  clear h hs
  simp only [NetM.val, NetM.cells, Mat.val, SchedM.val, TurnM.val, TurnM.cells] at HC HT b0 hB0 ⊢
  go_enter Try.func48, Try.ntmps48
  go_wp2_with fail
  go_at_call 38
  refine HC.out.mono ?_
  rintro e w1 ⟨rfl, hb1⟩
  have hB1 := hB0.trans (hb1.mono hB0.size)
  have b1 := b0.below hb1 b0.lt
  clear HC hB0 b0 hb1
  by_cases hc : ck = 0
  rotate_left
  · have hfin : Hid (n.net.turns s.sched = ck) := hide (by rw [Hdef.out, if_pos hc])
    have hc' : (ck != 0) = true := by simp [hc]
    have HB := hide hB1
    clear Hdef hc hB1 HT
    go_wp2
    go_ret
    exact ⟨by rw [hfin.out]; rfl, HB.out⟩
  subst hc
  by_cases hm : 200 < s.tn
  · have hm' : (200 : Int) < (s.tn : Int) := by omega
    have hfin : Hid (n.net.turns s.sched = 2) := hide (by rw [Hdef.out, if_neg (by simp), if_pos hm])
    have HB := hide hB1
    clear Hdef hm hB1 HT
    go_wp2
    go_ret
    exact ⟨by rw [hfin.out]; rfl, HB.out⟩
  have hm' : (s.tn : Int) ≤ 200 := by omega
  have Hd2 : Hid (n.net.turns s.sched = firstErr (n.net.turnErr s.sched) s.tn) := hide (by rw [Hdef.out, if_neg (by simp), if_neg hm])
  have HB1 := hide hB1
  clear Hdef hB1
  go_wp2_with fail
  go_loopw [7, 8, 19] (fun _ _ q wr => ∃ k : Nat, k ≤ s.tn ∧ q = .int .i64 k ∧ Hid (∀ r, r < k → n.net.turnErr s.sched r = 0) ∧ Hid (Below w1.heap.size w1 wr)) (fun _ _ q _ => s.tn - (intOf q).toNat)
  case atStart => exact ⟨0, Nat.zero_le _, rfl, hide fun r hr => absurd hr (Nat.not_lt_zero _), hide (Below.refl _ _)⟩
  case round =>
    obtain ⟨k, hk, rfl, Hall, HB⟩ := hrel
    have hBw := HB1.out.trans (HB.out.mono HB1.out.size)
    by_cases hlt : k < s.tn
    · have hki : (k : Int) < (s.tn : Int) := by omega
      have hta := HS.out.ta (by omega)
      have hI := HS.out.grown hBw
      have c0 := hI.c0 k hlt
      have c1 := hI.c1 k hlt
      rw [Mat.val] at c1
      have bN := b1.below HB.out b1.lt
      have n3 : ∀ o, (wr.alloc o).cell? ⟨w.heap.size, 3, none⟩ = some (.int .i64 n.nodes) := fun o => (bN.alloc o).cell 3
      have hba : Below wr.heap.size wr (wr.alloc (.cells #[.slice (s.turn k).ag (s.turn k).an (s.turn k).ac, .slice (s.turn k).ages.ga (s.turn k).ages.t.len (s.turn k).ages.cap] 123)) := (Below.refl _ wr).alloc (Nat.le_refl _) _
      have HT1 := hide (HT.out (s.turn k) _ ((hI.each k hlt).grown hba))
      have HBa := hide (HB.out.trans (hba.mono HB.out.size))
      have Hne : Hid (n.net.turnErr s.sched k ≠ 0 → n.net.turns s.sched = n.net.turnErr s.sched k) := hide (fun hne => Hd2.out.trans (firstErr_at hlt Hall.out hne))
      have Hte : Hid (turnE n.nodes (s.turn k).an (s.turn k).ages.t = n.net.turnErr s.sched k) := hide rfl
      rw [Hte.out] at HT1
      have HAn : Hid (n.net.turnErr s.sched k = 0 → ∀ r, r < k + 1 → n.net.turnErr s.sched r = 0) := hide (fun h0 r hr => by
        by_cases e : r = k
        · subst e; exact h0
        · exact Hall.out r (by omega))
      generalize n.net.turnErr s.sched k = te at *
      clear hba hI bN hBw Hte
      go_wp2_with fail
      go_at_call 91
      refine HT1.out.mono ?_
      rintro e w2 ⟨rfl, hb2⟩
      have HB2 := hide (HBa.out.trans (hb2.mono HBa.out.size))
      clear hb2 HT1 HBa c0 c1 n3
      by_cases ht : te = 0
      · subst ht
        have HA2 := hide (HAn.out (by first | rfl | trivial))
        clear HAn Hne
        go_wp2
        go_roundw
        case rel =>
          first
          | exact ⟨k + 1, by omega, by go_num, HA2, HB2⟩
          | ((try rw [← hta]); (repeat apply Exists.intro); refine ⟨?_, rfl⟩; exact ⟨k + 1, by omega, by go_num, HA2, HB2⟩)
        case measure => simp [intOf]; omega
      · have ht' : (te != 0) = true := by simp [ht]
        have hfin := hide (Hne.out ht)
        have HBf := hide (HB1.out.trans (HB2.out.mono HB1.out.size))
        clear ht HAn Hne
        go_wp2
        go_ret
        exact ⟨by rw [hfin.out]; rfl, HBf.out⟩
    · have hki : (s.tn : Int) ≤ (k : Int) := by omega
      have hfin := hide (Hd2.out.trans (firstErr_zero.2 (fun r (hr : r < s.tn) => Hall.out r (by omega))))
      have HBf := hide hBw
      clear hBw
      go_wp2
      go_ret
      exact ⟨by rw [hfin.out]; rfl, HBf.out⟩

set_option maxHeartbeats 400000 in
theorem used_any (k : Nat) (age : Int) (w : World) (hk : k ≤ 1000) (h0 : 1 ≤ age) (h1 : age ≤ 20) :
    Calls Try.prog 125 #[.int .i64 k, .int .i64 age] w fun e w' => e = .returned (.int .i64 ((((k : Int) + 1 - age).toNat : Nat) : Int)) ∧ ∃ m, w' = w.drewN m := by
  by_cases hl : (k : Int) + 1 - age < 0
  · go_enter Try.func125, Try.ntmps125
    go_wp2
    go_ret
    exact ⟨ret_int (by omega), 0, rfl⟩
  · go_enter Try.func125, Try.ntmps125
    go_wp2
    go_ret
    exact ⟨ret_int (by omega), 0, rfl⟩

end Go.Proofs.Ytjhkadffaephmaa

/-
  Maps that count: what storing anew does; how many keys there are.
-/
namespace Go.Proofs.Ytjhkadffaephmaa
set_option maxRecDepth 100000
open Go.RowKit

section
variable {t k : TypeId} {ks : List Value} {cnt : Value → Int} {b : Nat} {w : World} {es : Array MapEntry} {clock : Nat}

theorem CntAt.update (h : CntAt k ks cnt b w es clock) (K : Maps.Keyed Try.prog k) (ht : Try.prog.underlying t = some (.map k 3)) {v : Value} {l : Lit} (hv : keyOf Try.prog k v = some l) (n : Int) :
    ∃ (ks' : List Value) (es2 : Array MapEntry) (clock2 : Nat), (Instr.mapUpdate t (.map (some b)) v (.int .i64 n)).run Try.prog w = .ok () (ChangeMaps.setBlock w b (.map es2 clock2)) ∧ Added ks v ks' ∧
      ∀ c : Value → Int, (∀ u, u ≠ v → c u = cnt u) → c v = n → CntAt k ks' c b (ChangeMaps.setBlock w b (.map es2 clock2)) es2 clock2 := by
  obtain ⟨st, ks', es1, clock1, hent, hadd, hC1, hsto⟩ := h.entry K ht hv
  obtain ⟨es2, hst, hnew⟩ := hsto n
  rcases h.find K hv w with ⟨h1, h2⟩ | ⟨j, x, h1, h2, h3, h4⟩
  · have e1 : (Instr.mapEntry t (.map (some b)) v).run Try.prog w = .ok (.tuple #[.int .i64 0, .int .i64 clock]) (ChangeMaps.setBlock w b (.map (es.push ⟨v, .int .i64 0, clock⟩) (clock + 1))) := by
      simp [Instr.mapEntry, run_underlying ht, MapKept.run_getObj_map h.blk, K.check w false hv, h1, zeroI w, MapKept.run_setObj_map _ h.blk, Result.andThen, ChangeMaps.setBlock, goInt]
    rw [e1] at hent
    have hsame := hC1.blk
    have hs0 : ∀ o, (ChangeMaps.setBlock w b o).heap[b]? = some o := fun o => ChangeMaps.heap_setBlock_same h.blk o
    injection hent with e2 e3
    have e4 : some (Obj.map (es.push ⟨v, .int .i64 0, clock⟩) (clock + 1)) = some (Obj.map es1 clock1) := by rw [← hs0, ← hs0, e3]
    simp only [Option.some.injEq, Obj.map.injEq] at e4
    obtain ⟨rfl, rfl⟩ := e4
    have e5 : st = clock := by
      have : (#[Value.int .i64 0, Value.int .i64 (clock : Int)] : Array Value) = #[.int .i64 (cnt v), .int .i64 (st : Int)] := by injection e2
      simp at this
      omega
    subst e5
    have hidx : (es.push ⟨v, .int .i64 0, st⟩).findIdx? (fun e => ((e.born : Nat) : Int) == ((st : Nat) : Int)) = some es.size := by
      rw [Array.findIdx?_push]
      have : es.findIdx? (fun e => ((e.born : Nat) : Int) == ((st : Nat) : Int)) = none := by
        rw [Array.findIdx?_eq_none_iff]
        intro x hx
        have := h.born x (by simpa using hx)
        simp
        omega
      rw [this]
      simp
    have hmod : (es.push ⟨v, .int .i64 0, st⟩).modify es.size (fun e => { e with val := .int .i64 n }) = es.push ⟨v, .int .i64 n, st⟩ := by
      apply Array.ext
      · simp
      · intro i i1 i2
        simp only [Array.getElem_modify, Array.getElem_push]
        by_cases e : es.size = i
        · subst e; simp
        · have : i < es.size := by simp at i2; omega
          simp [e, this]
    have e6 : (Instr.entryStore t (.map (some b)) (.int .i64 st) (.int .i64 n)).run Try.prog (ChangeMaps.setBlock w b (.map (es.push ⟨v, .int .i64 0, st⟩) (st + 1))) = .ok () (ChangeMaps.setBlock w b (.map (es.push ⟨v, .int .i64 n, st⟩) (st + 1))) := by
      have hss : ∀ o o', ChangeMaps.setBlock (ChangeMaps.setBlock w b o) b o' = ChangeMaps.setBlock w b o' := fun o o' => by simp [ChangeMaps.setBlock]
      rw [← hss (.map (es.push ⟨v, .int .i64 0, st⟩) (st + 1)) (.map (es.push ⟨v, .int .i64 n, st⟩) (st + 1))]
      simp only [Instr.entryStore, Sem.run_bind, MapKept.run_getObj_map (hs0 (.map (es.push ⟨v, .int .i64 0, st⟩) (st + 1))), Result.andThen]
      simp [asInt, asIntOf, hidx, hmod]
      exact MapKept.run_setObj_map _ (hs0 _)
    rw [e6] at hst
    injection hst with _ e7
    have e8 : some (Obj.map (es.push ⟨v, .int .i64 n, st⟩) (st + 1)) = some (Obj.map es2 (st + 1)) := by rw [← hs0, ← hs0, e7]
    simp only [Option.some.injEq, Obj.map.injEq, and_true] at e8
    subst e8
    refine ⟨ks', _, _, ?_, hadd, hnew⟩
    simp [Instr.mapUpdate, run_underlying ht, MapKept.run_getObj_map h.blk, K.check w false hv, h1, MapKept.run_setObj_map _ h.blk, Result.andThen, ChangeMaps.setBlock]
  · have hs0 : ∀ o, (ChangeMaps.setBlock w b o).heap[b]? = some o := fun o => ChangeMaps.heap_setBlock_same h.blk o
    have hj : es[j]? = some x := by simpa using h2
    have hjl : j < es.size := by
      rcases Nat.lt_or_ge j es.size with h' | h'
      · exact h'
      · rw [Array.getElem?_eq_none h'] at hj; cases hj
    have hgj : es[j] = x := by simpa [hjl] using hj
    have hsame : es.modify j (fun e => { e with key := v }) = es := by
      apply Array.ext
      · simp
      · intro i i1 i2
        rw [Array.getElem_modify]
        by_cases e : j = i
        · subst e
          simp only [if_true]
          rw [hgj, ← h3]
        · rw [if_neg e]
    have hvx := h.vals x (List.mem_of_getElem? h2)
    rw [h3] at hvx
    have e1 : (Instr.mapEntry t (.map (some b)) v).run Try.prog w = .ok (.tuple #[.int .i64 (cnt v), .int .i64 x.born]) (ChangeMaps.setBlock w b (.map es clock)) := by
      simp [Instr.mapEntry, run_underlying ht, MapKept.run_getObj_map h.blk, K.check w false hv, h1, hj, h3, K.stays w hv, hsame, MapKept.run_setObj_map _ h.blk, Result.andThen, ChangeMaps.setBlock, goInt, hvx]
    rw [e1] at hent
    injection hent with e2 e3
    have e4 : some (Obj.map es clock) = some (Obj.map es1 clock1) := by rw [← hs0, ← hs0, e3]
    simp only [Option.some.injEq, Obj.map.injEq] at e4
    obtain ⟨rfl, rfl⟩ := e4
    have e5 : st = x.born := by
      have : (#[Value.int .i64 (cnt v), Value.int .i64 (x.born : Int)] : Array Value) = #[.int .i64 (cnt v), .int .i64 (st : Int)] := by injection e2
      simp at this
      omega
    subst e5
    have hidx : es.findIdx? (fun e => ((e.born : Nat) : Int) == ((x.born : Nat) : Int)) = some j := by
      rw [Array.findIdx?_eq_some_iff_getElem]
      refine ⟨hjl, by simp [hgj], fun i hi => ?_⟩
      have hil : i < es.size := by omega
      have hne : es[i].born ≠ es[j].born := fun e => by
        have := h.apart
        rw [List.nodup_iff_pairwise_ne, List.pairwise_iff_getElem] at this
        exact this i j (by simpa using hil) (by simpa using hjl) hi (by simpa using e)
      rw [hgj] at hne
      simp
      omega
    have e6 : (Instr.entryStore t (.map (some b)) (.int .i64 x.born) (.int .i64 n)).run Try.prog (ChangeMaps.setBlock w b (.map es clock)) = .ok () (ChangeMaps.setBlock w b (.map (es.modify j (fun e => { e with val := .int .i64 n })) clock)) := by
      have hss : ∀ o o', ChangeMaps.setBlock (ChangeMaps.setBlock w b o) b o' = ChangeMaps.setBlock w b o' := fun o o' => by simp [ChangeMaps.setBlock]
      rw [← hss (.map es clock) (.map (es.modify j (fun e => { e with val := .int .i64 n })) clock)]
      simp only [Instr.entryStore, Sem.run_bind, MapKept.run_getObj_map (hs0 (.map es clock)), Result.andThen]
      simp [asInt, asIntOf, hidx]
      exact MapKept.run_setObj_map _ (hs0 _)
    rw [e6] at hst
    injection hst with _ e7
    have e8 : some (Obj.map (es.modify j (fun e => { e with val := .int .i64 n })) clock) = some (Obj.map es2 clock) := by rw [← hs0, ← hs0, e7]
    simp only [Option.some.injEq, Obj.map.injEq, and_true] at e8
    subst e8
    refine ⟨ks', _, _, ?_, hadd, hnew⟩
    have hmm : es.modify j (fun e' => { e' with key := v, val := .int .i64 n }) = es.modify j (fun e => { e with val := .int .i64 n }) := by
      apply Array.ext
      · simp
      · intro i i1 i2
        rw [Array.getElem_modify, Array.getElem_modify]
        by_cases e : j = i
        · subst e
          simp only [if_true]
          rw [hgj, ← h3]
        · rw [if_neg e, if_neg e]
    simp [Instr.mapUpdate, run_underlying ht, MapKept.run_getObj_map h.blk, K.check w false hv, h1, hj, h3, K.stays w hv, MapKept.run_setObj_map _ h.blk, Result.andThen, ChangeMaps.setBlock, hmm]
end

theorem nodeV_inj {i j : Nat} (h : Value.int .i64 (i : Int) = Value.int .i64 (j : Int)) : i = j := by
  injection h with _ h
  omega

/-- As many keys as nodes: each was met. -/
theorem keys_all {ks : List Value} {N : Nat} {p : Nat → Bool} (h : ks.Nodup) (hm : ∀ u, u ∈ ks ↔ ∃ i, i < N ∧ u = .int .i64 (i : Int) ∧ p i = true) : ks.length = ((List.range N).filter p).length := by
  have hp : ks.Perm (((List.range N).filter p).map fun i : Nat => Value.int .i64 (i : Int)) := by
    rw [List.perm_ext_iff_of_nodup h]
    · intro u
      rw [hm]
      simp only [List.mem_map, List.mem_filter, List.mem_range]
      constructor
      · rintro ⟨i, h1, rfl, h2⟩; exact ⟨i, ⟨h1, h2⟩, rfl⟩
      · rintro ⟨i, ⟨h1, h2⟩, rfl⟩; exact ⟨i, h1, rfl, h2⟩
    · have hn : ((List.range N).filter p).Pairwise (fun a b => a ≠ b) := List.Pairwise.filter _ (List.nodup_iff_pairwise_ne.1 List.nodup_range)
      rw [List.nodup_iff_pairwise_ne, List.pairwise_map]
      exact hn.imp (fun hne e => hne (nodeV_inj e))
  have := hp.length_eq
  simpa using this


end Go.Proofs.Ytjhkadffaephmaa

/-
  A schedule as it came, out of its reading.
-/
namespace Go.Proofs.Ytjhkadffaephmaa
set_option maxRecDepth 100000
open Go.RowKit Go.ChangeShapes Go.WideShapes Go.Joins Go.Deep

theorem Try.cells123 : Try.prog.cellsOf 123 = 2 := by kernel_rfl
theorem Try.cells4 : Try.prog.cellsOf 4 = 1 := by kernel_rfl
theorem Try.cells121 : Try.prog.cellsOf 121 = 1 := by kernel_rfl

/-- No turn. -/
def noTurn : TurnM := ⟨none, 0, 0, 0, 0, fun _ => false, ⟨none, 0, 0, 0, fun _ => none, fun _ => 0, fun _ => 0, fun _ => 0, ⟨0, fun _ => 0, fun _ _ => 0⟩⟩⟩

section
variable {H : Type} {enc : TypeId × Value → H} {W : World}

theorem open_bools {n : Nat} {v : Value} {y : DataW H × List MemPlace} (h : DataW.trod enc Try.prog W 0 (fun _ => true) true n 121 [v] = some y) :
    ∃ (la : Option Addr) (ln lc lb lo : Nat) (F : Nat → Bool), v = .slice la ln lc ∧ (0 < ln → la = some ⟨lb, lo, none⟩) ∧ (0 < ln → lb < W.heap.size) ∧
      (∀ i, i < ln → W.cell? ⟨lb, lo + i, none⟩ = some (.bool (F i))) ∧ ln ≤ maxLen := by
  rcases DataW.trod_slice Try.underlying121 h with ⟨hcs, _⟩ | ⟨a, len, cap, elems, rest, n2, hn, hcs, hy, _, hl, hm, hel, hat, hsp, _⟩
  · simp at hcs
    exact ⟨none, 0, 0, 0, 0, fun _ => false, hcs, fun h => absurd h (Nat.not_lt_zero _), fun h => absurd h (Nat.not_lt_zero _), fun _ h => absurd h (Nat.not_lt_zero _), Nat.zero_le _⟩
  · simp at hcs
    obtain ⟨gb, go, gs⟩ := a
    rcases Nat.eq_zero_or_pos len with hl0 | hlp
    · subst hl0
      exact ⟨_, 0, cap, 0, 0, fun _ => false, hcs, fun h => absurd h (Nat.not_lt_zero _), fun h => absurd h (Nat.not_lt_zero _), fun _ h => absurd h (Nat.not_lt_zero _), Nat.zero_le _⟩
    · have each : ∀ i, i < len → ∃ cs', W.cells? 0 ((⟨gb, go, gs⟩ : Addr).add i) 1 = some cs' ∧ ∃ b : Bool, cs' = [.bool b] := fun i hi => by
        have := hat i hi
        rw [Try.cells4, List.getElem?_eq_getElem (by omega)] at this
        obtain ⟨cs', h1, h2⟩ := Option.bind_eq_some_iff.1 this
        rw [Nat.mul_one] at h1
        obtain ⟨b, e0, _⟩ := DataW.trod_bool Try.underlying4 h2
        exact ⟨cs', h1, b, e0⟩
      have hgs : gs = none := by
        obtain ⟨cs', h1, b, h2⟩ := each 0 hlp
        have := (World.cells?_some h1).2.2 0 (by omega)
        rw [h2] at this
        simpa [Addr.add] using World.cell?_spot this
      subst hgs
      obtain ⟨P, hP⟩ := choose_lt (α := Bool) (n := len) (p := fun i p => W.cell? ⟨gb, go + i, none⟩ = some (.bool p)) (fun i hi => by
        obtain ⟨cs', h1, b, h2⟩ := each i hi
        obtain ⟨_, _, hc⟩ := World.cells?_some h1
        rw [add_plain] at hc
        have g : W.cell? ⟨gb, go + i + 0, none⟩ = [Value.bool b][0]? := by rw [← add_plain, ← h2]; exact hc 0 (by omega)
        exact ⟨b, g⟩)
      exact ⟨_, len, cap, gb, go, P, hcs, fun _ => rfl, fun _ => World.block_lt_of_cell? _ _ (hP 0 hlp), fun i hi => hP i hi, by omega⟩

theorem open_turn_cells {n : Nat} {cs : List Value} {y : DataW H × List MemPlace} (h : DataW.trod enc Try.prog W 0 (fun _ => true) true n 123 cs = some y) :
    ∃ t : TurnM, cs = [.slice t.ag t.an t.ac, t.ages.val] ∧ t.In W.heap.size W := by
  obtain ⟨xs, n1, rfl, rfl, hlc, hlen, hfs⟩ := DataW.trod_struct Try.underlying123 h
  rw [Try.cells123] at hlc
  match cs, hlc, xs, hlen with
  | [c0, c1], _, [y0, y1], _ =>
    have k0 := hfs 0 _ rfl
    have k1 := hfs 1 _ rfl
    simp [Try.cells121, Try.cells22] at k0 k1
    obtain ⟨la, ln, lc, lb, lo, F, rfl, q1, q2, q3, q4⟩ := open_bools k0
    obtain ⟨B, rfl, hB⟩ := open_mat k1
    exact ⟨⟨la, ln, lc, lb, lo, F, B⟩, rfl, q1, q2, q3, q4, hB⟩

theorem open_sched {b0 : Nat} {v : Value} {d : DataW H} {p : List MemPlace} (hv : Value.okWide Try.prog W .any b0 67 v) (h : DataW.Trod enc Try.prog W 0 (fun _ => true) true 67 v d p) :
    ∃ s : SchedM, v = s.val ∧ s.In W.heap.size W := by
  obtain ⟨a0, l0, c0, rfl⟩ := okWide_slice Try.underlying67 hv
  obtain ⟨fuel, hf⟩ := h
  rcases DataW.trod_slice Try.underlying67 hf with ⟨hcs, _⟩ | ⟨a, len, cap, elems, rest, n2, hn, hcs, hy, _, hl, hm, hel, hat, hsp, _⟩
  · simp [Value.cells] at hcs
    obtain ⟨rfl, rfl, rfl⟩ := hcs
    exact ⟨⟨none, 0, 0, 0, 0, fun _ => noTurn⟩, rfl, fun h => absurd h (Nat.not_lt_zero _), fun h => absurd h (Nat.not_lt_zero _), fun _ h => absurd h (Nat.not_lt_zero _), fun _ h => absurd h (Nat.not_lt_zero _), fun _ h => absurd h (Nat.not_lt_zero _), Nat.zero_le _⟩
  · simp [Value.cells] at hcs
    obtain ⟨rfl, rfl, rfl⟩ := hcs
    obtain ⟨gb, go, gs⟩ := a
    rcases Nat.eq_zero_or_pos l0 with hl0 | hlp
    · subst hl0
      exact ⟨⟨_, 0, c0, 0, 0, fun _ => noTurn⟩, rfl, fun h => absurd h (Nat.not_lt_zero _), fun h => absurd h (Nat.not_lt_zero _), fun _ h => absurd h (Nat.not_lt_zero _), fun _ h => absurd h (Nat.not_lt_zero _), fun _ h => absurd h (Nat.not_lt_zero _), Nat.zero_le _⟩
    · have each : ∀ i, i < l0 → ∃ cs', W.cells? 0 ((⟨gb, go, gs⟩ : Addr).add (i * 2)) 2 = some cs' ∧ ∃ t : TurnM, cs' = [.slice t.ag t.an t.ac, t.ages.val] ∧ t.In W.heap.size W := fun i hi => by
        have := hat i hi
        rw [Try.cells123, List.getElem?_eq_getElem (by omega)] at this
        obtain ⟨cs', h1, h2⟩ := Option.bind_eq_some_iff.1 this
        exact ⟨cs', h1, open_turn_cells h2⟩
      have hgs : gs = none := by
        obtain ⟨cs', h1, t, h2, _⟩ := each 0 hlp
        have := (World.cells?_some h1).2.2 0 (by omega)
        rw [h2] at this
        simpa [Addr.add] using World.cell?_spot this
      subst hgs
      haveI : Inhabited TurnM := ⟨noTurn⟩
      obtain ⟨P, hP⟩ := choose_lt (α := TurnM) (n := l0) (p := fun i t => W.cell? ⟨gb, go + i * 2, none⟩ = some (.slice t.ag t.an t.ac) ∧ W.cell? ⟨gb, go + i * 2 + 1, none⟩ = some t.ages.val ∧ t.In W.heap.size W) (fun i hi => by
        obtain ⟨cs', h1, t, h2, h3⟩ := each i hi
        obtain ⟨_, _, hc⟩ := World.cells?_some h1
        rw [add_plain] at hc
        have g : ∀ j, j < 2 → W.cell? ⟨gb, go + i * 2 + j, none⟩ = [Value.slice t.ag t.an t.ac, t.ages.val][j]? := fun j hj => by rw [← add_plain, ← h2]; exact hc j hj
        exact ⟨t, g 0 (by omega), g 1 (by omega), h3⟩)
      exact ⟨⟨_, l0, c0, gb, go, P⟩, rfl, fun _ => rfl, fun _ => World.block_lt_of_cell? _ _ (hP 0 hlp).1, fun i hi => (hP i hi).1, fun i hi => (hP i hi).2.1, fun i hi => (hP i hi).2.2, by show l0 ≤ _; omega⟩
end

end Go.Proofs.Ytjhkadffaephmaa
