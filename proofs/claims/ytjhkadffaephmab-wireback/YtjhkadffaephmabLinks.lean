/-
  net.checkLinks, net.Check, net.Fit.
-/
import Derived.Test.YtjhkadffaephmabNetM
import Derived.Test.YtjhkadffaephmabCount
namespace Go.Proofs.Ytjhkadffaephmab
set_option maxRecDepth 100000
open Go.RowKit

theorem wf64 {x a : Int} (h0 : 0 ≤ x) (h1 : x < a) (h2 : a ≤ 100) : (Lit.int .i64 x).wf = true := WalkArith.wf_i64 (by omega)

/-- So many links are met, each with its own ends. -/
def Met (n : NetM) (k b : Nat) (w : World) : Prop :=
  ∃ (ks : List Value) (cnt : Value → Int) (es : Array MapEntry) (clock : Nat), CntAt 205 ks cnt b w es clock ∧ (∀ f t : Int, cnt (endsV f t) = if (List.range k).any (fun j => n.F j == f && n.T j == t) = true then 1 else 0)

theorem linkErr_none {n : Net} {k : Nat} (h : (n.F k < 0 ∨ n.nodes ≤ n.F k) ∨ (n.T k < 0 ∨ n.nodes ≤ n.T k) ∨ (n.E k < 0 ∨ (n.a.E.len : Int) ≤ n.E k)) : n.linkErr k = 5 := by
  unfold Net.linkErr; rw [if_pos h]

set_option maxHeartbeats 4000000 in
theorem checkLinks_any (n : NetM) (w : World) (h : n.In w.heap.size w) (h1 : 1 ≤ n.nodes) (h6 : n.nodes ≤ 6) :
    Calls Try.prog 128 #[n.val] w fun e w' => e = .returned (.int .i64 (firstErr n.net.linkErr n.ln)) ∧ Below w.heap.size w w' := by
  have hlen := h.len
  unfold maxLen at hlen
  have hmm := @run_makeMap Try.prog
  simp only [NetM.val, NetM.cells, Mat.val]
  go_enter Try.func128, Try.ntmps128
  go_wp2
  go_loopw [2, 5, 6, 11] (fun _ _ _ i wr => ∃ k : Nat, k ≤ n.ln ∧ i = .int .i64 k ∧ Hid (∀ r, r < k → n.net.linkErr r = 0) ∧ Hid (Met n k (w.heap.size + 1) wr) ∧ Hid (Below (w.heap.size + 1) (w.alloc (.cells #[.int .i64 n.a.size, .slice n.a.B.ga n.a.B.t.len n.a.B.cap, .slice n.a.E.ga n.a.E.t.len n.a.E.cap, .int .i64 n.nodes, .slice n.la n.ln n.lc] 41)) wr)) (fun _ _ _ i _ => n.ln - (intOf i).toNat)
  case atStart => 
    refine ⟨0, Nat.zero_le _, rfl, hide fun r hr => absurd hr (Nat.not_lt_zero _), hide ⟨[], fun _ => 0, #[], 0, ?_, fun f t => by simp⟩, hide ((Below.refl _ _).alloc (by simp) _)⟩
    have := CntAt.made (w.alloc (.cells #[.int .i64 n.a.size, .slice n.a.B.ga n.a.B.t.len n.a.B.cap, .slice n.a.E.ga n.a.E.t.len n.a.E.cap, .int .i64 n.nodes, .slice n.la n.ln n.lc] 41)) 205
    simpa using this
  case round =>
    obtain ⟨k, hk, rfl, Hall, HM, HB⟩ := hrel
    have hB : Below w.heap.size w wr := ((Below.refl _ w).alloc (Nat.le_refl _) _).trans (HB.out.mono (by omega))
    have HB0 := hide hB
    by_cases hlt : k < n.ln
    · have hla := h.la (by omega)
      have c0 := (h.below hB (Nat.le_refl _)).f k hlt
      have c1 := (h.below hB (Nat.le_refl _)).t k hlt
      have c2 := (h.below hB (Nat.le_refl _)).e k hlt
      have bN := (Blk.new w #[.int .i64 n.a.size, .slice n.a.B.ga n.a.B.t.len n.a.B.cap, .slice n.a.E.ga n.a.E.t.len n.a.E.cap, .int .i64 n.nodes, .slice n.la n.ln n.lc] 41).below HB.out (by omega)
      have n2 : ∀ o, (wr.alloc o).cell? ⟨w.heap.size, 2, none⟩ = some (.slice n.a.E.ga n.a.E.t.len n.a.E.cap) := fun o => (bN.alloc o).cell 2
      have n3 : ∀ o, (wr.alloc o).cell? ⟨w.heap.size, 3, none⟩ = some (.int .i64 n.nodes) := fun o => (bN.alloc o).cell 3
      go_wp2_with fail
      go_at_call 94
      refine (sbelow_any _ _ _).mono ?_
      rintro e w' ⟨rfl, rfl⟩
      have hW1 : Below w.heap.size w (wr.alloc (.cells #[.int .i64 (n.F k), .int .i64 (n.T k), .int .i64 (n.E k)] 79)) := hB.alloc hB.size _
      have HW1 := hide hW1
      have Herr : Hid (n.net.linkErr k ≠ 0 → firstErr n.net.linkErr n.ln = n.net.linkErr k) := hide (fun hne => firstErr_at hlt Hall.out hne)
      by_cases hF : 0 ≤ n.F k ∧ n.F k < n.nodes
      rotate_left
      · have hb : (decide (0 ≤ n.F k) && decide (n.F k < n.nodes)) = false := by simp; omega
        have hfin := hide ((Herr.out (by rw [linkErr_none (n := n.net) (k := k) (Or.inl (by show n.F k < 0 ∨ n.nodes ≤ n.F k; omega))]; decide)).trans (linkErr_none (n := n.net) (k := k) (Or.inl (by show n.F k < 0 ∨ n.nodes ≤ n.F k; omega))))
        rw [hb]
        clear hb hF hB hW1
        go_wp2
        go_ret
        exact ⟨by rw [hfin.out]; rfl, HW1.out⟩
      have hb : (decide (0 ≤ n.F k) && decide (n.F k < n.nodes)) = true := by simp [hF]
      rw [hb]
      have HF := hide hF
      clear hb hF hB hW1
      go_wp2_with fail
      go_at_call 94
      refine (sbelow_any _ _ _).mono ?_
      rintro e w' ⟨rfl, rfl⟩
      by_cases hT : 0 ≤ n.T k ∧ n.T k < n.nodes
      rotate_left
      · have hb : (decide (0 ≤ n.T k) && decide (n.T k < n.nodes)) = false := by simp; omega
        have hfin := hide ((Herr.out (by rw [linkErr_none (n := n.net) (k := k) (Or.inr (Or.inl (by show n.T k < 0 ∨ n.nodes ≤ n.T k; omega)))]; decide)).trans (linkErr_none (n := n.net) (k := k) (Or.inr (Or.inl (by show n.T k < 0 ∨ n.nodes ≤ n.T k; omega)))))
        rw [hb]
        clear hb hT
        go_wp2
        go_ret
        exact ⟨by rw [hfin.out]; rfl, HW1.out⟩
      have hb : (decide (0 ≤ n.T k) && decide (n.T k < n.nodes)) = true := by simp [hT]
      rw [hb]
      have HT := hide hT
      clear hb hT
      go_wp2_with fail
      go_at_call 94
      refine (sbelow_any _ _ _).mono ?_
      rintro e w' ⟨rfl, rfl⟩
      by_cases hE : 0 ≤ n.E k ∧ n.E k < n.a.E.t.len
      rotate_left
      · have hb : (decide (0 ≤ n.E k) && decide (n.E k < n.a.E.t.len)) = false := by simp; omega
        have hfin := hide ((Herr.out (by rw [linkErr_none (n := n.net) (k := k) (Or.inr (Or.inr (by show n.E k < 0 ∨ (n.a.E.t.len : Int) ≤ n.E k; omega)))]; decide)).trans (linkErr_none (n := n.net) (k := k) (Or.inr (Or.inr (by show n.E k < 0 ∨ (n.a.E.t.len : Int) ≤ n.E k; omega)))))
        rw [hb]
        clear hb hE
        go_wp2
        go_ret
        exact ⟨by rw [hfin.out]; rfl, HW1.out⟩
      have hb : (decide (0 ≤ n.E k) && decide (n.E k < n.a.E.t.len)) = true := by simp [hE]
      rw [hb]
      have Hno : Hid (¬ ((n.net.F k < 0 ∨ n.net.nodes ≤ n.net.F k) ∨ (n.net.T k < 0 ∨ n.net.nodes ≤ n.net.T k) ∨ (n.net.E k < 0 ∨ (n.net.a.E.len : Int) ≤ n.net.E k))) := hide (by
        have h1 := HF.out
        have h2 := HT.out
        show ¬ ((n.F k < 0 ∨ n.nodes ≤ n.F k) ∨ (n.T k < 0 ∨ n.nodes ≤ n.T k) ∨ (n.E k < 0 ∨ (n.a.E.t.len : Int) ≤ n.E k))
        omega)
      clear hb hE
      by_cases hft : n.F k = n.T k
      · have hle : n.net.linkErr k = 1 := by unfold Net.linkErr; rw [if_neg Hno.out, if_pos (show n.net.F k = n.net.T k from hft)]
        have hfin := hide ((Herr.out (by rw [hle]; decide)).trans hle)
        have hft' : (n.F k == n.T k) = true := by simp [hft]
        clear hft hle
        go_wp2
        go_ret
        exact ⟨by rw [hfin.out]; rfl, HW1.out⟩
      have hft' : (n.F k == n.T k) = false := by simp [hft]
      have Hft := hide hft
      clear hft
      obtain ⟨ks, cnt, es, clock, hC, hcnt⟩ := HM.out
      have wF : (Lit.int .i64 (n.F k)).wf = true := wf64 HF.out.1 HF.out.2 (by omega)
      have wT : (Lit.int .i64 (n.T k)).wf = true := wf64 HT.out.1 HT.out.2 (by omega)
      obtain ⟨l, hl⟩ := ends_key wF wT
      have hC2 := (hC.alloc (.cells #[.int .i64 (n.F k), .int .i64 (n.T k), .int .i64 (n.E k)] 79)).alloc (.cells #[.int .i64 (n.F k), .int .i64 (n.T k)] 205)
      have hlook := hC2.look ends_keyed Try.underlying203 hl
      have hW2 := HW1.out.alloc HW1.out.size (.cells #[.int .i64 (n.F k), .int .i64 (n.T k)] 205)
      have hc := hcnt (n.F k) (n.T k)
      by_cases htw : (List.range k).any (fun j => n.F j == n.F k && n.T j == n.T k) = true
      · rw [if_pos htw] at hc
        rw [hc] at hlook
        have hle : n.net.linkErr k = 6 := by unfold Net.linkErr; rw [if_neg Hno.out, if_neg (show ¬ n.net.F k = n.net.T k from Hft.out), if_pos (show n.net.twice k = true from htw)]
        have hfin := hide ((Herr.out (by rw [hle]; decide)).trans hle)
        have HW2 := hide hW2
        clear hle htw hc hcnt hW2 hC hC2
        unfold endsV at hlook
        go_wp2
        go_ret
        exact ⟨by rw [hfin.out]; rfl, HW2.out⟩
      rw [if_neg htw] at hc
      have hC3 : CntAt 205 ks cnt (w.heap.size + 1) (World.drew ((wr.alloc (.cells #[.int .i64 (n.F k), .int .i64 (n.T k), .int .i64 (n.E k)] 79)).alloc (.cells #[.int .i64 (n.F k), .int .i64 (n.T k)] 205))) es clock := hC2.keep rfl
      have hlook2 := hC3.look ends_keyed Try.underlying203 hl
      obtain ⟨st, ks', es1, clock1, hent, hadd, hC4, hsto⟩ := hC3.entry ends_keyed Try.underlying203 hl
      have hlook3 := hC4.look ends_keyed Try.underlying203 hl
      obtain ⟨es2, hst, hnew⟩ := hsto 1
      have hle : n.net.linkErr k = 0 := by unfold Net.linkErr; rw [if_neg Hno.out, if_neg (show ¬ n.net.F k = n.net.T k from Hft.out), if_neg (show ¬ n.net.twice k = true from htw)]
      rw [hc] at hlook hlook2 hlook3 hent
      have HMn : Hid (Met n (k + 1) (w.heap.size + 1) (ChangeMaps.setBlock (World.drew ((wr.alloc (.cells #[.int .i64 (n.F k), .int .i64 (n.T k), .int .i64 (n.E k)] 79)).alloc (.cells #[.int .i64 (n.F k), .int .i64 (n.T k)] 205))) (w.heap.size + 1) (.map es2 clock1))) := hide (by
        classical
        refine ⟨ks', fun v => if v = endsV (n.F k) (n.T k) then 1 else cnt v, es2, clock1, hnew _ (fun u hu => by simp [hu]) (by simp), fun f t => ?_⟩
        show (if endsV f t = endsV (n.F k) (n.T k) then 1 else cnt (endsV f t)) = _
        rw [hcnt f t]
        by_cases e : endsV f t = endsV (n.F k) (n.T k)
        · obtain ⟨rfl, rfl⟩ := endsV_inj e
          simp [List.range_succ]
        · rw [if_neg e]
          have hne : (n.F k == f && n.T k == t) = false := by
            rw [Bool.eq_false_iff]
            intro hx
            simp at hx
            exact e (by rw [hx.1, hx.2])
          rw [List.range_succ, List.any_append]
          simp [hne])
      have HBn : Hid (Below (w.heap.size + 1) (w.alloc (.cells #[.int .i64 n.a.size, .slice n.a.B.ga n.a.B.t.len n.a.B.cap, .slice n.a.E.ga n.a.E.t.len n.a.E.cap, .int .i64 n.nodes, .slice n.la n.ln n.lc] 41)) (ChangeMaps.setBlock (World.drew ((wr.alloc (.cells #[.int .i64 (n.F k), .int .i64 (n.T k), .int .i64 (n.E k)] 79)).alloc (.cells #[.int .i64 (n.F k), .int .i64 (n.T k)] 205))) (w.heap.size + 1) (.map es2 clock1))) := hide ((below_drewN ((HB.out.alloc (by have := HB.out.size; simp at this; omega) _).alloc (by have := HB.out.size; simp at this ⊢; omega) _) 1).grown (hC3.grown _) (by have := HB.out.size; simp at this ⊢; omega) (fun j hj => by cases hj; exact Nat.le_refl _))
      have HAn : Hid (∀ r, r < k + 1 → n.net.linkErr r = 0) := hide (fun r hr => by
        by_cases e : r = k
        · subst e; exact hle
        · exact Hall.out r (by omega))
      clear hle htw hc hcnt hW2 hC hC2 hC3 hC4 hsto hnew hadd
      unfold endsV at *
      go_wp2_with fail
      go_region
      go_wp2
      go_roundw
      case rel =>
        first
        | exact ⟨k + 1, by omega, by go_num, HAn, HMn, HBn⟩
        | (rw [← hla]; (repeat apply Exists.intro); refine ⟨?_, rfl⟩; exact ⟨k + 1, by omega, by go_num, HAn, HMn, HBn⟩)
      case measure => simp [intOf]; omega
    · have hkl : k = n.ln := by omega
      have hfin := hide (firstErr_zero.2 (fun r (hr : r < n.ln) => Hall.out r (by omega)))
      clear hB
      go_wp2
      go_ret
      exact ⟨by rw [hfin.out]; rfl, HB0.out⟩

set_option maxHeartbeats 1000000 in
theorem netCheck_any (n : NetM) (w : World) (h : n.In w.heap.size w) :
    Calls Try.prog 70 #[n.val] w fun e w' => e = .returned (.int .i64 n.net.check) ∧ Below w.heap.size w w' := by
  have hB0 : Below w.heap.size w (w.alloc (.cells n.cells 41)) := (Below.refl _ w).alloc (Nat.le_refl _) _
  have b0 := Blk.new w n.cells 41
  have HL := hide (laws_any n.a _ ((h.a.below hB0 (Nat.le_refl _)).mono hB0.size))
  have Hdef : Hid (n.net.check = if n.a.alg.check ≠ 0 then n.a.alg.check else if (n.a.alg.tell [1, 2, 3, 4, 5, 6, 7]).law ≠ 0 then 4
    else if n.nodes < 1 ∨ 6 < n.nodes then 3 else firstErr n.net.linkErr n.ln) := hide rfl
  generalize n.a.alg.tell [1, 2, 3, 4, 5, 6, 7] = fb at *
  generalize n.a.alg.check = ck at *
  simp only [NetM.val, NetM.cells, AlgM.val, Mat.val] at *
  go_enter Try.func70, Try.ntmps70
  go_wp2_with fail
  go_at_call 75
  refine HL.out.mono ?_
  rintro e w1 ⟨rfl, hb1⟩
  have hB1 := hB0.trans (hb1.mono hB0.size)
  have b1 := b0.below hb1 b0.lt
  obtain ⟨fl, fa, fb', fc, fe⟩ := fb
  simp only [Brk.val]
  have hB2 := hB1.alloc hB1.size (.cells #[.int .i64 fl, .int .i64 fa, .int .i64 fb', .int .i64 fc, .int .i64 fe] 59)
  have b2 := b1.alloc (.cells #[.int .i64 fl, .int .i64 fa, .int .i64 fb', .int .i64 fc, .int .i64 fe] 59)
  by_cases hc : ck = 0
  · subst hc
    by_cases hn : fl = 0
    · subst hn
      have x0 := b2.cell 0
      have x1 := b2.cell 1
      have x2 := b2.cell 2
      have x3 := b2.cell 3
      have x4 := b2.cell 4
      simp at x0 x1 x2 x3 x4
      by_cases hlo : n.nodes < 1
      · have hfin : Hid (n.net.check = 3) := hide (by rw [Hdef.out]; simp [hlo])
        clear Hdef
        go_wp2
        go_ret
        exact ⟨by rw [hfin.out]; rfl, hB2⟩
      by_cases hhi : 6 < n.nodes
      · have hfin : Hid (n.net.check = 3) := hide (by rw [Hdef.out]; simp [hhi])
        clear Hdef
        go_wp2
        go_ret
        exact ⟨by rw [hfin.out]; rfl, hB2⟩
      have hfin : Hid (n.net.check = firstErr n.net.linkErr n.ln) := hide (by rw [Hdef.out]; simp [hlo, hhi])
      have HC := hide (checkLinks_any n _ (h.grown hB2) (by omega) (by omega))
      have HB2 := hide hB2
      simp only [NetM.val, NetM.cells, Mat.val] at HC
      clear Hdef hB2
      go_wp2_with fail
      go_at_call 128
      refine HC.out.mono ?_
      rintro e w3 ⟨rfl, hb3⟩
      go_wp2
      go_ret
      exact ⟨by rw [hfin.out]; rfl, HB2.out.trans (hb3.mono HB2.out.size)⟩
    · have hfin : Hid (n.net.check = 4) := hide (by rw [Hdef.out]; simp [hn])
      have hn' : (fl != 0) = true := by simp [hn]
      clear Hdef hn
      go_wp2
      go_ret
      exact ⟨by rw [hfin.out]; rfl, hB2⟩
  · have hfin : Hid (n.net.check = ck) := hide (by rw [Hdef.out]; simp [hc])
    have hc' : (ck != 0) = true := by simp [hc]
    clear Hdef hc
    go_wp2
    go_ret
    exact ⟨by rw [hfin.out]; rfl, hB2⟩

theorem routes_rows (t : Tab) (s : Int) : ((List.range t.len).any fun r => !rowIn (t.L r) (t.Z r) s) = !t.routes s := by
  cases hr : t.routes s with
  | true =>
    have h := (t.routes_iff s).1 hr
    rw [Bool.not_true, List.any_eq_false]
    intro r hr'
    rw [rowIn_iff.2 (fun c hc => h r (List.mem_range.1 hr') c hc)]; decide
  | false =>
    rw [Bool.not_false, List.any_eq_true]
    apply Classical.byContradiction
    intro hn
    have : t.routes s = true := (t.routes_iff s).2 fun r h1 c h2 => by
      have : rowIn (t.L r) (t.Z r) s = true := by
        cases e : rowIn (t.L r) (t.Z r) s with
        | true => rfl
        | false => exact absurd ⟨r, List.mem_range.2 h1, by rw [e]; rfl⟩ hn
      exact rowIn_iff.1 this c h2
    rw [this] at hr; cases hr

theorem calls_fit1 (args : Array Value) (W : World) : (callFunc 152 args).run Try.prog W = .ok (.enter 152 args) W := by rfl

set_option maxHeartbeats 1000000 in
theorem fit1_any (a : Option Addr) (l q b o bx : Nat) (f : Nat → Int) (s : Int) (w : World) (h : Ints a l b o f w) (hb : 0 < l → b < w.heap.size) (hx : w.cell? ⟨bx, 0, none⟩ = some (.int .i64 s)) :
    Calls Try.prog 152 #[.slice a l q, .pointer (some ⟨bx, 0, none⟩)] w fun e w' => e = .returned (.bool (!rowIn l f s)) ∧ Below w.heap.size w w' := by
  have HS := hide (sallBelow_any a l q b o f s w h hb)
  generalize rowIn l f s = v at HS ⊢
  clear h hb
  go_enter Try.func152, Try.ntmps152
  go_wp2_with fail
  go_at_call 133
  refine HS.out.mono ?_
  rintro e w1 ⟨rfl, hb1⟩
  have HB := hide hb1
  clear hb1
  go_wp2
  go_ret
  exact ⟨rfl, HB.out⟩

set_option maxHeartbeats 1000000 in
theorem netFit_any (n : NetM) (x : Mat) (w : World) (h : n.In w.heap.size w) (hx : x.In w.heap.size w) :
    Calls Try.prog 85 #[n.val, x.val] w fun e w' => e = .returned (.int .i64 (n.net.fit x.t)) ∧ Below w.heap.size w w' := by
  have hB0 : Below w.heap.size w (w.alloc (.cells n.cells 41)) := (Below.refl _ w).alloc (Nat.le_refl _) _
  have b0 := Blk.new w n.cells 41
  have HC := hide (netCheck_any n _ (h.grown hB0))
  have Hdef : Hid (n.net.fit x.t = if n.net.check = 0 then (if (x.t.len : Int) ≠ n.nodes ∨ x.t.wide n.nodes = false then 1 else if x.t.routes n.a.size = false then 5 else 0) else n.net.check) := hide rfl
  generalize n.net.check = ck at *
  have HS := hide (fun W (hb : Below w.heap.size w W) => square_any x n.nodes W (hx.grown hb))
  have HA := hide (fun W (hb : Below w.heap.size w W) (b1 : Blk W w.heap.size n.cells 41) => containsFunc_rows 152 #[.pointer (some ⟨w.heap.size, 0, none⟩)] x (fun r => !rowIn (x.t.L r) (x.t.Z r) n.a.size) W ((hx.below hb (Nat.le_refl _)).mono hb.size) calls_fit1 (fun i W' hi hB => by
    have hI := hx.below (hb.trans (hB.mono hb.size)) (Nat.le_refl _)
    exact fit1_any (x.A i) (x.t.L i) (x.C i) (x.RB i) (x.RO i) w.heap.size (x.t.Z i) n.a.size W' (hI.ints hi) (fun h0 => by have := (hI.addr i hi h0).2; have := hb.size; have := hB.size; omega) ((b1.below hB b1.lt).cell 0)))
  have HRR := hide (routes_rows x.t n.a.size)
  simp only [NetM.val, NetM.cells, Mat.val] at *
  go_enter Try.func85, Try.ntmps85
  go_wp2_with fail
  go_at_call 70
  refine HC.out.mono ?_
  rintro e w1 ⟨rfl, hb1⟩
  have hB1 := hB0.trans (hb1.mono hB0.size)
  have b1 := b0.below hb1 b0.lt
  have x0 := b1.cell 0
  have x3 := b1.cell 3
  simp at x0 x3
  by_cases hc : ck = 0
  · subst hc
    have HS1 := hide (HS.out w1 hB1)
    clear HS HC
    go_wp2_with fail
    go_at_call 118
    refine HS1.out.mono ?_
    rintro e w2 ⟨rfl, hb2⟩
    have hB2 := hB1.trans (hb2.mono hB1.size)
    have b2 := b1.below hb2 b1.lt
    have x0 := b2.cell 0
    have x3 := b2.cell 3
    simp at x0 x3
    have HA1 := hide (HA.out w2 hB2 b2)
    have hB1 := hB2
    clear HA
    cases hs : ((x.t.len : Int) == n.nodes) && x.t.wide n.nodes with
    | false =>
      have hfin : Hid (n.net.fit x.t = 1) := hide (by
        rw [Hdef.out, if_pos (by first | rfl | trivial), if_pos]
        rcases Bool.and_eq_false_iff.1 hs with e | e
        · exact Or.inl (by simpa using e)
        · exact Or.inr e)
      clear Hdef hs
      go_wp2
      go_ret
      exact ⟨by rw [hfin.out]; rfl, hB1⟩
    | true =>
      have hs' : ¬ ((x.t.len : Int) ≠ n.nodes ∨ x.t.wide n.nodes = false) := by
        rw [Bool.and_eq_true, beq_iff_eq] at hs
        simp [hs.1, hs.2]
      have Hd2 : Hid (n.net.fit x.t = if x.t.routes n.a.size = false then 5 else 0) := hide (by rw [Hdef.out, if_pos (by first | rfl | trivial), if_neg hs'])
      clear Hdef hs hs'
      go_wp2_with fail
      go_at_call 120
      refine HA1.out.mono ?_
      rintro e w3 ⟨rfl, hb3⟩
      rw [HRR.out]
      have HB3 := hide (hB1.trans (hb3.mono hB1.size))
      clear hb3 HA1 HRR
      by_cases hr : x.t.routes n.a.size = true
      · have hfin : Hid (n.net.fit x.t = 0) := hide (by rw [Hd2.out, hr]; rfl)
        rw [hr]
        clear Hd2 hr
        go_wp2
        go_ret
        exact ⟨by rw [hfin.out]; rfl, HB3.out⟩
      · have hr' : x.t.routes n.a.size = false := by simpa using hr
        have hfin : Hid (n.net.fit x.t = 5) := hide (by rw [Hd2.out, hr']; rfl)
        rw [hr']
        clear Hd2 hr hr'
        go_wp2
        go_ret
        exact ⟨by rw [hfin.out]; rfl, HB3.out⟩
  · have hfin : Hid (n.net.fit x.t = ck) := hide (by rw [Hdef.out, if_neg hc])
    have hc' : (ck != 0) = true := by simp [hc]
    clear Hdef hc HS HA HC
    go_wp2
    go_ret
    exact ⟨by rw [hfin.out]; rfl, hB1⟩

end Go.Proofs.Ytjhkadffaephmab
