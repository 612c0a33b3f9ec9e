/-
  Our own texts, bundled: a claim holds few files.
-/
import Derived.Test.YtjhkadffaephmabBundleBE
import Derived.Test.YtjhkadffaephmabBundleAH
import Derived.Test.YtjhkadffaephmabBundleAJ
/-
  net.checkLinks, net.Check, net.Fit.
-/
namespace Go.Proofs.Ytjhkadffaephmab
set_option maxRecDepth 100000
open Go.RowKit

theorem wf64 {x a : Int} (h0 : 0 ≤ x) (h1 : x < a) (h2 : a ≤ 100) : (Lit.int .i64 x).wf = true := WalkArith.wf_i64 (by omega)

/-- So many links are met, each with its own ends. -/
def Met (n : NetM) (k b : Nat) (w : World) : Prop :=
  ∃ (ks : List Value) (cnt : Value → Int) (es : Array MapEntry) (clock : Nat), CntAt 205 ks cnt b w es clock ∧ (∀ f t : Int, cnt (endsV f t) = if (List.range k).any (fun j => n.F j == f && n.T j == t) = true then 1 else 0)

theorem linkErr_none {n : Net} {k : Nat} (h : (n.F k < 0 ∨ n.nodes ≤ n.F k) ∨ (n.T k < 0 ∨ n.nodes ≤ n.T k) ∨ (n.E k < 0 ∨ (n.a.E.len : Int) ≤ n.E k)) : n.linkErr k = 5 := by
  unfold Net.linkErr; rw [if_pos h]

set_option maxHeartbeats 4000000 in
theorem checkLinks_any (n : NetM) (w : World) (h : n.In w.heap.size w) (h1 : 1 ≤ n.nodes) (h6 : n.nodes ≤ 6) :
    Calls Try.prog 128 #[n.val] w fun e w' => e = .returned (.int .i64 (firstErr n.net.linkErr n.ln)) ∧ Below w.heap.size w w' := by
  have hlen := h.len
  unfold maxLen at hlen
  have hmm := @run_makeMap Try.prog
  simp only [NetM.val, NetM.cells, Mat.val]
  go_enter Try.func128, Try.ntmps128
  go_wp2
  go_loopw [2, 5, 6, 11] (fun _ _ _ i wr => ∃ k : Nat, k ≤ n.ln ∧ i = .int .i64 k ∧ Hid (∀ r, r < k → n.net.linkErr r = 0) ∧ Hid (Met n k (w.heap.size + 1) wr) ∧ Hid (Below (w.heap.size + 1) (w.alloc (.cells #[.int .i64 n.a.size, .slice n.a.B.ga n.a.B.t.len n.a.B.cap, .slice n.a.E.ga n.a.E.t.len n.a.E.cap, .int .i64 n.nodes, .slice n.la n.ln n.lc] 41)) wr)) (fun _ _ _ i _ => n.ln - (intOf i).toNat)
  case atStart => 
    refine ⟨0, Nat.zero_le _, rfl, hide fun r hr => absurd hr (Nat.not_lt_zero _), hide ⟨[], fun _ => 0, #[], 0, ?_, fun f t => by simp⟩, hide ((Below.refl _ _).alloc (by simp) _)⟩
    have := CntAt.made (w.alloc (.cells #[.int .i64 n.a.size, .slice n.a.B.ga n.a.B.t.len n.a.B.cap, .slice n.a.E.ga n.a.E.t.len n.a.E.cap, .int .i64 n.nodes, .slice n.la n.ln n.lc] 41)) 205
    simpa using this
  case round =>
    obtain ⟨k, hk, rfl, Hall, HM, HB⟩ := hrel
    have hB : Below w.heap.size w wr := ((Below.refl _ w).alloc (Nat.le_refl _) _).trans (HB.out.mono (by omega))
    have HB0 := hide hB
    by_cases hlt : k < n.ln
    · have hla := h.la (by omega)
      have c0 := (h.below hB (Nat.le_refl _)).f k hlt
      have c1 := (h.below hB (Nat.le_refl _)).t k hlt
      have c2 := (h.below hB (Nat.le_refl _)).e k hlt
      have bN := (Blk.new w #[.int .i64 n.a.size, .slice n.a.B.ga n.a.B.t.len n.a.B.cap, .slice n.a.E.ga n.a.E.t.len n.a.E.cap, .int .i64 n.nodes, .slice n.la n.ln n.lc] 41).below HB.out (by omega)
      have n2 : ∀ o, (wr.alloc o).cell? ⟨w.heap.size, 2, none⟩ = some (.slice n.a.E.ga n.a.E.t.len n.a.E.cap) := fun o => (bN.alloc o).cell 2
      have n3 : ∀ o, (wr.alloc o).cell? ⟨w.heap.size, 3, none⟩ = some (.int .i64 n.nodes) := fun o => (bN.alloc o).cell 3
      go_wp2_with fail
      go_at_call 94
      refine (sbelow_any _ _ _).mono ?_
      rintro e w' ⟨rfl, rfl⟩
      have hW1 : Below w.heap.size w (wr.alloc (.cells #[.int .i64 (n.F k), .int .i64 (n.T k), .int .i64 (n.E k)] 79)) := hB.alloc hB.size _
      have HW1 := hide hW1
      have Herr : Hid (n.net.linkErr k ≠ 0 → firstErr n.net.linkErr n.ln = n.net.linkErr k) := hide (fun hne => firstErr_at hlt Hall.out hne)
      by_cases hF : 0 ≤ n.F k ∧ n.F k < n.nodes
      rotate_left
      · have hb : (decide (0 ≤ n.F k) && decide (n.F k < n.nodes)) = false := by simp; omega
        have hfin := hide ((Herr.out (by rw [linkErr_none (n := n.net) (k := k) (Or.inl (by show n.F k < 0 ∨ n.nodes ≤ n.F k; omega))]; decide)).trans (linkErr_none (n := n.net) (k := k) (Or.inl (by show n.F k < 0 ∨ n.nodes ≤ n.F k; omega))))
        rw [hb]
        clear hb hF hB hW1
        go_wp2
        go_ret
        exact ⟨by rw [hfin.out]; rfl, HW1.out⟩
      have hb : (decide (0 ≤ n.F k) && decide (n.F k < n.nodes)) = true := by simp [hF]
      rw [hb]
      have HF := hide hF
      clear hb hF hB hW1
      go_wp2_with fail
      go_at_call 94
      refine (sbelow_any _ _ _).mono ?_
      rintro e w' ⟨rfl, rfl⟩
      by_cases hT : 0 ≤ n.T k ∧ n.T k < n.nodes
      rotate_left
      · have hb : (decide (0 ≤ n.T k) && decide (n.T k < n.nodes)) = false := by simp; omega
        have hfin := hide ((Herr.out (by rw [linkErr_none (n := n.net) (k := k) (Or.inr (Or.inl (by show n.T k < 0 ∨ n.nodes ≤ n.T k; omega)))]; decide)).trans (linkErr_none (n := n.net) (k := k) (Or.inr (Or.inl (by show n.T k < 0 ∨ n.nodes ≤ n.T k; omega)))))
        rw [hb]
        clear hb hT
        go_wp2
        go_ret
        exact ⟨by rw [hfin.out]; rfl, HW1.out⟩
      have hb : (decide (0 ≤ n.T k) && decide (n.T k < n.nodes)) = true := by simp [hT]
      rw [hb]
      have HT := hide hT
      clear hb hT
      go_wp2_with fail
      go_at_call 94
      refine (sbelow_any _ _ _).mono ?_
      rintro e w' ⟨rfl, rfl⟩
      by_cases hE : 0 ≤ n.E k ∧ n.E k < n.a.E.t.len
      rotate_left
      · have hb : (decide (0 ≤ n.E k) && decide (n.E k < n.a.E.t.len)) = false := by simp; omega
        have hfin := hide ((Herr.out (by rw [linkErr_none (n := n.net) (k := k) (Or.inr (Or.inr (by show n.E k < 0 ∨ (n.a.E.t.len : Int) ≤ n.E k; omega)))]; decide)).trans (linkErr_none (n := n.net) (k := k) (Or.inr (Or.inr (by show n.E k < 0 ∨ (n.a.E.t.len : Int) ≤ n.E k; omega)))))
        rw [hb]
        clear hb hE
        go_wp2
        go_ret
        exact ⟨by rw [hfin.out]; rfl, HW1.out⟩
      have hb : (decide (0 ≤ n.E k) && decide (n.E k < n.a.E.t.len)) = true := by simp [hE]
      rw [hb]
      have Hno : Hid (¬ ((n.net.F k < 0 ∨ n.net.nodes ≤ n.net.F k) ∨ (n.net.T k < 0 ∨ n.net.nodes ≤ n.net.T k) ∨ (n.net.E k < 0 ∨ (n.net.a.E.len : Int) ≤ n.net.E k))) := hide (by
        have h1 := HF.out
        have h2 := HT.out
        show ¬ ((n.F k < 0 ∨ n.nodes ≤ n.F k) ∨ (n.T k < 0 ∨ n.nodes ≤ n.T k) ∨ (n.E k < 0 ∨ (n.a.E.t.len : Int) ≤ n.E k))
        omega)
      clear hb hE
      by_cases hft : n.F k = n.T k
      · have hle : n.net.linkErr k = 1 := by unfold Net.linkErr; rw [if_neg Hno.out, if_pos (show n.net.F k = n.net.T k from hft)]
        have hfin := hide ((Herr.out (by rw [hle]; decide)).trans hle)
        have hft' : (n.F k == n.T k) = true := by simp [hft]
        clear hft hle
        go_wp2
        go_ret
        exact ⟨by rw [hfin.out]; rfl, HW1.out⟩
      have hft' : (n.F k == n.T k) = false := by simp [hft]
      have Hft := hide hft
      clear hft
      obtain ⟨ks, cnt, es, clock, hC, hcnt⟩ := HM.out
      have wF : (Lit.int .i64 (n.F k)).wf = true := wf64 HF.out.1 HF.out.2 (by omega)
      have wT : (Lit.int .i64 (n.T k)).wf = true := wf64 HT.out.1 HT.out.2 (by omega)
      obtain ⟨l, hl⟩ := ends_key wF wT
      have hC2 := (hC.alloc (.cells #[.int .i64 (n.F k), .int .i64 (n.T k), .int .i64 (n.E k)] 79)).alloc (.cells #[.int .i64 (n.F k), .int .i64 (n.T k)] 205)
      have hlook := hC2.look ends_keyed Try.underlying203 hl
      have hW2 := HW1.out.alloc HW1.out.size (.cells #[.int .i64 (n.F k), .int .i64 (n.T k)] 205)
      have hc := hcnt (n.F k) (n.T k)
      by_cases htw : (List.range k).any (fun j => n.F j == n.F k && n.T j == n.T k) = true
      · rw [if_pos htw] at hc
        rw [hc] at hlook
        have hle : n.net.linkErr k = 6 := by unfold Net.linkErr; rw [if_neg Hno.out, if_neg (show ¬ n.net.F k = n.net.T k from Hft.out), if_pos (show n.net.twice k = true from htw)]
        have hfin := hide ((Herr.out (by rw [hle]; decide)).trans hle)
        have HW2 := hide hW2
        clear hle htw hc hcnt hW2 hC hC2
        unfold endsV at hlook
        go_wp2
        go_ret
        exact ⟨by rw [hfin.out]; rfl, HW2.out⟩
      rw [if_neg htw] at hc
      have hC3 : CntAt 205 ks cnt (w.heap.size + 1) (World.drew ((wr.alloc (.cells #[.int .i64 (n.F k), .int .i64 (n.T k), .int .i64 (n.E k)] 79)).alloc (.cells #[.int .i64 (n.F k), .int .i64 (n.T k)] 205))) es clock := hC2.keep rfl
      have hlook2 := hC3.look ends_keyed Try.underlying203 hl
      obtain ⟨st, ks', es1, clock1, hent, hadd, hC4, hsto⟩ := hC3.entry ends_keyed Try.underlying203 hl
      have hlook3 := hC4.look ends_keyed Try.underlying203 hl
      obtain ⟨es2, hst, hnew⟩ := hsto 1
      have hle : n.net.linkErr k = 0 := by unfold Net.linkErr; rw [if_neg Hno.out, if_neg (show ¬ n.net.F k = n.net.T k from Hft.out), if_neg (show ¬ n.net.twice k = true from htw)]
      rw [hc] at hlook hlook2 hlook3 hent
      have HMn : Hid (Met n (k + 1) (w.heap.size + 1) (ChangeMaps.setBlock (World.drew ((wr.alloc (.cells #[.int .i64 (n.F k), .int .i64 (n.T k), .int .i64 (n.E k)] 79)).alloc (.cells #[.int .i64 (n.F k), .int .i64 (n.T k)] 205))) (w.heap.size + 1) (.map es2 clock1))) := hide (by
        classical
        refine ⟨ks', fun v => if v = endsV (n.F k) (n.T k) then 1 else cnt v, es2, clock1, hnew _ (fun u hu => by simp [hu]) (by simp), fun f t => ?_⟩
        show (if endsV f t = endsV (n.F k) (n.T k) then 1 else cnt (endsV f t)) = _
        rw [hcnt f t]
        by_cases e : endsV f t = endsV (n.F k) (n.T k)
        · obtain ⟨rfl, rfl⟩ := endsV_inj e
          simp [List.range_succ]
        · rw [if_neg e]
          have hne : (n.F k == f && n.T k == t) = false := by
            rw [Bool.eq_false_iff]
            intro hx
            simp at hx
            exact e (by rw [hx.1, hx.2])
          rw [List.range_succ, List.any_append]
          simp [hne])
      have HBn : Hid (Below (w.heap.size + 1) (w.alloc (.cells #[.int .i64 n.a.size, .slice n.a.B.ga n.a.B.t.len n.a.B.cap, .slice n.a.E.ga n.a.E.t.len n.a.E.cap, .int .i64 n.nodes, .slice n.la n.ln n.lc] 41)) (ChangeMaps.setBlock (World.drew ((wr.alloc (.cells #[.int .i64 (n.F k), .int .i64 (n.T k), .int .i64 (n.E k)] 79)).alloc (.cells #[.int .i64 (n.F k), .int .i64 (n.T k)] 205))) (w.heap.size + 1) (.map es2 clock1))) := hide ((below_drewN ((HB.out.alloc (by have := HB.out.size; simp at this; omega) _).alloc (by have := HB.out.size; simp at this ⊢; omega) _) 1).grown (hC3.grown _) (by have := HB.out.size; simp at this ⊢; omega) (fun j hj => by cases hj; exact Nat.le_refl _))
      have HAn : Hid (∀ r, r < k + 1 → n.net.linkErr r = 0) := hide (fun r hr => by
        by_cases e : r = k
        · subst e; exact hle
        · exact Hall.out r (by omega))
      clear hle htw hc hcnt hW2 hC hC2 hC3 hC4 hsto hnew hadd
      unfold endsV at *
      go_wp2_with fail
      go_region
      go_wp2
      go_roundw
      case rel =>
        first
        | exact ⟨k + 1, by omega, by go_num, HAn, HMn, HBn⟩
        | (rw [← hla]; (repeat apply Exists.intro); refine ⟨?_, rfl⟩; exact ⟨k + 1, by omega, by go_num, HAn, HMn, HBn⟩)
      case measure => simp [intOf]; omega
    · have hkl : k = n.ln := by omega
      have hfin := hide (firstErr_zero.2 (fun r (hr : r < n.ln) => Hall.out r (by omega)))
      clear hB
      go_wp2
      go_ret
      exact ⟨by rw [hfin.out]; rfl, HB0.out⟩

set_option maxHeartbeats 1000000 in
theorem netCheck_any (n : NetM) (w : World) (h : n.In w.heap.size w) :
    Calls Try.prog 70 #[n.val] w fun e w' => e = .returned (.int .i64 n.net.check) ∧ Below w.heap.size w w' := by
  have hB0 : Below w.heap.size w (w.alloc (.cells n.cells 41)) := (Below.refl _ w).alloc (Nat.le_refl _) _
  have b0 := Blk.new w n.cells 41
  have HL := hide (laws_any n.a _ ((h.a.below hB0 (Nat.le_refl _)).mono hB0.size))
  have Hdef : Hid (n.net.check = if n.a.alg.check ≠ 0 then n.a.alg.check else if (n.a.alg.tell [1, 2, 3, 4, 5, 6, 7]).law ≠ 0 then 4
    else if n.nodes < 1 ∨ 6 < n.nodes then 3 else firstErr n.net.linkErr n.ln) := hide rfl
  generalize n.a.alg.tell [1, 2, 3, 4, 5, 6, 7] = fb at *
  generalize n.a.alg.check = ck at *
  simp only [NetM.val, NetM.cells, AlgM.val, Mat.val] at *
  go_enter Try.func70, Try.ntmps70
  go_wp2_with fail
  go_at_call 75
  refine HL.out.mono ?_
  rintro e w1 ⟨rfl, hb1⟩
  have hB1 := hB0.trans (hb1.mono hB0.size)
  have b1 := b0.below hb1 b0.lt
  obtain ⟨fl, fa, fb', fc, fe⟩ := fb
  simp only [Brk.val]
  have hB2 := hB1.alloc hB1.size (.cells #[.int .i64 fl, .int .i64 fa, .int .i64 fb', .int .i64 fc, .int .i64 fe] 59)
  have b2 := b1.alloc (.cells #[.int .i64 fl, .int .i64 fa, .int .i64 fb', .int .i64 fc, .int .i64 fe] 59)
  by_cases hc : ck = 0
  · subst hc
    by_cases hn : fl = 0
    · subst hn
      have x0 := b2.cell 0
      have x1 := b2.cell 1
      have x2 := b2.cell 2
      have x3 := b2.cell 3
      have x4 := b2.cell 4
      simp at x0 x1 x2 x3 x4
      by_cases hlo : n.nodes < 1
      · have hfin : Hid (n.net.check = 3) := hide (by rw [Hdef.out]; simp [hlo])
        clear Hdef
        go_wp2
        go_ret
        exact ⟨by rw [hfin.out]; rfl, hB2⟩
      by_cases hhi : 6 < n.nodes
      · have hfin : Hid (n.net.check = 3) := hide (by rw [Hdef.out]; simp [hhi])
        clear Hdef
        go_wp2
        go_ret
        exact ⟨by rw [hfin.out]; rfl, hB2⟩
      have hfin : Hid (n.net.check = firstErr n.net.linkErr n.ln) := hide (by rw [Hdef.out]; simp [hlo, hhi])
      have HC := hide (checkLinks_any n _ (h.grown hB2) (by omega) (by omega))
      have HB2 := hide hB2
      simp only [NetM.val, NetM.cells, Mat.val] at HC
      clear Hdef hB2
      go_wp2_with fail
      go_at_call 128
      refine HC.out.mono ?_
      rintro e w3 ⟨rfl, hb3⟩
      go_wp2
      go_ret
      exact ⟨by rw [hfin.out]; rfl, HB2.out.trans (hb3.mono HB2.out.size)⟩
    · have hfin : Hid (n.net.check = 4) := hide (by rw [Hdef.out]; simp [hn])
      have hn' : (fl != 0) = true := by simp [hn]
      clear Hdef hn
      go_wp2
      go_ret
      exact ⟨by rw [hfin.out]; rfl, hB2⟩
  · have hfin : Hid (n.net.check = ck) := hide (by rw [Hdef.out]; simp [hc])
    have hc' : (ck != 0) = true := by simp [hc]
    clear Hdef hc
    go_wp2
    go_ret
    exact ⟨by rw [hfin.out]; rfl, hB2⟩

theorem routes_rows (t : Tab) (s : Int) : ((List.range t.len).any fun r => !rowIn (t.L r) (t.Z r) s) = !t.routes s := by
  cases hr : t.routes s with
  | true =>
    have h := (t.routes_iff s).1 hr
    rw [Bool.not_true, List.any_eq_false]
    intro r hr'
    rw [rowIn_iff.2 (fun c hc => h r (List.mem_range.1 hr') c hc)]; decide
  | false =>
    rw [Bool.not_false, List.any_eq_true]
    apply Classical.byContradiction
    intro hn
    have : t.routes s = true := (t.routes_iff s).2 fun r h1 c h2 => by
      have : rowIn (t.L r) (t.Z r) s = true := by
        cases e : rowIn (t.L r) (t.Z r) s with
        | true => rfl
        | false => exact absurd ⟨r, List.mem_range.2 h1, by rw [e]; rfl⟩ hn
      exact rowIn_iff.1 this c h2
    rw [this] at hr; cases hr

theorem calls_fit1 (args : Array Value) (W : World) : (callFunc 152 args).run Try.prog W = .ok (.enter 152 args) W := by rfl

set_option maxHeartbeats 1000000 in
theorem fit1_any (a : Option Addr) (l q b o bx : Nat) (f : Nat → Int) (s : Int) (w : World) (h : Ints a l b o f w) (hb : 0 < l → b < w.heap.size) (hx : w.cell? ⟨bx, 0, none⟩ = some (.int .i64 s)) :
    Calls Try.prog 152 #[.slice a l q, .pointer (some ⟨bx, 0, none⟩)] w fun e w' => e = .returned (.bool (!rowIn l f s)) ∧ Below w.heap.size w w' := by
  have HS := hide (sallBelow_any a l q b o f s w h hb)
  generalize rowIn l f s = v at HS ⊢
  clear h hb
  go_enter Try.func152, Try.ntmps152
  go_wp2_with fail
  go_at_call 133
  refine HS.out.mono ?_
  rintro e w1 ⟨rfl, hb1⟩
  have HB := hide hb1
  clear hb1
  go_wp2
  go_ret
  exact ⟨rfl, HB.out⟩

set_option maxHeartbeats 1000000 in
theorem netFit_any (n : NetM) (x : Mat) (w : World) (h : n.In w.heap.size w) (hx : x.In w.heap.size w) :
    Calls Try.prog 85 #[n.val, x.val] w fun e w' => e = .returned (.int .i64 (n.net.fit x.t)) ∧ Below w.heap.size w w' := by
  have hB0 : Below w.heap.size w (w.alloc (.cells n.cells 41)) := (Below.refl _ w).alloc (Nat.le_refl _) _
  have b0 := Blk.new w n.cells 41
  have HC := hide (netCheck_any n _ (h.grown hB0))
  have Hdef : Hid (n.net.fit x.t = if n.net.check = 0 then (if (x.t.len : Int) ≠ n.nodes ∨ x.t.wide n.nodes = false then 1 else if x.t.routes n.a.size = false then 5 else 0) else n.net.check) := hide rfl
  generalize n.net.check = ck at *
  have HS := hide (fun W (hb : Below w.heap.size w W) => square_any x n.nodes W (hx.grown hb))
  have HA := hide (fun W (hb : Below w.heap.size w W) (b1 : Blk W w.heap.size n.cells 41) => containsFunc_rows 152 #[.pointer (some ⟨w.heap.size, 0, none⟩)] x (fun r => !rowIn (x.t.L r) (x.t.Z r) n.a.size) W ((hx.below hb (Nat.le_refl _)).mono hb.size) calls_fit1 (fun i W' hi hB => by
    have hI := hx.below (hb.trans (hB.mono hb.size)) (Nat.le_refl _)
    exact fit1_any (x.A i) (x.t.L i) (x.C i) (x.RB i) (x.RO i) w.heap.size (x.t.Z i) n.a.size W' (hI.ints hi) (fun h0 => by have := (hI.addr i hi h0).2; have := hb.size; have := hB.size; omega) ((b1.below hB b1.lt).cell 0)))
  have HRR := hide (routes_rows x.t n.a.size)
  simp only [NetM.val, NetM.cells, Mat.val] at *
  go_enter Try.func85, Try.ntmps85
  go_wp2_with fail
  go_at_call 70
  refine HC.out.mono ?_
  rintro e w1 ⟨rfl, hb1⟩
  have hB1 := hB0.trans (hb1.mono hB0.size)
  have b1 := b0.below hb1 b0.lt
  have x0 := b1.cell 0
  have x3 := b1.cell 3
  simp at x0 x3
  by_cases hc : ck = 0
  · subst hc
    have HS1 := hide (HS.out w1 hB1)
    clear HS HC
    go_wp2_with fail
    go_at_call 118
    refine HS1.out.mono ?_
    rintro e w2 ⟨rfl, hb2⟩
    have hB2 := hB1.trans (hb2.mono hB1.size)
    have b2 := b1.below hb2 b1.lt
    have x0 := b2.cell 0
    have x3 := b2.cell 3
    simp at x0 x3
    have HA1 := hide (HA.out w2 hB2 b2)
    have hB1 := hB2
    clear HA
    cases hs : ((x.t.len : Int) == n.nodes) && x.t.wide n.nodes with
    | false =>
      have hfin : Hid (n.net.fit x.t = 1) := hide (by
        rw [Hdef.out, if_pos (by first | rfl | trivial), if_pos]
        rcases Bool.and_eq_false_iff.1 hs with e | e
        · exact Or.inl (by simpa using e)
        · exact Or.inr e)
      clear Hdef hs
      go_wp2
      go_ret
      exact ⟨by rw [hfin.out]; rfl, hB1⟩
    | true =>
      have hs' : ¬ ((x.t.len : Int) ≠ n.nodes ∨ x.t.wide n.nodes = false) := by
        rw [Bool.and_eq_true, beq_iff_eq] at hs
        simp [hs.1, hs.2]
      have Hd2 : Hid (n.net.fit x.t = if x.t.routes n.a.size = false then 5 else 0) := hide (by rw [Hdef.out, if_pos (by first | rfl | trivial), if_neg hs'])
      clear Hdef hs hs'
      go_wp2_with fail
      go_at_call 120
      refine HA1.out.mono ?_
      rintro e w3 ⟨rfl, hb3⟩
      rw [HRR.out]
      have HB3 := hide (hB1.trans (hb3.mono hB1.size))
      clear hb3 HA1 HRR
      by_cases hr : x.t.routes n.a.size = true
      · have hfin : Hid (n.net.fit x.t = 0) := hide (by rw [Hd2.out, hr]; rfl)
        rw [hr]
        clear Hd2 hr
        go_wp2
        go_ret
        exact ⟨by rw [hfin.out]; rfl, HB3.out⟩
      · have hr' : x.t.routes n.a.size = false := by simpa using hr
        have hfin : Hid (n.net.fit x.t = 5) := hide (by rw [Hd2.out, hr']; rfl)
        rw [hr']
        clear Hd2 hr hr'
        go_wp2
        go_ret
        exact ⟨by rw [hfin.out]; rfl, HB3.out⟩
  · have hfin : Hid (n.net.fit x.t = ck) := hide (by rw [Hdef.out, if_neg hc])
    have hc' : (ck != 0) = true := by simp [hc]
    clear Hdef hc HS HA HC
    go_wp2
    go_ret
    exact ⟨by rw [hfin.out]; rfl, hB1⟩

end Go.Proofs.Ytjhkadffaephmab

/-
  state.route, state.Look, net.round, net.Round, net.Begin.
-/
namespace Go.Proofs.Ytjhkadffaephmab
set_option maxRecDepth 100000
open Go.RowKit

/-- What stands in a table. -/
theorem Mat.In.at {m : Mat} {n : Nat} {w : World} (h : m.In n w) {r c : Nat} (hr : r < m.t.len) (hc : c < m.t.L r) :
    m.ga = some ⟨m.gb, m.go, none⟩ ∧ w.cell? ⟨m.gb, m.go + r, none⟩ = some (.slice (some ⟨m.RB r, m.RO r, none⟩) (m.t.L r) (m.C r)) ∧ w.cell? ⟨m.RB r, m.RO r + c, none⟩ = some (.int .i64 (m.t.Z r c)) := by
  refine ⟨h.ga (by omega), ?_, h.cell r hr c hc⟩
  rw [← (h.addr r hr (by omega)).1]
  exact h.row r hr

set_option maxHeartbeats 4000000 in
theorem route_any (fid : Nat) (cap : Array Value) (n : NetM) (i j : Nat) (has : Nat → Int) (w : World) (h : n.In w.heap.size w) (hck : n.net.check = 0) (hr : n.net.Routes has)
    (hcf : ∀ (args : Array Value) (W : World), (callFunc fid args).run Try.prog W = .ok (.enter fid args) W)
    (hat : ∀ (v : Nat) (W : World), v < n.net.N → Below w.heap.size w W → Calls Try.prog fid (#[.int .i64 v, .int .i64 j] ++ cap) W fun e w' => e = .returned (.int .i64 (has v)) ∧ ∃ m, w' = W.drewN m) :
    Calls Try.prog 192 #[n.val, .int .i64 i, .int .i64 j, .func (.func fid) #[] cap] w fun e w' => e = .returned (.int .i64 (n.net.route i j has)) ∧ Below w.heap.size w w' := by
  have hlen := h.len
  unfold maxLen at hlen
  have g := Net.good_of_check hck
  have lo := g.law.good.lo
  have hi24 := g.law.good.hi
  have hB0 : Below w.heap.size w (w.alloc (.cells n.cells 41)) := (Below.refl _ w).alloc (Nat.le_refl _) _
  have HO := hide (own_any n i j (w.alloc (.cells n.cells 41)) lo hi24)
  have HA := hide hat
  have HL := hide (n.net.look_spec g hr i j)
  have Hbeg : Hid (n.net.begin i j = n.net.look i j has 0) := hide rfl
  have HEnd := hide (n.net.look_route hck hr i j)
  have G := hide g
  have H := hide h
  have HR := hide hr
  clear hat h g hr hck
  simp only [NetM.val, NetM.cells, Mat.val] at *
  go_enter Try.func192, Try.ntmps192
  go_wp2_with fail
  go_at_call 84
  refine HO.out.mono ?_
  rintro e w1 ⟨rfl, hb1⟩
  have hB1 := hB0.trans (hb1.mono hB0.size)
  have b1 := (Blk.new w n.cells 41).below hb1 (by simp)
  have hs1 : w.heap.size + 1 ≤ w1.heap.size := by have := hb1.size; simpa using this
  have x4 := b1.cell 4
  simp [NetM.cells] at x4
  clear HO hb1 hB0
  go_wp2_with fail
  go_loopw [9, 11, 12, 20] (fun b _ _ q wr => ∃ k : Nat, k ≤ n.ln ∧ q = .int .i64 k ∧ b = .int .i64 (n.net.look i j has k) ∧ Hid (Below w1.heap.size w1 wr)) (fun _ _ _ q _ => n.ln - (intOf q).toNat)
  case atStart => exact ⟨0, Nat.zero_le _, rfl, by rw [Hbeg.out], hide (Below.refl _ _)⟩
  case round =>
    obtain ⟨k, hk, rfl, rfl, HB⟩ := hrel
    have hBw : Below w.heap.size w wr := hB1.trans (HB.out.mono (by omega))
    by_cases hlt : k < n.ln
    · have hI := H.out.below hBw (Nat.le_refl _)
      have hla := H.out.la (by omega)
      have gl := G.out.link k hlt
      obtain ⟨kf, hkf⟩ : ∃ kf : Nat, n.F k = kf := ⟨(n.F k).toNat, by have := gl.1; have e : n.net.F k = n.F k := rfl; omega⟩
      obtain ⟨kt, hkt⟩ : ∃ kt : Nat, n.T k = kt := ⟨(n.T k).toNat, by have := gl.2.2.1; have e : n.net.T k = n.T k := rfl; omega⟩
      obtain ⟨ke, hke⟩ : ∃ ke : Nat, n.E k = ke := ⟨(n.E k).toNat, by have := gl.2.2.2.2.1; have e : n.net.E k = n.E k := rfl; omega⟩
      have c0 := hI.f k hlt
      have c1 := hI.t k hlt
      have c2 := hI.e k hlt
      rw [hkf] at c0
      rw [hkt] at c1
      rw [hke] at c2
      have bN := b1.below HB.out b1.lt
      have hBa : ∀ o, Below w1.heap.size w1 (wr.alloc o) := fun o => HB.out.alloc HB.out.size o
      have hBwa : ∀ o, Below w.heap.size w (wr.alloc o) := fun o => hBw.alloc hBw.size o
      have HBa := hide (hBa (.cells #[.int .i64 kf, .int .i64 kt, .int .i64 ke] 79))
      have HBwa := hide (hBwa (.cells #[.int .i64 kf, .int .i64 kt, .int .i64 ke] 79))
      clear hBa hBwa hBw
      by_cases hfi : kf = i
      · have hfi' : ((kf : Int) == (i : Int)) = true := by simp [hfi]
        have n1 : ∀ o q, ((wr.alloc o).drewN q).cell? ⟨w.heap.size, 1, none⟩ = some (.slice n.a.B.ga n.a.B.t.len n.a.B.cap) := fun o q => (bN.alloc o).cell 1
        have n2 : ∀ o q, ((wr.alloc o).drewN q).cell? ⟨w.heap.size, 2, none⟩ = some (.slice n.a.E.ga n.a.E.t.len n.a.E.cap) := fun o q => (bN.alloc o).cell 2
        have ht : kt < n.net.N := by have := gl.2.2.2.1; have e : n.net.T k = n.T k := rfl; have e2 : n.net.N = n.net.nodes.toNat := rfl; omega
        obtain ⟨hv, hhv⟩ : ∃ hv : Nat, has kt = hv := ⟨(has kt).toNat, by have := (HR.out kt ht).1; omega⟩
        have hke8 : ke < n.a.E.t.len := by have := gl.2.2.2.2.2; have e : n.net.E k = n.E k := rfl; have e2 : n.net.a.E.len = n.a.E.t.len := rfl; omega
        have hEL : hv < n.a.E.t.L ke := by
          have e1 := G.out.law.good.ew ke hke8
          have e2 := (HR.out kt ht).2
          have e3 : n.net.a.E.L ke = n.a.E.t.L ke := rfl
          omega
        have hEz := G.out.law.good.ez ke hke8 hv hEL
        obtain ⟨mv, hmv⟩ : ∃ mv : Nat, n.a.E.t.Z ke hv = mv := ⟨(n.a.E.t.Z ke hv).toNat, by have := hEz.1; have e3 : n.net.a.E.Z ke hv = n.a.E.t.Z ke hv := rfl; omega⟩
        have hL := (HL.out k hk).1
        obtain ⟨bv, hbv⟩ : ∃ bv : Nat, n.net.look i j has k = bv := ⟨(n.net.look i j has k).toNat, by omega⟩
        have hsz : n.net.a.size = n.a.size := rfl
        have hBl : bv < n.a.B.t.len := by
          have e1 := G.out.law.good.bl
          have e3 : n.net.a.B.len = n.a.B.t.len := rfl
          omega
        have hBL : mv < n.a.B.t.L bv := by
          have e1 := G.out.law.good.bw bv hBl
          have e3 : n.net.a.B.L bv = n.a.B.t.L bv := rfl
          have e4 : n.net.a.E.Z ke hv = n.a.E.t.Z ke hv := rfl
          omega
        have hnext : n.net.look i j has (k + 1) = n.a.B.t.Z bv mv := by
          have hF : n.net.F k = (i : Int) := by show n.F k = _; rw [hkf, hfi]
          rw [Net.look, if_pos hF, hbv]
          show n.a.B.t.get bv (n.a.E.t.get (n.E k) (has (n.T k).toNat)) = _
          rw [hke, hkt, Int.toNat_natCast, hhv]
          simp only [Tab.get, Int.toNat_natCast, hmv]
        have hIa := hI.below (Below.refl w.heap.size wr |>.alloc (by have := HB.out.size; omega) (.cells #[.int .i64 kf, .int .i64 kt, .int .i64 ke] 79)) (Nat.le_refl _)
        obtain ⟨a1, a2, a3⟩ := hIa.a.E.at hke8 hEL
        obtain ⟨d1, d2, d3⟩ := hIa.a.B.at hBl hBL
        rw [hmv] at a3
        have HC := hide (fun q => HA.out kt (World.drewN (wr.alloc (.cells #[.int .i64 kf, .int .i64 kt, .int .i64 ke] 79)) q) ht (below_drewN HBwa.out q))
        rw [hhv] at HC
        have hei : (ke : Int) < (n.a.E.t.len : Int) := by omega
        have hvi : (hv : Int) < (n.a.E.t.L ke : Int) := by omega
        have hbi : (bv : Int) < (n.a.B.t.len : Int) := by omega
        have hmi : (mv : Int) < (n.a.B.t.L bv : Int) := by omega
        rw [hbv]
        have Hn := hide hnext
        clear hnext hhv hmv hL hEz hbv hkf hke hkt gl hI hIa hfi
        go_wp2_with fail
        go_quiet ((refine Calls.quiet_of (HC.out _)))
        go_wp2
        go_roundw
        case rel =>
          first
          | exact ⟨k + 1, by omega, by go_num, by rw [Hn.out], hide (below_drewN HBa.out _)⟩
          | ((try rw [← hla]); (try rw [← a1]); (try rw [← d1]); (repeat apply Exists.intro); refine ⟨?_, rfl⟩; exact ⟨k + 1, by omega, by go_num, by rw [Hn.out], hide (below_drewN HBa.out _)⟩)
        case measure => simp [intOf]; omega
      · have hfi' : ((kf : Int) == (i : Int)) = false := by simp; omega
        have hnext : n.net.look i j has (k + 1) = n.net.look i j has k := by
          rw [Net.look, if_neg]
          show ¬ n.F k = _
          omega
        have Hn := hide hnext
        clear hnext hfi
        go_wp2
        go_roundw
        case rel =>
          first
          | exact ⟨k + 1, by omega, by go_num, by rw [Hn.out], HBa⟩
          | (rw [← hla]; (repeat apply Exists.intro); refine ⟨?_, rfl⟩; exact ⟨k + 1, by omega, by go_num, by rw [Hn.out], HBa⟩)
        case measure => simp [intOf]; omega
    · have hkn : k = n.ln := by omega
      subst hkn
      have HBw := hide hBw
      have hE := HEnd.out
      clear hBw
      go_wp2
      go_ret
      exact ⟨by rw [← hE]; rfl, HBw.out⟩

end Go.Proofs.Ytjhkadffaephmab

/-
  Tables of which row by row is made, each in a block of its own that another call made.
-/
namespace Go.Proofs.Ytjhkadffaephmab
set_option maxRecDepth 100000
open Go.RowKit

/-- The cells of a table of which i rows are made. -/
def outG (g c : Nat → Nat) (p n i : Nat) : Array Value := ((List.range n).map fun r => if r < i then Value.slice (some ⟨g r, 0, none⟩) p (c r) else .slice none 0 0).toArray
theorem outG_get {g c : Nat → Nat} {p n i r : Nat} (h : r < n) : (outG g c p n i)[r]? = some (if r < i then Value.slice (some ⟨g r, 0, none⟩) p (c r) else .slice none 0 0) := by
  simp [outG, h]
/-- f, but v at i. -/
def updN (f : Nat → Nat) (i v : Nat) : Nat → Nat := fun r => if r = i then v else f r
theorem updN_same (f : Nat → Nat) (i v : Nat) : updN f i v i = v := by simp [updN]
theorem updN_other (f : Nat → Nat) {i r : Nat} (v : Nat) (h : r ≠ i) : updN f i v r = f r := by simp [updN, h]
theorem outG_set {g c : Nat → Nat} {p n i a b : Nat} : (outG g c p n i).setIfInBounds i (.slice (some ⟨a, 0, none⟩) p b) = outG (updN g i a) (updN c i b) p n (i + 1) := by
  apply Array.ext
  · simp [outG]
  · intro j h1 h2
    have hn : j < n := by simpa [outG] using h2
    by_cases e : i = j
    · subst e
      simp [outG, updN]
    · rw [Array.getElem_setIfInBounds_ne (by simpa [outG] using hn) e]
      simp only [outG, List.getElem_toArray, List.getElem_map, List.getElem_range, updN_other _ _ (Ne.symm e)]
      by_cases h : j < i
      · rw [if_pos h, if_pos (by omega)]
      · rw [if_neg h, if_neg (by omega)]
theorem outG_zero (g c : Nat → Nat) (p n : Nat) : madeCells #[.slice none 0 0] n = outG g c p n 0 := by
  apply Array.ext'
  rw [toList_madeCells_one]
  simp [outG, List.map_const']

/-- i rows are made. -/
structure MadeI (lo ob : Nat) (g c : Nat → Nat) (p n : Nat) (Z : Nat → Nat → Int) (i : Nat) (W : World) : Prop where
  out : Blk W ob (outG g c p n i) 22
  base : lo ≤ ob
  rows : ∀ r, r < i → lo ≤ g r ∧ g r < W.heap.size ∧ g r ≠ ob ∧ ∀ j, j < p → W.cell? ⟨g r, j, none⟩ = some (.int .i64 (Z r j))

theorem MadeI.start (w : World) (lo p n : Nat) (Z : Nat → Nat → Int) (h : lo ≤ w.heap.size) : MadeI lo w.heap.size (fun _ => 0) (fun _ => 0) p n Z 0 (w.alloc (.cells (madeCells #[.slice none 0 0] n) 22)) where
  out := by rw [outG_zero (fun _ => 0) (fun _ => 0) p n]; exact Blk.new w _ _
  base := h
  rows := fun r hr => absurd hr (Nat.not_lt_zero _)

theorem MadeI.below {lo ob : Nat} {g c : Nat → Nat} {p n i : Nat} {Z : Nat → Nat → Int} {W W' : World} (h : MadeI lo ob g c p n Z i W) (hb : Below W.heap.size W W') : MadeI lo ob g c p n Z i W' where
  out := h.out.below hb h.out.lt
  base := h.base
  rows := fun r hr => by
    obtain ⟨h1, h2, h3, h4⟩ := h.rows r hr
    exact ⟨h1, Nat.lt_of_lt_of_le h2 hb.size, h3, fun j hj => by rw [hb.cell (p := ⟨g r, j, none⟩) h2]; exact h4 j hj⟩

theorem MadeI.put {lo ob : Nat} {g c : Nat → Nat} {p n i : Nat} {Z : Nat → Nat → Int} {W : World} (h : MadeI lo ob g c p n Z i W) {a b : Nat} (ha : lo ≤ a) (hl : a < W.heap.size) (hne : a ≠ ob) (hz : ∀ j, j < p → W.cell? ⟨a, j, none⟩ = some (.int .i64 (Z i j))) :
    MadeI lo ob (updN g i a) (updN c i b) p n Z (i + 1) (W.setCell ⟨ob, i, none⟩ (.slice (some ⟨a, 0, none⟩) p b)) where
  out := by have := h.out.set i (.slice (some ⟨a, 0, none⟩) p b); rw [outG_set] at this; exact this
  base := h.base
  rows := fun r hr => by
    by_cases e : r = i
    · subst e
      rw [updN_same]
      exact ⟨ha, by simpa using hl, hne, fun j hj => by rw [cell_other hne]; exact hz j hj⟩
    · rw [updN_other g a e]
      obtain ⟨h1, h2, h3, h4⟩ := h.rows r (by omega)
      exact ⟨h1, by simpa using h2, h3, fun j hj => by rw [cell_other h3]; exact h4 j hj⟩

/-- A state of n rows of n each, made anew from lo on. -/
def Fresh (n lo : Nat) (Z : Nat → Nat → Int) (m : Mat) (W : World) : Prop := m.t = ⟨n, fun _ => n, Z⟩ ∧ m.In W.heap.size W ∧ m.From lo

theorem MadeI.mat {lo ob : Nat} {g c : Nat → Nat} {p n : Nat} {Z : Nat → Nat → Int} {W : World} (h : MadeI lo ob g c p n Z n W) (hn : n ≤ 100) (hp : p ≤ 100) :
    ∃ m : Mat, Value.slice (some ⟨ob, 0, none⟩) n n = m.val ∧ m.t = ⟨n, fun _ => p, Z⟩ ∧ m.In W.heap.size W ∧ m.From lo := by
  refine ⟨⟨some ⟨ob, 0, none⟩, ob, 0, n, fun r => some ⟨g r, 0, none⟩, c, g, fun _ => 0, ⟨n, fun _ => p, Z⟩⟩, rfl, rfl, ⟨fun _ => rfl, fun _ => h.out.lt, ?_, ?_, ?_, ?_, ?_⟩, ⟨fun _ => h.base, ?_⟩⟩
  · intro r hr
    have hr' : r < n := hr
    show W.cell? ⟨ob, 0 + r, none⟩ = _
    rw [h.out.cell (0 + r), Nat.zero_add, outG_get hr', if_pos hr']
  · exact fun r hr _ => ⟨rfl, (h.rows r hr).2.1⟩
  · intro r hr j hj
    have hj' : j < p := hj
    show W.cell? ⟨g r, 0 + j, none⟩ = _
    rw [Nat.zero_add]
    exact (h.rows r hr).2.2.2 j hj'
  · show n ≤ maxLen; unfold maxLen; omega
  · intro r _; show p ≤ maxLen; unfold maxLen; omega
  · exact fun r hr _ => (h.rows r hr).1

set_option maxHeartbeats 4000000 in
theorem look_any (fid : Nat) (cap : Array Value) (n : NetM) (i : Nat) (has : Nat → Nat → Int) (w : World) (h : n.In w.heap.size w) (hck : n.net.check = 0) (hr : ∀ j, j < n.net.N → n.net.Routes (has j))
    (hcf : ∀ (args : Array Value) (W : World), (callFunc fid args).run Try.prog W = .ok (.enter fid args) W)
    (hat : ∀ (v j : Nat) (W : World), v < n.net.N → j < n.net.N → Below w.heap.size w W → Calls Try.prog fid (#[.int .i64 v, .int .i64 j] ++ cap) W fun e w' => e = .returned (.int .i64 (has j v)) ∧ ∃ m, w' = W.drewN m) :
    Calls Try.prog 154 #[n.val, .int .i64 i, .func (.func fid) #[] cap] w fun e w' => e = .returned (.slice (some ⟨w.heap.size + 1, 0, none⟩) n.net.N n.net.N) ∧ Below w.heap.size w w' ∧ w.heap.size + 1 < w'.heap.size ∧ ∀ j, j < n.net.N → w'.cell? ⟨w.heap.size + 1, j, none⟩ = some (.int .i64 (n.net.route i j (has j))) := by
  have g := Net.good_of_check hck
  have lo := g.lo
  have hi6 := g.hi
  obtain ⟨N, hN⟩ : ∃ N : Nat, n.nodes = N := ⟨n.nodes.toNat, by have : n.net.nodes = n.nodes := rfl; omega⟩
  have hNN : n.net.N = N := by show n.nodes.toNat = N; omega
  have hN6 : N ≤ 6 := by have : n.net.nodes = n.nodes := rfl; omega
  rw [hNN] at hr hat ⊢
  obtain ⟨i1, hi1, hy0, hy1, hy2⟩ := info_parts Try.infoInt
  have hmkB : ∀ u : World, (Instr.makeSlice 22 (.int .i64 (N : Int)) (.int .i64 (N : Int))).run Try.prog u = .ok (.slice (some ⟨u.heap.size, 0, none⟩) N N) (u.alloc (.cells (madeCells #[.int .i64 0] N) 3)) := fun u => by
    have h := run_make (P := Try.prog) u 22 3 i1 (.int .i64 0) Try.underlying22 hi1 hy0 .i64 .i64 (N : Int) (N : Int) (by omega) (Int.le_refl _) (by rw [hy2]; omega) (by omega)
    simpa [hy1, Value.cells] using h
  have hB0 : Below w.heap.size w (w.alloc (.cells n.cells 41)) := (Below.refl _ w).alloc (Nat.le_refl _) _
  have b0 := Blk.new w n.cells 41
  have HA := hide hat
  have H := hide h
  have HR := hide hr
  have HK := hide hck
  have HCF := hide hcf
  clear hat h g hr hck lo hi6 hcf
  have hcells : n.cells = #[.int .i64 n.a.size, .slice n.a.B.ga n.a.B.t.len n.a.B.cap, .slice n.a.E.ga n.a.E.t.len n.a.E.cap, .int .i64 N, .slice n.la n.ln n.lc] := by simp only [NetM.cells, Mat.val, hN]
  simp only [NetM.val, hcells]
  have Hcells := hide hcells
  clear hN hcells hB0 b0
  go_enter Try.func154, Try.ntmps154
  go_wp2_with fail
  go_loopw [8, 14] (fun _ q wr => ∃ k : Nat, k ≤ N ∧ q = .int .i64 k ∧ Hid (Below (w.heap.size + 1) (w.alloc (.cells n.cells 41)) wr) ∧ Hid (Blk wr (w.heap.size + 1) (rowArr (fun j => n.net.route i j (has j)) N k) 3)) (fun _ q _ => N - (intOf q).toNat)
  case atStart => 
    refine ⟨0, Nat.zero_le _, rfl, hide ?_, hide ?_⟩
    · rw [Hcells.out]
      exact (Below.refl _ _).alloc (by simp) _
    · rw [rowArr_zero (fun j => n.net.route i j (has j)) N]
      exact Blk.new' (by simp)
  case round =>
    obtain ⟨k, hk, rfl, HB, HJ⟩ := hrel
    have hBw : Below w.heap.size w wr := ((Below.refl _ w).alloc (Nat.le_refl _) _).trans (HB.out.mono (by omega))
    by_cases hlt : k < N
    · have bN := (Blk.new w n.cells 41).below HB.out (by omega)
      have x0 := bN.cell 0
      have x1 := bN.cell 1
      have x2 := bN.cell 2
      have x3 := bN.cell 3
      have x4 := bN.cell 4
      simp [Hcells.out] at x0 x1 x2 x3 x4
      have HC := hide (route_any fid cap n i k (has k) wr (H.out.grown hBw) HK.out (by intro v hv; exact HR.out k hlt v hv) HCF.out (fun v W hv hb => HA.out v k W (by rw [hNN] at hv; exact hv) hlt (hBw.trans (hb.mono hBw.size))))
      simp only [NetM.val, Hcells.out] at HC
      go_wp2_with fail
      go_at_call 192
      refine HC.out.mono ?_
      rintro e w2 ⟨rfl, hb2⟩
      have hJ2 := HJ.out.below hb2 HJ.out.lt
      have r1 := hJ2.cell k
      rw [rowArr_get hlt, if_neg (Nat.lt_irrefl _)] at r1
      have rf := hJ2.frozen k
      have hki : (k : Int) < (N : Int) := by omega
      have hJ3 := hJ2.set k (.int .i64 (n.net.route i k (has k)))
      rw [rowArr_set (Z := fun j => n.net.route i j (has j))] at hJ3
      have HJ3 := hide hJ3
      have HB3 := hide ((HB.out.trans (hb2.mono (by have := HB.out.size; simp at this; omega))).setCell (p := ⟨w.heap.size + 1, k, none⟩) (Nat.le_refl _) (.int .i64 (n.net.route i k (has k))))
      clear hJ2 hJ3 HJ HB hb2 x0 x1 x2 x3 x4 bN
      go_wp2
      go_roundw
      case rel =>
        first
        | exact ⟨k + 1, by omega, by go_num, HB3, HJ3⟩
        | ((repeat apply Exists.intro); refine ⟨?_, rfl⟩; exact ⟨k + 1, by omega, by go_num, HB3, HJ3⟩)
      case measure => simp [intOf]; omega
    · have hkn : k = N := by omega
      subst hkn
      have HBw := hide hBw
      clear hBw
      go_wp2
      go_ret
      refine ⟨rfl, HBw.out, HJ.out.lt, fun j hj => ?_⟩
      rw [HJ.out.cell j, rowArr_get hj, if_pos hj]

end Go.Proofs.Ytjhkadffaephmab

/-
  net.round, net.Round, net.Begin.
-/
namespace Go.Proofs.Ytjhkadffaephmab
set_option maxRecDepth 100000
open Go.RowKit

/-- It is a state of the net. -/
structure Net.Is (n : Net) (t : Tab) : Prop where
  len : t.len = n.N
  wide : ∀ r, r < n.N → t.L r = n.N
  state : n.State t.Z

theorem Net.is_of_rows {n : Net} {t : Tab} (g : n.Good) (h : n.rows t = 0) : n.Is t := by
  have lo := g.lo
  unfold Net.rows at h
  split at h
  · cases h
  · next h1 =>
    split at h
    · cases h
    · next h2 =>
      have hl : (t.len : Int) = n.nodes := Classical.byContradiction fun e => h1 (Or.inl e)
      have hw : t.wide n.nodes = true := by
        cases e : t.wide n.nodes with
        | true => rfl
        | false => exact absurd (Or.inr e) h1
      have hr : t.routes n.a.size = true := by simpa using h2
      have hlen : t.len = n.N := by unfold Net.N; omega
      have hwide : ∀ r, r < n.N → t.L r = n.N := fun r hr => by
        have := (t.wide_iff n.nodes).1 hw r (by omega)
        unfold Net.N; omega
      exact ⟨hlen, hwide, fun i j hi hj => (t.routes_iff n.a.size).1 hr i (by omega) j (by rw [hwide i hi]; exact hj)⟩
theorem Net.is_of_fit {n : Net} {t : Tab} (h : n.fit t = 0) : n.check = 0 ∧ n.Is t := by
  unfold Net.fit at h
  by_cases hc : n.check = 0
  · rw [if_pos hc] at h
    exact ⟨hc, Net.is_of_rows (Net.good_of_check hc) h⟩
  · rw [if_neg hc] at h
    exact absurd h hc
theorem Net.Is.mk' {n : Net} {Z : Nat → Nat → Int} (h : n.State Z) : n.Is ⟨n.N, fun _ => n.N, Z⟩ := ⟨rfl, fun _ _ => rfl, h⟩

theorem calls_round1 (args : Array Value) (W : World) : (callFunc 153 args).run Try.prog W = .ok (.enter 153 args) W := by rfl

set_option maxHeartbeats 1000000 in
theorem round1_any (x : Mat) (k bx v j : Nat) (W : World) (hx : x.In k W) (hb : W.cell? ⟨bx, 0, none⟩ = some x.val) (hv : v < x.t.len) (hj : j < x.t.L v) :
    Calls Try.prog 153 #[.int .i64 v, .int .i64 j, .pointer (some ⟨bx, 0, none⟩)] W fun e w' => e = .returned (.int .i64 (x.t.Z v j)) ∧ ∃ m, w' = W.drewN m := by
  obtain ⟨a1, a2, a3⟩ := hx.at hv hj
  rw [Mat.val, a1] at hb
  have hvi : (v : Int) < (x.t.len : Int) := by omega
  have hji : (j : Int) < (x.t.L v : Int) := by omega
  clear hx a1
  go_enter Try.func153, Try.ntmps153
  go_wp2
  go_ret
  exact ⟨rfl, 0, rfl⟩

set_option maxHeartbeats 4000000 in
theorem round_any (n : NetM) (x : Mat) (w : World) (h : n.In w.heap.size w) (hx : x.In w.heap.size w) (hck : n.net.check = 0) (his : n.net.Is x.t) :
    Calls Try.prog 89 #[n.val, x.val] w fun e w' => (∃ m : Mat, e = .returned m.val ∧ Fresh n.net.N w.heap.size (n.net.round x.t.Z) m w') ∧ Below w.heap.size w w' := by
  have g := Net.good_of_check hck
  have lo := g.lo
  have hi6 := g.hi
  obtain ⟨N, hN⟩ : ∃ N : Nat, n.nodes = N := ⟨n.nodes.toNat, by have : n.net.nodes = n.nodes := rfl; omega⟩
  have hNN : n.net.N = N := by show n.nodes.toNat = N; omega
  have hN6 : N ≤ 6 := by have : n.net.nodes = n.nodes := rfl; omega
  obtain ⟨i2, hi2, hx0, hx1, hx2⟩ := info_parts Try.infoInts
  have hmkA : ∀ u : World, (Instr.makeSlice 36 (.int .i64 (N : Int)) (.int .i64 (N : Int))).run Try.prog u = .ok (.slice (some ⟨u.heap.size, 0, none⟩) N N) (u.alloc (.cells (madeCells #[.slice none 0 0] N) 22)) := fun u => by
    have h := run_make (P := Try.prog) u 36 22 i2 (.slice none 0 0) Try.underlying36 hi2 hx0 .i64 .i64 (N : Int) (N : Int) (by omega) (Int.le_refl _) (by rw [hx2]; omega) (by omega)
    simpa [hx1, Value.cells] using h
  have hcells : n.cells = #[.int .i64 n.a.size, .slice n.a.B.ga n.a.B.t.len n.a.B.cap, .slice n.a.E.ga n.a.E.t.len n.a.E.cap, .int .i64 N, .slice n.la n.ln n.lc] := by simp only [NetM.cells, Mat.val, hN]
  have H := hide h
  have HX := hide hx
  have HK := hide hck
  have HI := hide his
  have HNN := hide hNN
  simp only [NetM.val, Mat.val, hcells]
  have Hcells := hide hcells
  clear hN hcells h hx hck his hNN lo hi6 g
  go_enter Try.func89, Try.ntmps89
  go_wp2_with fail
  go_loopw [7, 14] (fun _ q wr => ∃ k : Nat, k ≤ N ∧ q = .int .i64 k ∧ Hid (Below (w.heap.size + 2) ((w.alloc (.cells n.cells 41)).alloc (.cells #[x.val] 36)) wr) ∧ Hid (∃ g c : Nat → Nat, MadeI w.heap.size (w.heap.size + 2) g c N N (n.net.round x.t.Z) k wr)) (fun _ q _ => N - (intOf q).toNat)
  case atStart =>
    refine ⟨0, Nat.zero_le _, rfl, hide ?_, hide ⟨fun _ => 0, fun _ => 0, ?_⟩⟩
    · rw [Hcells.out]
      exact (Below.refl _ _).alloc (by simp) _
    · have := MadeI.start ((w.alloc (.cells n.cells 41)).alloc (.cells #[x.val] 36)) w.heap.size N N (n.net.round x.t.Z) (by simp; omega)
      rw [Hcells.out] at this
      simp only [World.size_alloc] at this
      exact this
  case round =>
    obtain ⟨k, hk, rfl, HB, HM⟩ := hrel
    have hBw : Below w.heap.size w wr := (((Below.refl _ w).alloc (Nat.le_refl _) _).alloc (by simp) _).trans (HB.out.mono (by omega))
    by_cases hlt : k < N
    · have bN := ((Blk.new w n.cells 41).alloc (.cells #[x.val] 36)).below HB.out (by omega)
      have bX := (Blk.new (w.alloc (.cells n.cells 41)) #[x.val] 36).below HB.out (by simp)
      simp only [World.size_alloc] at bX
      have x0 := bN.cell 0
      have x1 := bN.cell 1
      have x2 := bN.cell 2
      have x3 := bN.cell 3
      have x4 := bN.cell 4
      simp [Hcells.out] at x0 x1 x2 x3 x4
      have HC := hide (look_any 153 #[.pointer (some ⟨w.heap.size + 1, 0, none⟩)] n k (fun j v => x.t.Z v j) wr (H.out.grown hBw) HK.out (fun j hj v hv => HI.out.state v j hv hj) calls_round1 (fun v j W hv hj hb => by
        have := round1_any x w.heap.size (w.heap.size + 1) v j W (HX.out.below (hBw.trans (hb.mono hBw.size)) (Nat.le_refl _)) ((bX.below hb bX.lt).cell 0) (by rw [HI.out.len]; exact hv) (by rw [HI.out.wide v hv]; exact hj)
        simpa using this))
      rw [HNN.out] at HC
      simp only [NetM.val, Hcells.out] at HC
      obtain ⟨g, c, hM⟩ := HM.out
      have hM0 := hM.out
      clear HM bX
      go_wp2_with fail
      go_at_call 154
      refine HC.out.mono ?_
      rintro e w2 ⟨rfl, hb2, hl2, hz2⟩
      have hM2 := hM.below hb2
      have o1 := hM2.out.cell k
      rw [outG_get hlt, if_neg (Nat.lt_irrefl _)] at o1
      have of := hM2.out.frozen k
      have hki : (k : Int) < (N : Int) := by omega
      have HM3 : Hid (∃ g c : Nat → Nat, MadeI w.heap.size (w.heap.size + 2) g c N N (n.net.round x.t.Z) (k + 1) (w2.setCell ⟨w.heap.size + 2, k, none⟩ (.slice (some ⟨wr.heap.size + 1, 0, none⟩) N N))) :=
        hide ⟨_, _, hM2.put (by have := hBw.size; omega) hl2 (by have := hM.out.lt; omega) hz2⟩
      have HB3 := hide ((HB.out.trans (hb2.mono (by have := HB.out.size; simp at this; omega))).setCell (p := ⟨w.heap.size + 2, k, none⟩) (Nat.le_refl _) (.slice (some ⟨wr.heap.size + 1, 0, none⟩) N N))
      clear hM hM0 hM2 hz2 hl2 hb2 HB HC x0 x1 x2 x3 x4 bN
      go_wp2
      go_roundw
      case rel =>
        first
        | exact ⟨k + 1, by omega, by go_num, HB3, HM3⟩
        | ((repeat apply Exists.intro); refine ⟨?_, rfl⟩; exact ⟨k + 1, by omega, by go_num, HB3, HM3⟩)
      case measure => simp [intOf]; omega
    · have hkn : k = N := by omega
      subst hkn
      have HBw := hide hBw
      clear hBw
      go_wp2
      go_ret
      obtain ⟨g, c, hM⟩ := HM.out
      obtain ⟨m, e1, e2, e3, e4⟩ := hM.mat (by omega) (by omega)
      exact ⟨⟨m, congrArg Ending.returned e1, by rw [HNN.out]; exact e2, e3, e4⟩, HBw.out⟩

set_option maxHeartbeats 1000000 in
theorem netRound_ok (n : NetM) (x : Mat) (w : World) (h : n.In w.heap.size w) (hx : x.In w.heap.size w) (hf : n.net.fit x.t = 0) :
    Calls Try.prog 114 #[n.val, x.val] w fun e w' => (∃ m : Mat, e = .returned (.tuple #[m.val, .int .i64 0]) ∧ Fresh n.net.N w.heap.size (n.net.round x.t.Z) m w') ∧ Below w.heap.size w w' := by
  have hB0 : Below w.heap.size w (w.alloc (.cells n.cells 41)) := (Below.refl _ w).alloc (Nat.le_refl _) _
  have b0 := Blk.new w n.cells 41
  have HF := hide (netFit_any n x _ (h.grown hB0) (hx.grown hB0))
  rw [hf] at HF
  obtain ⟨hc, hi⟩ := Net.is_of_fit hf
  have HR := hide (fun W (hb : Below w.heap.size w W) => round_any n x W (h.grown hb) (hx.grown hb) hc hi)
  clear hf hc hi h hx
  simp only [NetM.val, NetM.cells, Mat.val] at *
  go_enter Try.func114, Try.ntmps114
  go_wp2_with fail
  go_at_call 85
  refine HF.out.mono ?_
  rintro e w1 ⟨rfl, hb1⟩
  have hB1 := hB0.trans (hb1.mono hB0.size)
  have b1 := b0.below hb1 b0.lt
  have x0 := b1.cell 0
  have x1 := b1.cell 1
  have x2 := b1.cell 2
  have x3 := b1.cell 3
  have x4 := b1.cell 4
  simp at x0 x1 x2 x3 x4
  have HR1 := hide (HR.out w1 hB1)
  clear HR HF
  go_wp2_with fail
  go_at_call 89
  refine HR1.out.mono ?_
  rintro e w2 ⟨⟨m, rfl, hm⟩, hb2⟩
  have HM := hide hm
  have HB := hide (hB1.trans (hb2.mono hB1.size))
  have hsz := hB1.size
  clear hm hb2 HR1
  go_wp2
  refine bodyPost_ret (v := .tuple #[.slice m.ga m.t.len m.cap, .int .i64 0]) (by simp [results, Try.results114, go_sem]) rfl ?_
  exact ⟨⟨m, rfl, HM.out.1, HM.out.2.1, HM.out.2.2.mono hsz⟩, HB.out⟩

set_option maxHeartbeats 1000000 in
theorem netRound_bad (n : NetM) (x : Mat) (w : World) (h : n.In w.heap.size w) (hx : x.In w.heap.size w) (hf : n.net.fit x.t ≠ 0) :
    Calls Try.prog 114 #[n.val, x.val] w fun e w' => e = .returned (.tuple #[.slice none 0 0, .int .i64 (n.net.fit x.t)]) ∧ Below w.heap.size w w' := by
  have hB0 : Below w.heap.size w (w.alloc (.cells n.cells 41)) := (Below.refl _ w).alloc (Nat.le_refl _) _
  have HF := hide (netFit_any n x _ (h.grown hB0) (hx.grown hB0))
  generalize n.net.fit x.t = ft at *
  have hf' : (ft != 0) = true := by simp [hf]
  clear hf h hx
  simp only [NetM.val, NetM.cells, Mat.val] at *
  go_enter Try.func114, Try.ntmps114
  go_wp2_with fail
  go_at_call 85
  refine HF.out.mono ?_
  rintro e w1 ⟨rfl, hb1⟩
  have HB := hide (hB0.trans (hb1.mono hB0.size))
  clear HF hb1 hB0
  go_wp2
  exact bodyPost_ret (v := .tuple #[.slice none 0 0, .int .i64 ft]) (by simp [results, Try.results114, go_sem]) rfl ⟨rfl, HB.out⟩

end Go.Proofs.Ytjhkadffaephmab
