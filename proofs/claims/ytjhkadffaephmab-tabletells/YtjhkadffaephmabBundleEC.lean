/-
  Our own texts, bundled: a claim holds few files.
-/
import Derived.Test.YtjhkadffaephmabBundleEA
import Derived.Test.YtjhkadffaephmabBundleBI
/-
  signpostref.WalkOf.
-/
namespace Go.Proofs.Ytjhkadffaephmab
set_option maxRecDepth 100000
open Go.RowKit

theorem owns_one (w : World) (c : Int) : (w.alloc (.cells #[.int .i64 c] 3)).ownsRow w.heap.size 3 1 (.slice (some ⟨w.heap.size, 0, none⟩) 1 1) 1 (intV [c]) :=
  World.ownsRow_lit w #[.int .i64 c] 1 (Nat.le_refl _) (by unfold maxLen; omega) rfl

set_option maxHeartbeats 4000000 in
theorem refWalk_any (m : Mat) (N fr fin : Nat) (w : World) (h : m.In w.heap.size w) (hl : m.t.len = N) (hw : ∀ r, r < N → m.t.L r = N) (hN6 : N ≤ 6) (hfr : fr < N) (hfi : fin < N)
    (ht : ∀ r, r < N → ∀ c, c < N → m.t.Z r c = -1 ∨ (0 ≤ m.t.Z r c ∧ m.t.Z r c < (N : Int))) :
    Calls Try.prog 56 #[m.val, .int .i64 fr, .int .i64 fin] w fun e w' => (∃ v, e = .returned (.tuple #[v, .bool (walkOf (fun c => m.t.Z c.toNat fin) fin (N + 1) [] fr).2]) ∧ w'.ownsRow w.heap.size 3 1 v (walkOf (fun c => m.t.Z c.toNat fin) fin (N + 1) [] fr).1.length (intV (walkOf (fun c => m.t.Z c.toNat fin) fin (N + 1) [] fr).1)) ∧ Below w.heap.size w w' := by
  obtain ⟨i1, hi1, hy0, hy1, hy2⟩ := info_parts Try.infoInt
  have H := hide h
  have HW := hide hw
  have HL := hide hl
  have HT := hide ht
  have Hfirst : Hid ((if (fr : Int) = fin then ([(fr : Int)], true) else walkOf (fun c => m.t.Z c.toNat fin) fin N [(fr : Int)] (m.t.Z fr fin)) = walkOf (fun c => m.t.Z c.toNat fin) fin (N + 1) [] fr) := hide (by
    symm
    show (if (fr : Int) < 0 ∨ (fr : Int) ∈ ([] : List Int) then ([], false) else if (fr : Int) = fin then ([] ++ [(fr : Int)], true) else walkOf (fun c => m.t.Z c.toNat fin) fin N ([] ++ [(fr : Int)]) (m.t.Z (fr : Int).toNat fin)) = _
    rw [if_neg (fun h => h.elim (fun h => by omega) (fun h => by cases h))]
    rfl)
  have HO0 := hide (owns_one w fr)
  have HB0 := hide ((Below.refl w.heap.size w).alloc (Nat.le_refl _) (.cells #[.int .i64 (fr : Int)] 3))
  generalize hres : walkOf (fun c => m.t.Z c.toNat fin) fin (N + 1) [] fr = res at *
  simp only [Mat.val, hl]
  clear h hw hl ht hres
  go_enter Try.func56, Try.ntmps56
  go_wp2_with fail
  go_loopw [1, 8] (fun s v wr => ∃ (out : List Int) (c f : Nat), s = .int .i64 c ∧ c < N ∧ 0 < out.length ∧ out.length ≤ N ∧ f + out.length = N + 1 ∧ Hid (out.Nodup) ∧ Hid (∀ d ∈ out, 0 ≤ d ∧ d < (N : Int)) ∧ Hid ((if (c : Int) = fin then (out, true) else walkOf (fun c => m.t.Z c.toNat fin) fin f out (m.t.Z c fin)) = res) ∧ Hid (wr.ownsRow w.heap.size 3 1 v out.length (intV out)) ∧ Hid (Below w.heap.size w wr)) (fun _ v _ => N + 1 - sliceLen v)
  case atStart => exact ⟨[(fr : Int)], fr, N, rfl, hfr, by simp, by simp; omega, by simp, hide (by simp), hide (by simp; omega), Hfirst, HO0, HB0⟩
  case round =>
    obtain ⟨out, c, f, rfl, hc, hol0, hol, hf, Hnd, Hno, Hwk, HO, HB⟩ := hrel
    by_cases hcf : (c : Int) = fin
    · have hcf' : ((c : Int) != (fin : Int)) = false := by simp [hcf]
      have Hr : Hid (res = (out, true)) := hide (by rw [← Hwk.out, if_pos hcf])
      have HO' : Hid (wr.ownsRow w.heap.size 3 1 u8 res.1.length (intV res.1)) := hide (by rw [Hr.out]; exact HO.out)
      clear hcf Hwk HO
      go_wp2
      exact bodyPost_ret (v := .tuple #[u8, .bool true]) (by simp [results, Try.results56, go_sem]) rfl ⟨⟨u8, by rw [Hr.out], HO'.out⟩, HB.out⟩
    · have hcf' : ((c : Int) != (fin : Int)) = true := by simp [hcf]
      have Hwk2 : Hid (walkOf (fun c => m.t.Z c.toNat fin) fin f out (m.t.Z c fin) = res) := hide (by have := Hwk.out; rw [if_neg hcf] at this; exact this)
      clear Hwk hcf
      obtain ⟨f', rfl⟩ : ∃ f', f = f' + 1 := ⟨f - 1, by omega⟩
      obtain ⟨a1, a2, a3⟩ := (H.out.below HB.out (Nat.le_refl _)).at (show c < m.t.len by rw [HL.out]; exact hc) (show fin < m.t.L c by rw [HW.out c hc]; exact hfi)
      rw [HW.out c hc] at a2
      have hci : (c : Int) < (N : Int) := by omega
      have hfi' : (fin : Int) < (N : Int) := by omega
      have hd := HT.out c hc fin hfi
      have Hstep : Hid ((if m.t.Z c fin < 0 ∨ m.t.Z c fin ∈ out then (out, false) else if m.t.Z c fin = fin then (out ++ [m.t.Z c fin], true) else walkOf (fun c => m.t.Z c.toNat fin) fin f' (out ++ [m.t.Z c fin]) (m.t.Z (m.t.Z c fin).toNat fin)) = res) := hide Hwk2.out
      clear Hwk2
      generalize hdd : m.t.Z c fin = d at *
      have Hdd := hide hdd
      clear hdd
      by_cases hd1 : d = -1
      · subst hd1
        have Hr : Hid (res = (out, false)) := hide (by rw [← Hstep.out, if_pos (Or.inl (by omega))])
        have HO' : Hid (wr.ownsRow w.heap.size 3 1 u8 res.1.length (intV res.1)) := hide (by rw [Hr.out]; exact HO.out)
        clear Hstep HO hd
        go_wp2
        exact bodyPost_ret (v := .tuple #[u8, .bool false]) (by simp [results, Try.results56, go_sem]) rfl ⟨⟨u8, by rw [Hr.out], HO'.out⟩, HB.out⟩
      · have hd2 : 0 ≤ d ∧ d < (N : Int) := hd.resolve_left hd1
        obtain ⟨dn, rfl⟩ : ∃ dn : Nat, d = dn := ⟨d.toNat, by omega⟩
        have hdN : dn < N := by omega
        have hd0 : ¬ ((dn : Int) < 0) := by omega
        have hd0' : (0 : Int) ≤ (dn : Int) := by omega
        obtain ⟨l, hll0⟩ : ∃ l, out.length = l + 1 := ⟨out.length - 1, by omega⟩
        obtain ⟨g, cap, hu, hI, hgl, _, _, _, hlist⟩ := owns_ints (by rw [hll0] at HO; exact HO.out) hll0
        subst hu
        have HH := hide (has_ints (some ⟨g, 0, none⟩) (l + 1) cap g 0 _ dn wr hI)
        rw [hlist] at HH
        clear hd hd1 hd2 hI hlist
        by_cases hm : (dn : Int) ∈ out
        · have hmb : decide ((dn : Int) ∈ out) = true := by simp [hm]
          rw [hmb] at HH
          have Hr : Hid (res = (out, false)) := hide (by rw [← Hstep.out, if_pos (Or.inr hm)])
          have HO' : Hid (wr.ownsRow w.heap.size 3 1 (.slice (some ⟨g, 0, none⟩) (l + 1) cap) res.1.length (intV res.1)) := hide (by rw [Hr.out]; exact HO.out)
          clear Hstep HO hm hmb
          go_wp2_with fail
          go_at_call 62
          refine HH.out.mono ?_
          rintro e w2 ⟨rfl, rfl⟩
          go_wp2
          exact bodyPost_ret (v := .tuple #[.slice (some ⟨g, 0, none⟩) (l + 1) cap, .bool false]) (by simp [results, Try.results56, go_sem]) rfl ⟨⟨_, by rw [Hr.out], HO'.out⟩, HB.out⟩
        · have hmb : decide ((dn : Int) ∈ out) = false := by simp [hm]
          rw [hmb] at HH
          have hnd : (out ++ [(dn : Int)]).Nodup := by
            rw [List.nodup_append]
            exact ⟨Hnd.out, by simp, fun a ha b hb e => by rw [List.mem_singleton] at hb; subst e hb; exact hm ha⟩
          have hno : ∀ d ∈ out ++ [(dn : Int)], 0 ≤ d ∧ d < (N : Int) := fun d hd => by
            rcases List.mem_append.1 hd with e | e
            · exact Hno.out d e
            · rw [List.mem_singleton] at e; omega
          have hln := nodup_len N _ hnd hno
          have Hs2 : Hid ((if (dn : Int) = fin then (out ++ [(dn : Int)], true) else walkOf (fun c => m.t.Z c.toNat fin) fin f' (out ++ [(dn : Int)]) (m.t.Z dn fin)) = res) := hide (by
            have := Hstep.out
            rw [if_neg (fun h => h.elim (fun h => by omega) hm)] at this
            exact this)
          have Hnd2 := hide hnd
          have Hno2 := hide hno
          have hll : (out ++ [(dn : Int)]).length = l + 2 := by simp; omega
          have Hiv : Hid (intV (out ++ [(dn : Int)]) = intV out ++ [.int .i64 (dn : Int)]) := hide (by simp [intV])
          have Hll := hide hll
          rw [hll] at hln
          rw [hll0] at HO hf
          have Hl0 := hide hll0
          clear hm hmb Hstep Hnd Hno hnd hno hll hll0 hol hol0
          go_wp2_with fail
          go_at_call 62
          refine HH.out.mono ?_
          rintro e w2 ⟨rfl, rfl⟩
          go_wp2_with (at_builtin; refine wpList_append_lies _ rfl _ _ _ rfl w.heap.size 3 i1 _ 1 8 Try.underlying22 hi1 hy0 hy1 hy2 rfl (by decide) _ (l + 1) _ rfl (HO.out.alloc _) ⟨w2.heap.size, 0, none⟩ 1 1 [.int .i64 (dn : Int)] rfl rfl ?c1 ?c2 (by decide) ?c3 ?c4 ?c5 _ rfl ?_)
          all_goals try (case c1 => exact World.news_of_block (Blk.new' (by simp)))
          all_goals try (case c2 => simp [Value.oneCell'])
          all_goals try (case c3 => unfold maxLen; omega)
          all_goals try (case c4 => omega)
          all_goals try (case c5 => have := HB.out.size; simp; omega)
          intro g' cap' w4 hown2 hgrow hat2 hlt2
          have HB4 := hide ((HB.out.alloc HB.out.size (.cells #[.int .i64 (dn : Int)] 3)).trans (grown_below hgrow (fun g hg => (HO.out.lt g hg).1) (by have := HB.out.size; simp; omega)))
          have HO4 : Hid (w4.ownsRow w.heap.size 3 1 (.slice (some ⟨g', 0, none⟩) (l + 1 + 1) cap') (out ++ [(dn : Int)]).length (intV (out ++ [(dn : Int)]))) := hide (by rw [Hll.out, Hiv.out]; exact hown2)
          have Hl2 : Hid (0 < (out ++ [(dn : Int)]).length ∧ (out ++ [(dn : Int)]).length ≤ N ∧ f' + (out ++ [(dn : Int)]).length = N + 1) := hide (by rw [Hll.out]; omega)
          clear hown2 hgrow hat2 hlt2 Hiv
          go_wp2
          go_roundw
          case rel =>
            first
            | exact ⟨out ++ [(dn : Int)], dn, f', rfl, hdN, Hl2.out.1, Hl2.out.2.1, Hl2.out.2.2, Hnd2, Hno2, Hs2, HO4, HB4⟩
            | ((try rw [← a1]); (repeat apply Exists.intro); refine ⟨?_, rfl⟩; exact ⟨out ++ [(dn : Int)], dn, f', rfl, hdN, Hl2.out.1, Hl2.out.2.1, Hl2.out.2.2, Hnd2, Hno2, Hs2, HO4, HB4⟩)
          case measure => simp [sliceLen_slice]; omega

end Go.Proofs.Ytjhkadffaephmab

/-
  signpostref.CheckTable.
-/
namespace Go.Proofs.Ytjhkadffaephmab
set_option maxRecDepth 100000
open Go.RowKit

theorem Tab.stray_at (t : Tab) {N : Int} {r c : Nat} (hr : r < t.len) (hc : c < t.L r) (h : strayB (t.Z r c) N = true) : t.stray N = true := by
  unfold Tab.stray
  simp only [List.any_eq_true, List.mem_range]
  exact ⟨r, hr, c, hc, h⟩
theorem Tab.stray_no (t : Tab) {N : Int} (h : ∀ r, r < t.len → ∀ c, c < t.L r → strayB (t.Z r c) N = false) : t.stray N = false := by
  cases e : t.stray N with
  | false => rfl
  | true =>
    unfold Tab.stray at e
    simp only [List.any_eq_true, List.mem_range] at e
    obtain ⟨r, hr, c, hc, e⟩ := e
    rw [h r hr c hc] at e
    cases e

set_option maxHeartbeats 4000000 in
theorem checkTable_any (n : NetM) (m : Mat) (w : World) (h : n.In w.heap.size w) (hm : m.In w.heap.size w) :
    Calls Try.prog 53 #[n.val, m.val] w fun e w' => e = .returned (.int .i64 (n.net.tabErr m.t)) ∧ Below w.heap.size w w' := by
  have hlen := hm.len
  unfold maxLen at hlen
  have hB0 : Below w.heap.size w (w.alloc (.cells n.cells 41)) := (Below.refl _ w).alloc (Nat.le_refl _) _
  have b0 := Blk.new w n.cells 41
  have HC := hide (refNet_any n _ (h.grown hB0))
  have HX := hide hm
  have Hdef : Hid (n.net.tabErr m.t = if n.net.check ≠ 0 then n.net.check else if (m.t.len : Int) ≠ n.nodes ∨ m.t.wide n.nodes = false then 1 else if m.t.stray n.nodes = true then 5 else 0) := hide rfl
  have Hgd := hide (fun (e : n.net.check = 0) => Net.good_of_check e)
  generalize n.net.check = ck at *
  simp only [NetM.val, NetM.cells, Mat.val] at HC ⊢
  clear h hm
  by_cases hc : ck = 0
  rotate_left
  · have hc' : (ck != 0) = true := by simp [hc]
    have He : Hid (n.net.tabErr m.t = ck) := hide (by rw [Hdef.out, if_pos hc])
    clear hc Hdef Hgd b0
    go_enter Try.func53, Try.ntmps53
    go_wp2_with fail
    go_at_call 34
    refine HC.out.mono ?_
    rintro e w1 ⟨rfl, hb1⟩
    have HB1 := hide (hB0.trans (hb1.mono hB0.size))
    clear hb1 HC hB0
    go_wp2
    go_ret
    exact ⟨by rw [He.out]; rfl, HB1.out⟩
  subst hc
  have Hlo : Hid (1 ≤ n.nodes ∧ n.nodes ≤ 6) := hide (by have g := Hgd.out rfl; exact ⟨g.lo, g.hi⟩)
  have Hdef1 : Hid (n.net.tabErr m.t = if (m.t.len : Int) ≠ n.nodes ∨ m.t.wide n.nodes = false then 1 else if m.t.stray n.nodes = true then 5 else 0) := hide (by rw [Hdef.out, if_neg (by simp)])
  clear Hdef Hgd
  go_enter Try.func53, Try.ntmps53
  go_wp2_with fail
  go_at_call 34
  refine HC.out.mono ?_
  rintro e W1 ⟨rfl, hb1⟩
  have HB1 := hide (hB0.trans (hb1.mono hB0.size))
  have Hbn := hide (b0.below hb1 b0.lt)
  have y3 := Hbn.out.cell 3
  simp [NetM.cells] at y3
  clear hb1 HC hB0 b0
  by_cases hl : (m.t.len : Int) = n.nodes
  rotate_left
  · have hl' : ((m.t.len : Int) != n.nodes) = true := by simp [hl]
    have hfin : Hid (n.net.tabErr m.t = 1) := hide (by rw [Hdef1.out, if_pos (Or.inl hl)])
    clear hl Hdef1
    go_wp2
    go_ret
    exact ⟨by rw [hfin.out]; rfl, HB1.out⟩
  have hl' : ((m.t.len : Int) != n.nodes) = false := by simp [hl]
  have HL := hide hl
  clear hl
  go_wp2_with fail
  go_loopw [6] (fun q wr => ∃ k : Nat, k ≤ m.t.len ∧ q = .int .i64 k ∧ Hid (∀ r, r < k → (m.t.L r : Int) = n.nodes) ∧ Hid (∃ z, wr = W1.drewN z)) (fun q _ => m.t.len - (intOf q).toNat)
  case atStart => exact ⟨0, Nat.zero_le _, rfl, hide fun r hr => absurd hr (Nat.not_lt_zero _), hide ⟨0, rfl⟩⟩
  case round =>
    obtain ⟨k, hk, rfl, Hall, HD⟩ := hrel
    have z3 : wr.cell? ⟨w.heap.size, 3, none⟩ = some (.int .i64 n.nodes) := by obtain ⟨z, rfl⟩ := HD.out; exact y3
    have Hbw : Hid (Below W1.heap.size W1 wr) := hide (by obtain ⟨z, rfl⟩ := HD.out; exact below_drewN (Below.refl _ _) z)
    by_cases hlt : k < m.t.len
    · have hga := HX.out.ga (by omega)
      have hrow : wr.cell? ⟨m.gb, m.go + k, none⟩ = some (.slice (m.A k) (m.t.L k) (m.C k)) := (HX.out.below (HB1.out.trans (Hbw.out.mono HB1.out.size)) (Nat.le_refl _)).row k hlt
      have hlens := HX.out.lens k hlt
      unfold maxLen at hlens
      have hki : (k : Int) < (m.t.len : Int) := by omega
      by_cases he : (m.t.L k : Int) = n.nodes
      · have he' : ((m.t.L k : Int) != n.nodes) = false := by simp [he]
        have Hn : Hid (∀ r, r < k + 1 → (m.t.L r : Int) = n.nodes) := hide (fun r hr => by
          by_cases e : r = k
          · subst e; exact he
          · exact Hall.out r (by omega))
        clear he Hbw
        go_wp2_with fail
        go_quiet (fail)
        go_wp2
        go_roundw
        case rel =>
          first
          | exact ⟨k + 1, by omega, by go_num, Hn, hide (by obtain ⟨m, rfl⟩ := HD.out; exact ⟨_, by rw [World.drewN_drewN]⟩)⟩
          | ((try rw [← hga]); (repeat apply Exists.intro); refine ⟨?_, rfl⟩; exact ⟨k + 1, by omega, by go_num, Hn, hide (by obtain ⟨m, rfl⟩ := HD.out; exact ⟨_, by rw [World.drewN_drewN]⟩)⟩)
        case measure => simp [intOf]; omega
      · have he' : ((m.t.L k : Int) != n.nodes) = true := by simp [he]
        have hfin : Hid (n.net.tabErr m.t = 1) := hide (by rw [Hdef1.out, if_pos (Or.inr (Tab.wide_false hlt he))])
        clear he
        go_wp2_with fail
        go_quiet (fail)
        go_wp2
        go_ret
        exact ⟨by rw [hfin.out]; rfl, HB1.out.trans ((below_drewN Hbw.out _).mono HB1.out.size)⟩
    · have hki : (m.t.len : Int) ≤ (k : Int) := by omega
      have Hw : Hid (m.t.wide n.nodes = true) := hide ((m.t.wide_iff n.nodes).2 (fun r hr => Hall.out r (by omega)))
      have Hw2 : Hid (∀ r, r < m.t.len → (m.t.L r : Int) = n.nodes) := hide (fun r hr => Hall.out r (by omega))
      have Hd2 : Hid (n.net.tabErr m.t = if m.t.stray n.nodes = true then 5 else 0) := hide (by rw [Hdef1.out, if_neg (by simp [HL.out, Hw.out])])
      clear Hdef1 Hw Hall
      obtain ⟨Wc, hWc⟩ : ∃ Wc, Wc = wr := ⟨wr, rfl⟩
      have HD1 : Hid (Below W1.heap.size W1 Wc) := by rw [hWc]; exact Hbw
      go_wp2_with fail
      rw [← hWc]
      clear hWc HD Hbw z3 y3
      go_loopw [7, 8] (fun q _ wr => ∃ k : Nat, k ≤ m.t.len ∧ q = .int .i64 k ∧ Hid (∀ r, r < k → ∀ c, c < m.t.L r → strayB (m.t.Z r c) n.nodes = false) ∧ Hid (Below W1.heap.size W1 wr)) (fun q _ _ => m.t.len - (intOf q).toNat)
      case atStart => exact ⟨0, Nat.zero_le _, rfl, hide fun r hr => absurd hr (Nat.not_lt_zero _), HD1⟩
      case round =>
        obtain ⟨r, hr, rfl, Hall, HD⟩ := hrel
        by_cases hrl : r < m.t.len
        · have hri : (r : Int) < (m.t.len : Int) := by omega
          have hLr : m.t.L r = m.t.len := by have := Hw2.out r hrl; have := HL.out; omega
          obtain ⟨Wd, hWd⟩ : ∃ Wd, Wd = wr := ⟨wr, rfl⟩
          have HD2 : Hid (Below W1.heap.size W1 Wd) := by rw [hWd]; exact HD
          go_wp2_with fail
          rw [← hWd]
          clear hWd HD HD1
          go_loopw [8] (fun q wr => ∃ c : Nat, c ≤ m.t.len ∧ q = .int .i64 c ∧ Hid (∀ c', c' < c → strayB (m.t.Z r c') n.nodes = false) ∧ Hid (Below W1.heap.size W1 wr)) (fun q _ => m.t.len - (intOf q).toNat)
          case atStart => exact ⟨0, Nat.zero_le _, rfl, hide fun r hr => absurd hr (Nat.not_lt_zero _), HD2⟩
          case round =>
            obtain ⟨c, hc, rfl, Hrow, HD⟩ := hrel
            by_cases hcl : c < m.t.len
            · have hci : (c : Int) < (m.t.len : Int) := by omega
              obtain ⟨a1, _, _⟩ := HX.out.at hrl (show c < m.t.L r by omega)
              have HC2 : Hid (∀ W, Below W1.heap.size W1 W → W.cell? ⟨m.gb, m.go + r, none⟩ = some (.slice (some ⟨m.RB r, m.RO r, none⟩) m.t.len (m.C r))) := hide (fun W hb => by
                have := ((HX.out.below (HB1.out.trans (hb.mono HB1.out.size)) (Nat.le_refl _)).at hrl (show c < m.t.L r by omega)).2.1
                rw [hLr] at this
                exact this)
              have HC3 : Hid (∀ W, Below W1.heap.size W1 W → W.cell? ⟨m.RB r, m.RO r + c, none⟩ = some (.int .i64 (m.t.Z r c))) := hide (fun W hb => ((HX.out.below (HB1.out.trans (hb.mono HB1.out.size)) (Nat.le_refl _)).at hrl (show c < m.t.L r by omega)).2.2)
              by_cases hneg : m.t.Z r c = -1
              · have Hn : Hid (∀ c', c' < c + 1 → strayB (m.t.Z r c') n.nodes = false) := hide (fun c' hc' => by
                  by_cases e : c' = c
                  · subst e; rw [hneg]; rfl
                  · exact Hrow.out c' (by omega))
                rw [hneg] at HC3
                clear hneg hLr
                go_wp2_with fail
                rw [a1]
                have Ha1 := hide a1
                clear a1
                refine wp_region_only (fun W => Below W1.heap.size W1 W) (valsE [.slice (some ⟨m.gb, m.go, none⟩) m.t.len m.cap, .int .i64 r, .pointer (some ⟨m.gb, m.go + r, none⟩), .slice (some ⟨m.RB r, m.RO r, none⟩) m.t.len (m.C r), .int .i64 c, .pointer (some ⟨m.RB r, m.RO r + c, none⟩), .int .i64 (-1), .bool false, .bool false, undef, undef, undef, undef, undef, undef, undef, undef, undef, undef, .bool false]) (by kernel_rfl) (by kernel_rfl) (by kernel_rfl) (below_drewN HD.out 1) ⟨?_, ?_, ?_, ?_, ?_, ?_, ?_, ?_, ?_, ?_, ?_, ?_, ?_, ?_, ?_, ?_, ?_, ?_, ?_, ?_, trivial⟩ ?_
                rotate_right
                · intro t W hG hE
                  have e19 := valsE_get (hE 19 (by decide)) rfl
                  have HG' := hide hG
                  clear hE hG
                  simp only [fill, Act.put, List.setIfInBounds_toArray, List.set_cons_zero, List.set_cons_succ, e19]
                  clear e19
                  go_wp2
                  go_roundw
                  case rel =>
                    first
                    | exact ⟨c + 1, by omega, by go_num, Hn, HG'⟩
                    | ((try rw [← Ha1.out]); (repeat apply Exists.intro); refine ⟨?_, rfl⟩; exact ⟨c + 1, by omega, by go_num, Hn, HG'⟩)
                  case measure => simp [intOf]; omega
                all_goals intro t W hG hp K hK
                all_goals simp only [fill, Act.put, List.setIfInBounds_toArray, List.set_cons_zero, List.set_cons_succ] at hK ⊢
                · rw [if_pos (by rfl)]
                  go_simp
                  exact hK _ W hG rfl (fun _ _ _ h => h)
                · rw [if_pos (by rfl)]
                  go_simp
                  exact hK _ W hG rfl (fun _ _ _ h => h)
                · have e0 := valsE_get (hp 0 (by decide)) rfl
                  have e1 := valsE_get (hp 1 (by decide)) rfl
                  simp only [e0, e1] at hK ⊢
                  rw [if_pos (by rfl)]
                  go_simp
                  exact hK _ W hG rfl (fun _ _ _ h => h)
                · have e2 := valsE_get (hp 2 (by decide)) rfl
                  have c2 := HC2.out W hG
                  simp only [e2] at hK ⊢
                  rw [if_pos (by rfl)]
                  go_simp
                  exact hK _ W hG rfl (fun _ _ _ h => h)
                · rw [if_pos (by rfl)]
                  go_simp
                  exact hK _ W hG rfl (fun _ _ _ h => h)
                · have e3 := valsE_get (hp 3 (by decide)) rfl
                  have e4 := valsE_get (hp 4 (by decide)) rfl
                  simp only [e3, e4] at hK ⊢
                  rw [if_pos (by rfl)]
                  go_simp
                  exact hK _ W hG rfl (fun _ _ _ h => h)
                · have e5 := valsE_get (hp 5 (by decide)) rfl
                  have c3 := HC3.out W hG
                  simp only [e5] at hK ⊢
                  rw [if_pos (by rfl)]
                  go_simp
                  exact hK _ W hG rfl (fun _ _ _ h => h)
                · have e6 := valsE_get (hp 6 (by decide)) rfl
                  simp only [e6] at hK ⊢
                  rw [if_pos (by rfl)]
                  go_simp
                  exact hK _ W hG rfl (fun _ _ _ h => h)
                · have e7 := valsE_get (hp 7 (by decide)) rfl
                  simp only [e7] at hK ⊢
                  rw [if_pos (by rfl)]
                  go_simp
                  exact hK _ W hG rfl (fun _ _ _ h => h)
                · have e8 := valsE_get (hp 8 (by decide)) rfl
                  simp only [e8] at hK ⊢
                  rw [if_neg (by intro hh; exact absurd (show false = true from hh) (by decide))]
                  exact hK undef W hG rfl (fun _ _ _ h => h)
                · have e8 := valsE_get (hp 8 (by decide)) rfl
                  simp only [e8] at hK ⊢
                  rw [if_neg (by intro hh; exact absurd (show false = true from hh) (by decide))]
                  exact hK undef W hG rfl (fun _ _ _ h => h)
                · have e8 := valsE_get (hp 8 (by decide)) rfl
                  simp only [e8] at hK ⊢
                  rw [if_neg (by intro hh; exact absurd (show false = true from hh) (by decide))]
                  exact hK undef W hG rfl (fun _ _ _ h => h)
                · have e8 := valsE_get (hp 8 (by decide)) rfl
                  simp only [e8] at hK ⊢
                  rw [if_neg (by intro hh; exact absurd (show false = true from hh) (by decide))]
                  exact hK undef W hG rfl (fun _ _ _ h => h)
                · have e8 := valsE_get (hp 8 (by decide)) rfl
                  simp only [e8] at hK ⊢
                  rw [if_neg (by intro hh; exact absurd (show false = true from hh) (by decide))]
                  exact hK undef W hG rfl (fun _ _ _ h => h)
                · have e8 := valsE_get (hp 8 (by decide)) rfl
                  simp only [e8] at hK ⊢
                  rw [if_neg (by intro hh; exact absurd (show false = true from hh) (by decide))]
                  exact hK undef W hG rfl (fun _ _ _ h => h)
                · have e8 := valsE_get (hp 8 (by decide)) rfl
                  simp only [e8] at hK ⊢
                  rw [if_neg (by intro hh; exact absurd (show false = true from hh) (by decide))]
                  exact hK undef W hG rfl (fun _ _ _ h => h)
                · have e8 := valsE_get (hp 8 (by decide)) rfl
                  simp only [e8] at hK ⊢
                  rw [if_neg (by intro hh; exact absurd (show false = true from hh) (by decide))]
                  exact hK undef W hG rfl (fun _ _ _ h => h)
                · have e8 := valsE_get (hp 8 (by decide)) rfl
                  simp only [e8] at hK ⊢
                  rw [if_neg (by intro hh; exact absurd (show false = true from hh) (by decide))]
                  exact hK undef W hG rfl (fun _ _ _ h => h)
                · have e8 := valsE_get (hp 8 (by decide)) rfl
                  simp only [e8] at hK ⊢
                  rw [if_neg (by intro hh; exact absurd (show false = true from hh) (by decide))]
                  exact hK undef W hG rfl (fun _ _ _ h => h)
                · have e8 := valsE_get (hp 8 (by decide)) rfl
                  simp only [e8] at hK ⊢
                  rw [if_pos (by rfl)]
                  go_simp
                  exact hK _ W hG rfl (fun _ _ _ h => h)
              · have hz : (m.t.Z r c != -1) = true := by simp [hneg]
                have HNk := hide (fun (W : World) => isNode_any n (m.t.Z r c) W Hlo.out.1 Hlo.out.2)
                have Hst : Hid (strayB (m.t.Z r c) n.nodes = !(decide (0 ≤ m.t.Z r c) && decide (m.t.Z r c ≤ n.nodes - 1))) := hide (by
                  unfold strayB
                  rw [hz, Bool.true_and, show decide (m.t.Z r c < n.nodes) = decide (m.t.Z r c ≤ n.nodes - 1) from decide_eq_decide.2 (by omega)])
                generalize (decide (0 ≤ m.t.Z r c) && decide (m.t.Z r c ≤ n.nodes - 1)) = nd at *
                simp only [NetM.val, NetM.cells, Mat.val] at HNk
                clear hneg
                go_wp2_with fail
                rw [a1]
                have Ha1 := hide a1
                clear a1
                refine wp_region_only (fun W => Below W1.heap.size W1 W) (valsE [.slice (some ⟨m.gb, m.go, none⟩) m.t.len m.cap, .int .i64 r, .pointer (some ⟨m.gb, m.go + r, none⟩), .slice (some ⟨m.RB r, m.RO r, none⟩) m.t.len (m.C r), .int .i64 c, .pointer (some ⟨m.RB r, m.RO r + c, none⟩), .int .i64 (m.t.Z r c), .bool true, .bool true, n.val, .slice (some ⟨m.gb, m.go, none⟩) m.t.len m.cap, .int .i64 r, .pointer (some ⟨m.gb, m.go + r, none⟩), .slice (some ⟨m.RB r, m.RO r, none⟩) m.t.len (m.C r), .int .i64 c, .pointer (some ⟨m.RB r, m.RO r + c, none⟩), .int .i64 (m.t.Z r c), .bool nd, .bool (!nd), .bool (!nd)]) (by kernel_rfl) (by kernel_rfl) (by kernel_rfl) (below_drewN HD.out 1) ⟨?_, ?_, ?_, ?_, ?_, ?_, ?_, ?_, ?_, ?_, ?_, ?_, ?_, ?_, ?_, ?_, ?_, ?_, ?_, ?_, trivial⟩ ?_
                rotate_right
                · intro t W hG hE
                  have e19 := valsE_get (hE 19 (by decide)) rfl
                  have HG' := hide hG
                  clear hE hG
                  simp only [fill, Act.put, List.setIfInBounds_toArray, List.set_cons_zero, List.set_cons_succ, e19]
                  clear e19
                  cases nd with
                  | true =>
                    have Hn : Hid (∀ c', c' < c + 1 → strayB (m.t.Z r c') n.nodes = false) := hide (fun c' hc' => by
                      by_cases e : c' = c
                      · subst e; rw [Hst.out]; rfl
                      · exact Hrow.out c' (by omega))
                    clear Hst HNk
                    go_wp2
                    go_roundw
                    case rel =>
                      first
                      | exact ⟨c + 1, by omega, by go_num, Hn, HG'⟩
                      | ((try rw [← Ha1.out]); (repeat apply Exists.intro); refine ⟨?_, rfl⟩; exact ⟨c + 1, by omega, by go_num, Hn, HG'⟩)
                    case measure => simp [intOf]; omega
                  | false =>
                    have hs : m.t.stray n.nodes = true := m.t.stray_at hrl (show c < m.t.L r by omega) (by rw [Hst.out]; rfl)
                    have hfin : Hid (n.net.tabErr m.t = 5) := hide (by rw [Hd2.out, if_pos hs])
                    have HBf := hide (HB1.out.trans (HG'.out.mono HB1.out.size))
                    clear Hst HNk hs
                    go_wp2
                    go_ret
                    exact ⟨by rw [hfin.out]; rfl, HBf.out⟩
                all_goals intro t W hG hp K hK
                all_goals simp only [fill, Act.put, List.setIfInBounds_toArray, List.set_cons_zero, List.set_cons_succ] at hK ⊢
                · rw [if_pos (by rfl)]
                  go_simp
                  exact hK _ W hG rfl (fun _ _ _ h => h)
                · rw [if_pos (by rfl)]
                  go_simp
                  exact hK _ W hG rfl (fun _ _ _ h => h)
                · have e0 := valsE_get (hp 0 (by decide)) rfl
                  have e1 := valsE_get (hp 1 (by decide)) rfl
                  simp only [e0, e1] at hK ⊢
                  rw [if_pos (by rfl)]
                  go_simp
                  exact hK _ W hG rfl (fun _ _ _ h => h)
                · have e2 := valsE_get (hp 2 (by decide)) rfl
                  have c2 := HC2.out W hG
                  simp only [e2] at hK ⊢
                  rw [if_pos (by rfl)]
                  go_simp
                  exact hK _ W hG rfl (fun _ _ _ h => h)
                · rw [if_pos (by rfl)]
                  go_simp
                  exact hK _ W hG rfl (fun _ _ _ h => h)
                · have e3 := valsE_get (hp 3 (by decide)) rfl
                  have e4 := valsE_get (hp 4 (by decide)) rfl
                  simp only [e3, e4] at hK ⊢
                  rw [if_pos (by rfl)]
                  go_simp
                  exact hK _ W hG rfl (fun _ _ _ h => h)
                · have e5 := valsE_get (hp 5 (by decide)) rfl
                  have c3 := HC3.out W hG
                  simp only [e5] at hK ⊢
                  rw [if_pos (by rfl)]
                  go_simp
                  exact hK _ W hG rfl (fun _ _ _ h => h)
                · have e6 := valsE_get (hp 6 (by decide)) rfl
                  simp only [e6] at hK ⊢
                  rw [if_pos (by rfl)]
                  go_simp
                  exact hK _ W hG rfl (fun _ _ _ h => h)
                · have e7 := valsE_get (hp 7 (by decide)) rfl
                  simp only [e7] at hK ⊢
                  rw [if_pos (by rfl)]
                  go_simp
                  exact hK _ W hG rfl (fun _ _ _ h => h)
                · have e8 := valsE_get (hp 8 (by decide)) rfl
                  have bN := Hbn.out.below hG Hbn.out.lt
                  have x0 := bN.cell 0
                  have x1 := bN.cell 1
                  have x2 := bN.cell 2
                  have x3 := bN.cell 3
                  have x4 := bN.cell 4
                  simp [NetM.cells, Mat.val] at x0 x1 x2 x3 x4
                  simp only [e8] at hK ⊢
                  rw [if_pos (by rfl)]
                  go_simp
                  exact hK _ W hG rfl (fun _ _ _ h => h)
                · have e8 := valsE_get (hp 8 (by decide)) rfl
                  simp only [e8] at hK ⊢
                  rw [if_pos (by rfl)]
                  go_simp
                  exact hK _ W hG rfl (fun _ _ _ h => h)
                · have e8 := valsE_get (hp 8 (by decide)) rfl
                  simp only [e8] at hK ⊢
                  rw [if_pos (by rfl)]
                  go_simp
                  exact hK _ W hG rfl (fun _ _ _ h => h)
                · have e8 := valsE_get (hp 8 (by decide)) rfl
                  have e10 := valsE_get (hp 10 (by decide)) rfl
                  have e11 := valsE_get (hp 11 (by decide)) rfl
                  simp only [e8, e10, e11] at hK ⊢
                  rw [if_pos (by rfl)]
                  go_simp
                  exact hK _ W hG rfl (fun _ _ _ h => h)
                · have e8 := valsE_get (hp 8 (by decide)) rfl
                  have e12 := valsE_get (hp 12 (by decide)) rfl
                  have c2 := HC2.out W hG
                  simp only [e8, e12] at hK ⊢
                  rw [if_pos (by rfl)]
                  go_simp
                  exact hK _ W hG rfl (fun _ _ _ h => h)
                · have e8 := valsE_get (hp 8 (by decide)) rfl
                  simp only [e8] at hK ⊢
                  rw [if_pos (by rfl)]
                  go_simp
                  exact hK _ W hG rfl (fun _ _ _ h => h)
                · have e8 := valsE_get (hp 8 (by decide)) rfl
                  have e13 := valsE_get (hp 13 (by decide)) rfl
                  have e14 := valsE_get (hp 14 (by decide)) rfl
                  simp only [e8, e13, e14] at hK ⊢
                  rw [if_pos (by rfl)]
                  go_simp
                  exact hK _ W hG rfl (fun _ _ _ h => h)
                · have e8 := valsE_get (hp 8 (by decide)) rfl
                  have e15 := valsE_get (hp 15 (by decide)) rfl
                  have c3 := HC3.out W hG
                  simp only [e8, e15] at hK ⊢
                  rw [if_pos (by rfl)]
                  go_simp
                  exact hK _ W hG rfl (fun _ _ _ h => h)
                · have e8 := valsE_get (hp 8 (by decide)) rfl
                  have e9 := valsE_get (hp 9 (by decide)) rfl
                  have e16 := valsE_get (hp 16 (by decide)) rfl
                  simp only [NetM.val, NetM.cells, Mat.val] at e9
                  simp only [e8, e9, e16] at hK ⊢
                  rw [if_pos (by rfl)]
                  go_simp
                  go_at_call 55
                  refine (HNk.out W).mono ?_
                  rintro e W' ⟨rfl, rfl⟩
                  go_simp
                  exact hK _ _ (hG.alloc hG.size _) rfl (fun _ _ _ h => h)
                · have e8 := valsE_get (hp 8 (by decide)) rfl
                  have e17 := valsE_get (hp 17 (by decide)) rfl
                  simp only [e8, e17] at hK ⊢
                  rw [if_pos (by rfl)]
                  go_simp
                  exact hK _ W hG rfl (fun _ _ _ h => h)
                · have e8 := valsE_get (hp 8 (by decide)) rfl
                  have e18 := valsE_get (hp 18 (by decide)) rfl
                  simp only [e8, e18] at hK ⊢
                  rw [if_pos (by rfl)]
                  go_simp
                  exact hK _ W hG rfl (fun _ _ _ h => h)
            · have hci : (m.t.len : Int) ≤ (c : Int) := by omega
              have HAn : Hid (∀ r', r' < r + 1 → ∀ c, c < m.t.L r' → strayB (m.t.Z r' c) n.nodes = false) := hide (fun r' hr' => by
                by_cases e : r' = r
                · subst e; exact fun c' hc' => Hrow.out c' (by omega)
                · exact Hall.out r' (by omega))
              go_wp2
              go_roundw
              case rel =>
                first
                | exact ⟨r + 1, by omega, by go_num, HAn, HD⟩
                | ((repeat apply Exists.intro); refine ⟨?_, rfl⟩; exact ⟨r + 1, by omega, by go_num, HAn, HD⟩)
              case measure => simp [intOf]; omega
        · have hri : (m.t.len : Int) ≤ (r : Int) := by omega
          have hro : m.t.stray n.nodes = false := m.t.stray_no (fun r' hr' => Hall.out r' (by omega))
          have hfin : Hid (n.net.tabErr m.t = 0) := hide (by rw [Hd2.out, hro]; rfl)
          have HBf := hide (HB1.out.trans (HD.out.mono HB1.out.size))
          clear hro
          go_wp2
          go_ret
          exact ⟨by rw [hfin.out]; rfl, HBf.out⟩

end Go.Proofs.Ytjhkadffaephmab
