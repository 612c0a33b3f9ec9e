/-
  Our own texts, bundled: a claim holds few files.
-/
import Derived.Test.YtjhkadffaephmaaBundleCA
import Derived.Test.YtjhkadffaephmaaBundleBF
import Derived.Test.YtjhkadffaephmaaBundleAJ
import Derived.Test.YtjhkadffaephmaaBundleBG
/-
  async.usesOlder, pastOlder, allActive, cycle, Cycles.
-/
namespace Go.Proofs.Ytjhkadffaephmaa
set_option maxRecDepth 100000
open Go.RowKit

/-- Does a link use anything older? -/
def linkOld (n : Net) (act : Nat → Bool) (ages : Tab) (k since l : Nat) : Bool := act (n.F l).toNat && decide (((k : Int) + 1 - ages.Z (n.F l).toNat (n.T l).toNat).toNat < since)
def usesL (n : Net) (act : Nat → Bool) (ages : Tab) (k since : Nat) : Bool := (List.range n.ln).any fun l => linkOld n act ages k since l

theorem usesL_eq {n : Net} {s : Sched} (hck : n.check = 0) (k since : Nat) : usesL n (s.act k) (s.ages k) k since = n.uses s k since := by
  have g := Net.good_of_check hck
  rw [Bool.eq_iff_iff, Net.uses_iff]
  unfold usesL
  rw [List.any_eq_true]
  constructor
  · rintro ⟨l, hl, hx⟩
    simp only [List.mem_range] at hl
    simp only [linkOld, Bool.and_eq_true, decide_eq_true_eq] at hx
    obtain ⟨f0, f1, t0, t1, e0, e1⟩ := g.link l hl
    refine ⟨(n.F l).toNat, by unfold Net.N; omega, (n.T l).toNat, by unfold Net.N; omega, hx.1, ?_, hx.2⟩
    rw [show (((n.F l).toNat : Nat) : Int) = n.F l by omega, show (((n.T l).toNat : Nat) : Int) = n.T l by omega, n.edge_link hck hl]
    exact e0
  · rintro ⟨i, hi, q, hq, hact, hed, hu⟩
    obtain ⟨l, hl, e1, e2, _⟩ := n.link_edge hed
    refine ⟨l, by simpa using hl, ?_⟩
    simp only [linkOld, Bool.and_eq_true, decide_eq_true_eq]
    rw [e1, e2]
    simp only [Int.toNat_natCast]
    exact ⟨hact, hu⟩

/-- A turn that is right. -/
structure TurnM.Ok (t : TurnM) (N : Nat) : Prop where
  an : t.an = N
  len : t.ages.t.len = N
  wide : ∀ i, i < N → t.ages.t.L i = N
  age : ∀ i, i < N → ∀ j, j < N → 1 ≤ t.ages.t.Z i j ∧ t.ages.t.Z i j ≤ 20
theorem Net.Plays.ok {n : Net} {s : SchedM} (h : n.Plays s.sched) {k : Nat} (hk : k < s.tn) : (s.turn k).Ok n.N := ⟨h.al k hk, h.rows k hk, h.wide k hk, h.age k hk⟩

set_option maxHeartbeats 4000000 in
theorem usesOlder_any (n : NetM) (t : TurnM) (k since : Nat) (w : World) (h : n.In w.heap.size w) (ht : t.In w.heap.size w) (hck : n.net.check = 0) (hok : t.Ok n.net.N) (hk : k ≤ 1000) :
    Calls Try.prog 140 #[n.val, t.val, .int .i64 k, .int .i64 since] w fun e w' => e = .returned (.bool (usesL n.net t.act t.ages.t k since)) ∧ Below w.heap.size w w' := by
  have hlen := h.len
  unfold maxLen at hlen
  have g := Net.good_of_check hck
  have G := hide g
  have H := hide h
  have HT := hide ht
  have HO := hide hok
  obtain ⟨W0, hW0⟩ : ∃ W0, W0 = (w.alloc (.cells n.cells 50)).alloc (.cells t.cells 123) := ⟨_, rfl⟩
  have hB0 : Below w.heap.size w W0 := by rw [hW0]; exact ((Below.refl _ w).alloc (Nat.le_refl _) _).alloc (by simp) _
  have bN0 : Blk W0 w.heap.size n.cells 50 := by rw [hW0]; exact (Blk.new w _ _).alloc _
  have bT0 : Blk W0 (w.heap.size + 1) t.cells 123 := by rw [hW0]; exact Blk.new' (by simp)
  clear h ht hck g hok
  simp only [NetM.val, NetM.cells, Mat.val, TurnM.val, TurnM.cells] at *
  have x4 := bN0.cell 4
  simp at x4
  have hx4 : ((w.alloc (.cells #[.int .i64 n.a.size, .slice n.a.B.ga n.a.B.t.len n.a.B.cap, .slice n.a.E.ga n.a.E.t.len n.a.E.cap, .int .i64 n.nodes, .slice n.la n.ln n.lc] 50)).alloc (.cells #[.slice t.ag t.an t.ac, .slice t.ages.ga t.ages.t.len t.ages.cap] 123)).cell? ⟨w.heap.size, 4, none⟩ = some (.slice n.la n.ln n.lc) := by rw [← hW0]; exact x4
  have HB0 := hide hB0
  clear hB0
  go_enter Try.func140, Try.ntmps140
  go_wp2_with fail
  rw [← hW0]
  clear hx4 hW0
  go_loopw [10, 14] (fun _ q wr => ∃ l : Nat, l ≤ n.ln ∧ q = .int .i64 l ∧ Hid (∀ j, j < l → linkOld n.net t.act t.ages.t k since j = false) ∧ Hid (Below W0.heap.size W0 wr)) (fun _ q _ => n.ln - (intOf q).toNat)
  case atStart => exact ⟨0, Nat.zero_le _, rfl, hide fun r hr => absurd hr (Nat.not_lt_zero _), hide (Below.refl _ _)⟩
  case round =>
    obtain ⟨l, hl, rfl, Hall, HB⟩ := hrel
    have hBw := HB0.out.trans (HB.out.mono HB0.out.size)
    by_cases hlt : l < n.ln
    · have hla := H.out.la (by omega)
      have hli : (l : Int) < (n.ln : Int) := by omega
      have hI := H.out.below hBw (Nat.le_refl _)
      obtain ⟨g1, g2, g3, g4, _, _⟩ := G.out.link l hlt
      have eF : n.net.F l = n.F l := rfl
      have eT : n.net.T l = n.T l := rfl
      have eN : n.net.nodes = n.nodes := rfl
      have eNN : n.net.N = n.net.nodes.toNat := rfl
      obtain ⟨kf, hkf⟩ : ∃ kf : Nat, n.F l = kf := ⟨(n.F l).toNat, by omega⟩
      obtain ⟨kt, hkt⟩ : ∃ kt : Nat, n.T l = kt := ⟨(n.T l).toNat, by omega⟩
      have hkfN : kf < n.net.N := by omega
      have hktN : kt < n.net.N := by omega
      have c0 := hI.f l hlt
      have c1 := hI.t l hlt
      have c2 := hI.e l hlt
      rw [hkf] at c0
      rw [hkt] at c1
      have HBa := hide (HB.out.alloc HB.out.size (.cells #[.int .i64 kf, .int .i64 kt, .int .i64 (n.E l)] 110))
      have HBwa := hide (hBw.alloc hBw.size (.cells #[.int .i64 kf, .int .i64 kt, .int .i64 (n.E l)] 110))
      have bT : ∀ o q, Blk ((wr.alloc o).drewN q) (w.heap.size + 1) #[.slice t.ag t.an t.ac, .slice t.ages.ga t.ages.t.len t.ages.cap] 123 := fun o q => ((bT0.below HB.out bT0.lt).alloc o).drewN q
      have y0 : ∀ o q, ((wr.alloc o).drewN q).cell? ⟨w.heap.size + 1, 0, none⟩ = some (.slice t.ag t.an t.ac) := fun o q => (bT o q).cell 0
      have y1 : ∀ o q, ((wr.alloc o).drewN q).cell? ⟨w.heap.size + 1, 1, none⟩ = some (.slice t.ages.ga t.ages.t.len t.ages.cap) := fun o q => (bT o q).cell 1
      have y0' : ∀ o, (wr.alloc o).cell? ⟨w.heap.size + 1, 0, none⟩ = some (.slice t.ag t.an t.ac) := fun o => (bT o 0).cell 0
      have y1' : ∀ o, (wr.alloc o).cell? ⟨w.heap.size + 1, 1, none⟩ = some (.slice t.ages.ga t.ages.t.len t.ages.cap) := fun o => (bT o 0).cell 1
      have hTa := HT.out.below HBwa.out (Nat.le_refl _)
      have haa := HT.out.aa (by rw [HO.out.an]; omega)
      have hac := hTa.cell kf (by rw [HO.out.an]; exact hkfN)
      have hai : (kf : Int) < (t.an : Int) := by have := HO.out.an; omega
      obtain ⟨a1, a2, a3⟩ := hTa.ages.at (show kf < t.ages.t.len by rw [HO.out.len]; exact hkfN) (show kt < t.ages.t.L kf by rw [HO.out.wide kf hkfN]; exact hktN)
      have hri : (kf : Int) < (t.ages.t.len : Int) := by have := HO.out.len; omega
      have hci : (kt : Int) < (t.ages.t.L kf : Int) := by have := HO.out.wide kf hkfN; omega
      have hage := HO.out.age kf hkfN kt hktN
      have HU := hide (fun W => used_any k (t.ages.t.Z kf kt) W hk hage.1 hage.2)
      have Hold : Hid (linkOld n.net t.act t.ages.t k since l = (t.act kf && decide (((k : Int) + 1 - t.ages.t.Z kf kt).toNat < since))) := hide (by
        unfold linkOld
        rw [eF, eT, hkf, hkt]
        simp only [Int.toNat_natCast])
      clear hI hTa hBw bT
      cases hac' : t.act kf with
      | false =>
        rw [hac'] at hac
        have Hn : Hid (∀ j, j < l + 1 → linkOld n.net t.act t.ages.t k since j = false) := hide (fun j hj => by
          by_cases e : j = l
          · subst e; rw [Hold.out, hac']; rfl
          · exact Hall.out j (by omega))
        clear hac'
        go_wp2_with fail
        go_quiet ((go_at_call 125; exact Calls.quiet_of (HU.out _)))
        go_wp2
        go_roundw
        case rel =>
          first
          | exact ⟨l + 1, by omega, by go_num, Hn, hide (below_drewN HBa.out _)⟩
          | ((try rw [← hla]); (try rw [← haa]); (try rw [← a1]); (repeat apply Exists.intro); refine ⟨?_, rfl⟩; exact ⟨l + 1, by omega, by go_num, Hn, hide (below_drewN HBa.out _)⟩)
        case measure => simp [intOf]; omega
      | true =>
        rw [hac'] at hac
        generalize hus : ((k : Int) + 1 - t.ages.t.Z kf kt).toNat = us at *
        by_cases hlo : us < since
        · have hlo' : (us : Int) < (since : Int) := by omega
          have hfin : Hid (usesL n.net t.act t.ages.t k since = true) := hide (by
            unfold usesL
            rw [List.any_eq_true]
            exact ⟨l, List.mem_range.2 hlt, by rw [Hold.out, hac']; simp [hlo]⟩)
          clear hac' hlo hus
          go_wp2_with fail
          go_quiet ((go_at_call 125; exact Calls.quiet_of (HU.out _)))
          go_wp2
          go_ret
          exact ⟨by rw [hfin.out]; rfl, below_drewN HBwa.out _⟩
        · have hlo' : (since : Int) ≤ (us : Int) := by omega
          have Hn : Hid (∀ j, j < l + 1 → linkOld n.net t.act t.ages.t k since j = false) := hide (fun j hj => by
            by_cases e : j = l
            · subst e; rw [Hold.out, hac']; simp [hlo]
            · exact Hall.out j (by omega))
          clear hac' hlo hus
          go_wp2_with fail
          go_quiet ((go_at_call 125; exact Calls.quiet_of (HU.out _)))
          go_wp2
          go_roundw
          case rel =>
            first
            | exact ⟨l + 1, by omega, by go_num, Hn, hide (below_drewN HBa.out _)⟩
            | ((try rw [← hla]); (try rw [← haa]); (try rw [← a1]); (repeat apply Exists.intro); refine ⟨?_, rfl⟩; exact ⟨l + 1, by omega, by go_num, Hn, hide (below_drewN HBa.out _)⟩)
          case measure => simp [intOf]; omega
    · have hli : (n.ln : Int) ≤ (l : Int) := by omega
      have hfin : Hid (usesL n.net t.act t.ages.t k since = false) := hide (by
        unfold usesL
        rw [List.any_eq_false]
        intro j hj
        simp only [List.mem_range] at hj
        have hj' : j < n.ln := hj
        rw [Hall.out j (by omega)]
        simp)
      have HBf := hide hBw
      clear hBw
      go_wp2
      go_ret
      exact ⟨by rw [hfin.out]; rfl, HBf.out⟩

theorem Net.past_start {n : Net} {s : Sched} {since : Nat} : ∀ k, k ≤ since → n.past s since k = since := by
  intro k
  induction k with
  | zero => intro _; rfl
  | succ k ih =>
    intro hk
    unfold Net.past
    rw [if_neg (by omega)]
    exact ih (by omega)

/-- What stands all through pastOlder's region. -/
structure PastG (w W0 : World) (n : NetM) (s : SchedM) (W : World) : Prop where
  below : Below W0.heap.size W0 W
theorem PastG.keep {w W0 : World} {n : NetM} {s : SchedM} {W W' : World} (h : PastG w W0 n s W) (hb : Below W.heap.size W W') : PastG w W0 n s W' := ⟨h.below.trans (hb.mono h.below.size)⟩

set_option maxHeartbeats 4000000 in
theorem pastOlder_any (n : NetM) (s : SchedM) (since : Nat) (w : World) (h : n.In w.heap.size w) (hs : s.In w.heap.size w) (hp : n.net.Plays s.sched) (hsi : since ≤ s.tn) :
    Calls Try.prog 127 #[n.val, s.val, .int .i64 since] w fun e w' => e = .returned (.int .i64 ((n.net.past s.sched since s.tn : Nat) : Int)) ∧ Below w.heap.size w w' := by
  have htn : s.tn ≤ 200 := hp.many
  have b0 := Blk.new w n.cells 50
  have HU := hide (fun (k : Nat) (hk : k < s.tn) W (hb : Below w.heap.size w W) => usesOlder_any n (s.turn k) k since W (h.grown hb) ((hs.each k hk).below hb (Nat.le_refl _) |>.mono hb.size) hp.net (hp.ok hk) (by omega))
  have HEq := hide (fun (k : Nat) => usesL_eq (n := n.net) (s := s.sched) hp.net k since)
  have HS := hide hs
  have HSt := hide (fun k hk => Net.past_start (n := n.net) (s := s.sched) (since := since) k hk)
  have HSc : Hid (∀ k, since ≤ k → n.net.past s.sched since (k + 1) = if n.net.uses s.sched k since = true then k + 1 else n.net.past s.sched since k) := hide (fun k hk => by
    rw [Net.past]
    by_cases e : n.net.uses s.sched k since = true
    · rw [if_pos ⟨hk, e⟩, if_pos e]
    · rw [if_neg (fun hh => e hh.2), if_neg e])
  have HLe := hide (fun k => (n.net.past_spec (s := s.sched) (since := since) k).2.1)
  clear h hs hp
  simp only [NetM.val, NetM.cells, Mat.val, SchedM.val, TurnM.val, TurnM.cells] at HU b0 ⊢
  obtain ⟨W0, hW0⟩ : ∃ W0, W0 = w.alloc (.cells #[.int .i64 n.a.size, .slice n.a.B.ga n.a.B.t.len n.a.B.cap, .slice n.a.E.ga n.a.E.t.len n.a.E.cap, .int .i64 n.nodes, .slice n.la n.ln n.lc] 50) := ⟨_, rfl⟩
  have B0 : Hid (Below w.heap.size w W0) := hide (by rw [hW0]; exact (Below.refl _ w).alloc (Nat.le_refl _) _)
  rw [← hW0] at b0
  go_enter Try.func127, Try.ntmps127
  go_wp2_with fail
  rw [← hW0]
  clear hW0
  go_loopw [7, 8] (fun e q wr => ∃ k : Nat, since ≤ k ∧ k ≤ s.tn ∧ q = .int .i64 k ∧ e = .int .i64 ((n.net.past s.sched since k : Nat) : Int) ∧ Hid (Below W0.heap.size W0 wr)) (fun _ q _ => s.tn - (intOf q).toNat)
  case atStart => exact ⟨since, Nat.le_refl _, hsi, rfl, by rw [HSt.out since (Nat.le_refl _)], hide (Below.refl _ _)⟩
  case round =>
    obtain ⟨k, hk0, hk, rfl, rfl, HB⟩ := hrel
    by_cases hlt : k < s.tn
    · have hki : (k : Int) < (s.tn : Int) := by omega
      have Hta := hide (HS.out.ta (by omega))
      have HG0 : Hid (PastG w W0 n s wr) := hide ⟨HB.out⟩
      have Hv := hide (HEq.out k)
      have Hnx := hide (HSc.out k hk0)
      generalize hpk : n.net.past s.sched since k = pk at *
      generalize hpk1 : n.net.past s.sched since (k + 1) = pk1 at *
      go_wp2_with fail
      refine wp_region_last 7 _ (PastG w W0 n s)
        (valsE [.agg #[.int .i64 n.a.size, .slice n.a.B.ga n.a.B.t.len n.a.B.cap, .slice n.a.E.ga n.a.E.t.len n.a.E.cap, .int .i64 n.nodes, .slice n.la n.ln n.lc], .slice s.ta s.tn s.tc, .int .i64 k, .pointer (some ⟨s.tb, s.off + k * 2, none⟩), .agg #[.slice (s.turn k).ag (s.turn k).an (s.turn k).ac, .slice (s.turn k).ages.ga (s.turn k).ages.t.len (s.turn k).ages.cap], .int .i64 k, .int .i64 since])
        (fun v W => v = .bool (usesL n.net (s.turn k).act (s.turn k).ages.t k since) ∧ PastG w W0 n s W) (fun _ _ _ => True) (by kernel_rfl) (by kernel_rfl) (by kernel_rfl) (by kernel_rfl) (by kernel_rfl) rfl (HG0.out.keep ⟨rfl, rfl, rfl, Nat.le_refl _, fun _ _ => rfl⟩) ⟨?_, ?_, ?_, ?_, ?_, ?_, ?_, trivial⟩ ?_ trivial ?_
      rotate_right
      · intro t W hG _
        obtain ⟨e7, hG2⟩ := hG
        have HB2 := hide hG2.below
        have e8 : t 7 = .bool (n.net.uses s.sched k since) := by rw [e7]; exact congrArg Value.bool Hv.out
        simp only [fill, Act.put, List.setIfInBounds_toArray, List.set_cons_zero, List.set_cons_succ, e8]
        clear e7 hG2 HG0 HB
        cases hu : n.net.uses s.sched k since with
        | true =>
          have hp1 : pk1 = k + 1 := by rw [Hnx.out, if_pos hu]
          have Hp1 := hide hp1
          clear hu hp1
          go_wp2
          go_roundw
          case rel =>
            first
            | exact ⟨k + 1, by omega, by omega, by go_num, by rw [hpk1, Hp1.out]; rfl, HB2⟩
            | ((repeat apply Exists.intro); refine ⟨?_, rfl⟩; exact ⟨k + 1, by omega, by omega, by go_num, by rw [hpk1, Hp1.out]; go_num, HB2⟩)
          case measure => simp [intOf]; omega
        | false =>
          have hp1 : pk1 = pk := by rw [Hnx.out, if_neg (by simp [hu])]
          have Hp1 := hide hp1
          clear hu hp1
          go_wp2
          go_roundw
          case rel =>
            first
            | exact ⟨k + 1, by omega, by omega, by go_num, by rw [hpk1, Hp1.out], HB2⟩
            | ((repeat apply Exists.intro); refine ⟨?_, rfl⟩; exact ⟨k + 1, by omega, by omega, by go_num, by rw [hpk1, Hp1.out], HB2⟩)
          case measure => simp [intOf]; omega
      rotate_right
      · intro t W hG hE ht K hK
        clear ht
        have e0 := valsE_get (hE 0 (by omega)) rfl
        have e4 := valsE_get (hE 4 (by omega)) rfl
        have e5 := valsE_get (hE 5 (by omega)) rfl
        have e6 := valsE_get (hE 6 (by omega)) rfl
        simp only [fill, Act.put, List.setIfInBounds_toArray, List.set_cons_zero, List.set_cons_succ, e0, e4, e5, e6] at hK ⊢
        rw [if_pos (by rfl)]
        go_simp
        go_at_call 140
        refine (HU.out k hlt W (B0.out.trans (hG.below.mono B0.out.size))).mono ?_
        rintro e W' ⟨rfl, hb⟩
        go_simp
        exact hK _ W' ⟨rfl, hG.keep hb⟩
      all_goals intro t W hG hp ht K hK
      all_goals clear ht
      all_goals simp only [fill, Act.put, List.setIfInBounds_toArray, List.set_cons_zero, List.set_cons_succ] at hK ⊢
      all_goals rw [if_pos (by rfl)]
      · have bN := b0.below hG.below b0.lt
        have x0 := bN.cell 0
        have x1 := bN.cell 1
        have x2 := bN.cell 2
        have x3 := bN.cell 3
        have x4 := bN.cell 4
        simp at x0 x1 x2 x3 x4
        go_simp
        exact hK _ W hG rfl (fun _ _ _ h => h)
      · go_simp
        exact hK _ W hG rfl (fun _ _ _ h => h)
      · go_simp
        exact hK _ W hG rfl (fun _ _ _ h => h)
      · have e1 := valsE_get (hp 1 (by decide)) rfl
        have e2 := valsE_get (hp 2 (by decide)) rfl
        have hta := Hta.out
        simp only [e1, e2, hta] at hK ⊢
        go_simp
        exact hK _ W hG rfl (fun _ _ _ h => h)
      · have e3 := valsE_get (hp 3 (by decide)) rfl
        have hI := HS.out.below (B0.out.trans (hG.below.mono B0.out.size)) (Nat.le_refl _)
        have c0 := hI.c0 k hlt
        have c1 := hI.c1 k hlt
        rw [Mat.val] at c1
        simp only [e3] at hK ⊢
        go_simp
        exact hK _ W hG rfl (fun _ _ _ h => h)
      · go_simp
        exact hK _ W hG rfl (fun _ _ _ h => h)
      · go_simp
        exact hK _ W hG rfl (fun _ _ _ h => h)
    · have hkn : k = s.tn := by omega
      have hki : (s.tn : Int) ≤ (k : Int) := by omega
      have HBf := hide (B0.out.trans (HB.out.mono B0.out.size))
      have Hf : Hid (n.net.past s.sched since s.tn = n.net.past s.sched since k) := hide (by rw [hkn])
      clear hkn
      go_wp2
      go_ret
      exact ⟨by rw [Hf.out]; rfl, HBf.out⟩

end Go.Proofs.Ytjhkadffaephmaa

/-
  async.allActive, cycle, Cycles.
-/
namespace Go.Proofs.Ytjhkadffaephmaa
set_option maxRecDepth 100000
open Go.RowKit

/-- The map of those nodes of which p holds. -/
def ActAt (N : Nat) (p : Nat → Bool) (bound : Int) (b : Nat) (W : World) : Prop :=
  ∃ (ks : List Value) (cnt : Value → Int) (es : Array MapEntry) (clock : Nat), CntAt 3 ks cnt b W es clock ∧ (∀ u, u ∈ ks ↔ ∃ i, i < N ∧ u = .int .i64 (i : Int) ∧ p i = true) ∧ ∀ v, 0 ≤ cnt v ∧ cnt v ≤ bound

theorem ActAt.keep {N : Nat} {p : Nat → Bool} {bound : Int} {b : Nat} {W W' : World} (h : ActAt N p bound b W) (e : W'.heap[b]? = W.heap[b]?) : ActAt N p bound b W' := by
  obtain ⟨ks, cnt, es, clock, h1, h2, h3⟩ := h
  exact ⟨ks, cnt, es, clock, h1.keep e, h2, h3⟩
theorem ActAt.congr {N : Nat} {p q : Nat → Bool} {bound bound' : Int} {b : Nat} {W : World} (h : ActAt N p bound b W) (e : ∀ i, i < N → p i = q i) (hb : bound ≤ bound') : ActAt N q bound' b W := by
  obtain ⟨ks, cnt, es, clock, h1, h2, h3⟩ := h
  refine ⟨ks, cnt, es, clock, h1, fun u => ?_, fun v => ⟨(h3 v).1, by have := (h3 v).2; omega⟩⟩
  rw [h2]
  constructor
  · rintro ⟨i, hi, rfl, hp⟩; exact ⟨i, hi, rfl, by rw [← e i hi]; exact hp⟩
  · rintro ⟨i, hi, rfl, hp⟩; exact ⟨i, hi, rfl, by rw [e i hi]; exact hp⟩

theorem Sched.met_succ {s : Sched} {i f k : Nat} (hk : f ≤ k) : s.met i f (k + 1) = (s.met i f k || s.act k i) := by
  rw [Bool.eq_iff_iff, Bool.or_eq_true, Sched.met_iff, Sched.met_iff]
  constructor
  · rintro ⟨j, h1, h2, h3⟩
    by_cases e : j = k
    · subst e; exact Or.inr h3
    · exact Or.inl ⟨j, h1, by omega, h3⟩
  · rintro (⟨j, h1, h2, h3⟩ | h)
    · exact ⟨j, h1, by omega, h3⟩
    · exact ⟨k, hk, by omega, h⟩

/-- What allActive answers. -/
def endAns : Option Nat → Value
  | some e => .tuple #[.int .i64 (e : Int), .bool true]
  | none => .tuple #[.int .i64 0, .bool false]

set_option maxHeartbeats 4000000 in
theorem allActive_any (n : NetM) (s : SchedM) (f : Nat) (w : World) (hs : s.In w.heap.size w) (hp : n.net.Plays s.sched) (hf : f ≤ s.tn) :
    Calls Try.prog 126 #[n.val, s.val, .int .i64 f] w fun e w' => e = .returned (endAns (n.net.allEnd s.sched f)) ∧ Below w.heap.size w w' := by
  have htn : s.tn ≤ 200 := hp.many
  have g := Net.good_of_check hp.net
  have lo := g.lo
  have hi6 := g.hi
  obtain ⟨N, hN⟩ : ∃ N : Nat, n.nodes = N := ⟨n.nodes.toNat, by have : n.net.nodes = n.nodes := rfl; omega⟩
  have hNN : n.net.N = N := by show n.nodes.toNat = N; omega
  have hN6 : N ≤ 6 := by have : n.net.nodes = n.nodes := rfl; omega
  have hN1 : 0 < N := by have : n.net.nodes = n.nodes := rfl; omega
  have HAn : Hid (∀ k, k < s.tn → (s.turn k).an = N) := hide (fun k hk => by rw [← hNN]; exact hp.al k hk)
  have HS := hide hs
  have hmm := @run_makeMap Try.prog
  have Hsome : Hid (∀ e, f < e → e ≤ s.tn → n.net.allMet s.sched f e = true → (∀ d, f < d → d < e → n.net.allMet s.sched f d = false) → n.net.allEnd s.sched f = some e) := hide (fun e h1 h2 h3 h4 => Net.allEnd_of h1 h2 h3 h4)
  have Hnone : Hid ((∀ d, f < d → d ≤ s.tn → n.net.allMet s.sched f d = false) → n.net.allEnd s.sched f = none) := hide (fun h => Net.allEnd_none h)
  have HMet : Hid (∀ d, n.net.allMet s.sched f d = true ↔ ∀ i, i < N → s.sched.met i f d = true) := hide (fun d => by rw [Net.allMet_iff, hNN])
  have hval : n.val = .agg #[.int .i64 n.a.size, .slice n.a.B.ga n.a.B.t.len n.a.B.cap, .slice n.a.E.ga n.a.E.t.len n.a.E.cap, .int .i64 N, .slice n.la n.ln n.lc] := by simp only [NetM.val, NetM.cells, Mat.val, hN]
  simp only [SchedM.val]
  rw [hval]
  obtain ⟨W0, hW0⟩ : ∃ W0, W0 = w.alloc (.cells #[.int .i64 n.a.size, .slice n.a.B.ga n.a.B.t.len n.a.B.cap, .slice n.a.E.ga n.a.E.t.len n.a.E.cap, .int .i64 N, .slice n.la n.ln n.lc] 50) := ⟨_, rfl⟩
  have B0 : Hid (Below w.heap.size w W0) := hide (by rw [hW0]; exact (Below.refl _ w).alloc (Nat.le_refl _) _)
  have b0 : Blk W0 w.heap.size #[.int .i64 n.a.size, .slice n.a.B.ga n.a.B.t.len n.a.B.cap, .slice n.a.E.ga n.a.E.t.len n.a.E.cap, .int .i64 N, .slice n.la n.ln n.lc] 50 := by rw [hW0]; exact Blk.new w _ _
  have hsz : W0.heap.size = w.heap.size + 1 := by rw [hW0]; simp
  have HM0 : Hid (ActAt N (fun i => s.sched.met i f f) 0 (w.heap.size + 1) (W0.alloc (.map #[] 0))) := hide (by
    refine ⟨[], fun _ => 0, #[], 0, ?_, fun u => ?_, fun _ => ⟨Int.le_refl _, Int.le_refl _⟩⟩
    · have := CntAt.made W0 3
      rw [hsz] at this
      exact this
    · constructor
      · intro h; cases h
      · rintro ⟨i, _, _, h⟩
        obtain ⟨k, h1, h2, _⟩ := Sched.met_iff.1 h
        omega)
  have HBm : Hid (Below (w.heap.size + 1) W0 (W0.alloc (.map #[] 0))) := hide ((Below.refl _ _).alloc (by omega) _)
  clear hN hval hp hs g lo hi6 hNN
  go_enter Try.func126, Try.ntmps126
  go_wp2_with fail
  rw [← hW0]
  clear hW0
  go_loopw [9, 10, 11] (fun q _ _ wr => ∃ k : Nat, f ≤ k ∧ k ≤ s.tn ∧ q = .int .i64 k ∧ Hid (ActAt N (fun i => s.sched.met i f k) (6 * k) (w.heap.size + 1) wr) ∧ Hid (Below (w.heap.size + 1) W0 wr) ∧ Hid (∀ d, f < d → d ≤ k → n.net.allMet s.sched f d = false)) (fun q _ _ _ => s.tn - (intOf q).toNat)
  case atStart => exact ⟨f, Nat.le_refl _, hf, rfl, hide (HM0.out.congr (fun _ _ => rfl) (by omega)), HBm, hide (fun d h1 h2 => by omega)⟩
  case round =>
    obtain ⟨k, hk0, hk, rfl, HM, HB, HNo⟩ := hrel
    clear HM0 HBm
    by_cases hlt : k < s.tn
    · have hki : (k : Int) < (s.tn : Int) := by omega
      have hta := HS.out.ta (by omega)
      have hBw : Below w.heap.size w wr := B0.out.trans (HB.out.mono (by omega))
      have hI := HS.out.below hBw (Nat.le_refl _)
      have c0 := hI.c0 k hlt
      have han := HAn.out k hlt
      rw [han] at c0
      have haa := (HS.out.each k hlt).aa (by omega)
      rw [haa] at c0
      have HTn := hide (HS.out.each k hlt)
      have HM1 : Hid (ActAt N (fun i => s.sched.met i f k || (decide (i < 0) && s.sched.act k i)) (6 * k + (0 : Nat)) (w.heap.size + 1) wr) := hide (HM.out.congr (fun i _ => by simp) (by omega))
      clear hI hBw
      obtain ⟨wk, hwk⟩ : ∃ wk, wk = wr := ⟨_, rfl⟩
      have HMk : Hid (ActAt N (fun i => s.sched.met i f k || (decide (i < 0) && s.sched.act k i)) (6 * k + (0 : Nat)) (w.heap.size + 1) wk) := by rw [hwk]; exact HM1
      have HBk : Hid (Below (w.heap.size + 1) W0 wk) := by rw [hwk]; exact HB
      go_wp2_with fail
      rw [← hwk]
      clear hwk HM1 HB HM
      go_loopw [10, 11, 26] (fun _ _ q wr => ∃ i : Nat, i ≤ N ∧ q = .int .i64 i ∧ Hid (ActAt N (fun r => s.sched.met r f k || (decide (r < i) && s.sched.act k r)) (6 * k + (i : Nat)) (w.heap.size + 1) wr) ∧ Hid (Below (w.heap.size + 1) W0 wr)) (fun _ _ q _ => N - (intOf q).toNat)
      case atStart => exact ⟨0, Nat.zero_le _, rfl, HMk, HBk⟩
      case round =>
        obtain ⟨i, hi, rfl, HM, HB⟩ := hrel
        clear HMk HBk
        by_cases hil : i < N
        · have hii : (i : Int) < (N : Int) := by omega
          have hBw : Below w.heap.size w wr := B0.out.trans (HB.out.mono (by omega))
          have hac := (HTn.out.below hBw (Nat.le_refl _)).cell i (by rw [han]; exact hil)
          obtain ⟨ks, cnt, es, clock, hC, hks, hcn⟩ := HM.out
          have hk9 := keyInt (l := (i : Int)) (WalkArith.wf_i64 (by omega))
          have hlook := hC.look law3 Try.underlying163 hk9
          have hcb := hcn (.int .i64 (i : Int))
          obtain ⟨ks', es2, clock2, hupd, hadd, hnew⟩ := hC.update law3 Try.underlying163 hk9 (cnt (.int .i64 (i : Int)) + 1)
          generalize hcv : cnt (.int .i64 (i : Int)) = cv at *
          obtain ⟨hc0, hc1⟩ := hcb
          have hc2 : cv ≤ 10000 := by omega
          clear hBw
          cases hact : (s.turn k).act i with
          | true =>
            rw [hact] at hac
            have HMn : Hid (ActAt N (fun r => s.sched.met r f k || (decide (r < i + 1) && s.sched.act k r)) (6 * k + ((i + 1 : Nat) : Nat)) (w.heap.size + 1) (ChangeMaps.setBlock wr (w.heap.size + 1) (.map es2 clock2))) := hide (by
              classical
              refine ⟨ks', fun u => if u = .int .i64 (i : Int) then cv + 1 else cnt u, es2, clock2, hnew _ (fun u hu => by simp [hu]) (by simp), fun u => ?_, fun v => ?_⟩
              · rw [hadd.mem u, hks u]
                constructor
                · rintro (⟨r, h1, h2, h3⟩ | rfl)
                  · refine ⟨r, h1, h2, ?_⟩
                    simp only [Bool.or_eq_true, Bool.and_eq_true, decide_eq_true_eq] at h3 ⊢
                    rcases h3 with h3 | ⟨h3, h4⟩
                    · exact Or.inl h3
                    · exact Or.inr ⟨by omega, h4⟩
                  · exact ⟨i, hil, rfl, by simp; exact Or.inr hact⟩
                · rintro ⟨r, h1, rfl, h3⟩
                  by_cases e : r = i
                  · subst e; exact Or.inr rfl
                  · left
                    refine ⟨r, h1, rfl, ?_⟩
                    simp only [Bool.or_eq_true, Bool.and_eq_true, decide_eq_true_eq] at h3 ⊢
                    rcases h3 with h3 | ⟨h3, h4⟩
                    · exact Or.inl h3
                    · exact Or.inr ⟨by omega, h4⟩
              · show 0 ≤ (if v = .int .i64 (i : Int) then cv + 1 else cnt v) ∧ (if v = .int .i64 (i : Int) then cv + 1 else cnt v) ≤ _
                have := hcn v
                split <;> omega)
            have HBn : Hid (Below (w.heap.size + 1) W0 (ChangeMaps.setBlock wr (w.heap.size + 1) (.map es2 clock2))) := hide (HB.out.grown (hC.grown _) (by have := HB.out.size; omega) (fun j hj => by cases hj; exact Nat.le_refl _))
            clear hact hC hks hcn hnew hadd hcv HM
            go_wp2
            go_roundw
            case rel =>
              first
              | exact ⟨i + 1, by omega, by go_num, HMn, HBn⟩
              | ((try rw [← hta]); (repeat apply Exists.intro); refine ⟨?_, rfl⟩; exact ⟨i + 1, by omega, by go_num, HMn, HBn⟩)
            case measure => simp [intOf]; omega
          | false =>
            rw [hact] at hac
            have HMn : Hid (ActAt N (fun r => s.sched.met r f k || (decide (r < i + 1) && s.sched.act k r)) (6 * k + ((i + 1 : Nat) : Nat)) (w.heap.size + 1) wr) := hide (HM.out.congr (fun r _ => by
              by_cases e : r = i
              · subst e
                have : s.sched.act k r = false := hact
                rw [this]
                simp
              · have e1 : decide (r < i + 1) = decide (r < i) := by rw [Bool.eq_iff_iff]; simp; omega
                rw [e1]) (by omega))
            clear hact hC hks hcn hnew hadd hcv hupd hlook
            go_wp2
            go_roundw
            case rel =>
              first
              | exact ⟨i + 1, by omega, by go_num, HMn, HB⟩
              | ((try rw [← hta]); (repeat apply Exists.intro); refine ⟨?_, rfl⟩; exact ⟨i + 1, by omega, by go_num, HMn, HB⟩)
            case measure => simp [intOf]; omega
        · have hin : i = N := by omega
          have hii : (N : Int) ≤ (i : Int) := by omega
          have HMn : Hid (ActAt N (fun r => s.sched.met r f (k + 1)) (6 * ((k + 1 : Nat) : Int)) (w.heap.size + 1) wr) := hide (HM.out.congr (fun r hr => by
            rw [Sched.met_succ hk0]
            have : decide (r < i) = true := by simp; omega
            rw [this, Bool.true_and]) (by omega))
          have bN := b0.below HB.out (by omega)
          have x3 := bN.cell 3
          simp at x3
          obtain ⟨ks, cnt, es, clock, hC, hks, hcn⟩ := HMn.out
          have hlen := hC.len Try.underlying163
          have hkl := keys_all hC.once hks
          by_cases hall : n.net.allMet s.sched f (k + 1) = true
          · have hfull : ks.length = N := by
              rw [hkl]
              have := (List.length_filter_eq_length_iff (p := fun i => s.sched.met i f (k + 1)) (l := List.range N)).2 (fun a ha => (HMet.out (k + 1)).1 hall a (by simpa using ha))
              simpa using this
            have hend := Hsome.out (k + 1) (by omega) (by omega) hall (fun d h1 h2 => HNo.out d h1 (by omega))
            have HE := hide hend
            have heq : ((ks.length : Int) == (N : Int)) = true := by simp [hfull]
            have HBf := hide (B0.out.trans (HB.out.mono (by omega)))
            clear hkl hfull hend hall hC hks hcn HM HMn
            go_wp2
            exact bodyPost_ret (v := .tuple #[.int .i64 ((k : Int) + 1), .bool true]) (by simp [results, Try.results126, go_sem]) rfl ⟨by rw [HE.out]; rfl, HBf.out⟩
          · have hnf : ks.length ≠ N := by
              intro e
              apply hall
              rw [HMet.out]
              intro r hr
              rw [hkl] at e
              have := (List.length_filter_eq_length_iff (p := fun i => s.sched.met i f (k + 1)) (l := List.range N)).1 (by rw [e]; simp)
              exact this r (by simpa using hr)
            have heq : ((ks.length : Int) == (N : Int)) = false := by simp; omega
            have HNn : Hid (∀ d, f < d → d ≤ k + 1 → n.net.allMet s.sched f d = false) := hide (fun d h1 h2 => by
              by_cases e : d = k + 1
              · subst e; simpa using hall
              · exact HNo.out d h1 (by omega))
            clear hkl hnf hall hC hks hcn HM
            go_wp2
            go_roundw
            case rel =>
              first
              | exact ⟨k + 1, by omega, by omega, by go_num, HMn, HB, HNn⟩
              | ((try rw [← hta]); (repeat apply Exists.intro); refine ⟨?_, rfl⟩; exact ⟨k + 1, by omega, by omega, by go_num, HMn, HB, HNn⟩)
            case measure => simp [intOf]; omega
    · have hki : (s.tn : Int) ≤ (k : Int) := by omega
      have hend := hide (Hnone.out (fun d h1 h2 => HNo.out d h1 (by omega)))
      have HBf := hide (B0.out.trans (HB.out.mono (by omega)))
      go_wp2
      exact bodyPost_ret (v := .tuple #[.int .i64 0, .bool false]) (by simp [results, Try.results126, go_sem]) rfl ⟨by rw [hend.out]; rfl, HBf.out⟩

set_option maxHeartbeats 2000000 in
theorem cycle_any (n : NetM) (s : SchedM) (f : Nat) (w : World) (h : n.In w.heap.size w) (hs : s.In w.heap.size w) (hp : n.net.Plays s.sched) (hf : f ≤ s.tn) :
    Calls Try.prog 93 #[n.val, s.val, .int .i64 f] w fun e w' => e = .returned (endAns (n.net.cycle s.sched f)) ∧ Below w.heap.size w w' := by
  have hB0 : Below w.heap.size w (w.alloc (.cells n.cells 50)) := (Below.refl _ w).alloc (Nat.le_refl _) _
  have b0 := Blk.new w n.cells 50
  have HA := hide (allActive_any n s f _ (hs.grown hB0) hp hf)
  have HP := hide (fun (e : Nat) (he : e ≤ s.tn) W (hb : Below w.heap.size w W) => pastOlder_any n s e W (h.grown hb) (hs.grown hb) hp he)
  have Hd : Hid (n.net.cycle s.sched f = (n.net.allEnd s.sched f).map fun e => n.net.past s.sched e s.tn) := hide rfl
  have Hle : Hid (∀ e, n.net.allEnd s.sched f = some e → e ≤ s.tn) := hide (fun e he => (n.net.allEnd_some he).2.1)
  clear h hs hp
  simp only [NetM.val, NetM.cells, Mat.val, SchedM.val] at HA HP b0 hB0 ⊢
  go_enter Try.func93, Try.ntmps93
  go_wp2_with fail
  go_at_call 126
  refine HA.out.mono ?_
  rintro e w1 ⟨rfl, hb1⟩
  have hB1 := hB0.trans (hb1.mono hB0.size)
  have b1 := b0.below hb1 b0.lt
  clear HA hB0 b0 hb1
  cases ho : n.net.allEnd s.sched f with
  | none =>
    have hfin : Hid (n.net.cycle s.sched f = none) := hide (by rw [Hd.out, ho]; rfl)
    have HB := hide hB1
    simp only [endAns]
    clear ho Hd Hle HP hB1
    go_wp2
    exact bodyPost_ret (v := .tuple #[.int .i64 0, .bool false]) (by simp [results, Try.results93, go_sem]) rfl ⟨by rw [hfin.out]; rfl, HB.out⟩
  | some e =>
    have hfin : Hid (n.net.cycle s.sched f = some (n.net.past s.sched e s.tn)) := hide (by rw [Hd.out, ho]; rfl)
    have HP1 := hide (HP.out e (Hle.out e ho) w1 hB1)
    have x0 := b1.cell 0
    have x1 := b1.cell 1
    have x2 := b1.cell 2
    have x3 := b1.cell 3
    have x4 := b1.cell 4
    simp at x0 x1 x2 x3 x4
    have HB := hide hB1
    simp only [endAns]
    clear ho Hd Hle HP hB1
    go_wp2_with fail
    go_at_call 127
    refine HP1.out.mono ?_
    rintro e' w2 ⟨rfl, hb2⟩
    have HB2 := hide (HB.out.trans (hb2.mono HB.out.size))
    clear hb2 HP1
    go_wp2
    exact bodyPost_ret (v := .tuple #[.int .i64 ((n.net.past s.sched e s.tn : Nat) : Int), .bool true]) (by simp [results, Try.results93, go_sem]) rfl ⟨by rw [hfin.out]; rfl, HB2.out⟩

def cycMeas (tn : Nat) (e ok : Value) : Nat := match ok with | .bool true => tn + 1 - (intOf e).toNat | _ => 0
/-- What Cycles answers. -/
def Net.cyclesR (n : Net) (s : Sched) : Nat := if n.turns s = 0 then n.cycles s 0 else 0

set_option maxHeartbeats 4000000 in
theorem cycles_any (n : NetM) (s : SchedM) (w : World) (h : n.In w.heap.size w) (hs : s.In w.heap.size w) :
    Calls Try.prog 50 #[n.val, s.val] w fun e w' => e = .returned (.tuple #[.int .i64 ((n.net.cyclesR s.sched : Nat) : Int), .int .i64 (n.net.turns s.sched)]) ∧ Below w.heap.size w w' := by
  have hB0 : Below w.heap.size w (w.alloc (.cells n.cells 50)) := (Below.refl _ w).alloc (Nat.le_refl _) _
  have b0 := Blk.new w n.cells 50
  have HC := hide (asyncCheck_any n s _ (h.grown hB0) (hs.grown hB0))
  have HY := hide (fun (hp : n.net.Plays s.sched) (f : Nat) (hf : f ≤ s.tn) W (hb : Below w.heap.size w W) => cycle_any n s f W (h.grown hb) (hs.grown hb) hp hf)
  have HPl := hide (fun (h0 : n.net.turns s.sched = 0) => Net.plays_of h0)
  have Hd : Hid (n.net.cyclesR s.sched = if n.net.turns s.sched = 0 then n.net.cycles s.sched 0 else 0) := hide rfl
  have Hlt : Hid (∀ f d, n.net.cycle s.sched f = some d → f < d ∧ d ≤ s.tn) := hide (fun f d hd => n.net.cycle_lt hd)
  have Hnone : Hid (∀ f, n.net.cycle s.sched f = none → n.net.cycles s.sched f = 0) := hide (fun f hd => n.net.cycles_none hd)
  have Hsome : Hid (∀ f d, n.net.cycle s.sched f = some d → n.net.cycles s.sched f = n.net.cycles s.sched d + 1) := hide (fun f d hd => n.net.cycles_some hd)
  generalize n.net.turns s.sched = tu at *
  clear h hs
  simp only [NetM.val, NetM.cells, Mat.val, SchedM.val] at HC HY b0 hB0 ⊢
  go_enter Try.func50, Try.ntmps50
  go_wp2_with fail
  go_at_call 48
  refine HC.out.mono ?_
  rintro e w1 ⟨rfl, hb1⟩
  have hB1 := hB0.trans (hb1.mono hB0.size)
  have b1 := b0.below hb1 b0.lt
  clear HC hB0 b0 hb1
  by_cases ht : tu = 0
  rotate_left
  · have ht' : (tu != 0) = true := by simp [ht]
    have hfin : Hid (n.net.cyclesR s.sched = 0) := hide (by rw [Hd.out, if_neg ht])
    have HB := hide hB1
    clear ht Hd HPl HY Hlt Hnone Hsome hB1
    go_wp2
    exact bodyPost_ret (v := .tuple #[.int .i64 0, .int .i64 tu]) (by simp [results, Try.results50, go_sem]) rfl ⟨by rw [hfin.out]; rfl, HB.out⟩
  have hp := HPl.out ht
  have htn : s.tn ≤ 200 := hp.many
  have HY1 := hide (fun (f : Nat) (hf : f ≤ s.tn) W (hb : Below w.heap.size w W) => HY.out hp f hf W hb)
  have hfin : Hid (n.net.cyclesR s.sched = n.net.cycles s.sched 0) := hide (by rw [Hd.out, if_pos ht])
  have x0 := b1.cell 0
  have x1 := b1.cell 1
  have x2 := b1.cell 2
  have x3 := b1.cell 3
  have x4 := b1.cell 4
  simp at x0 x1 x2 x3 x4
  have HZ := hide (HY1.out 0 (Nat.zero_le _) w1 hB1)
  have HB1 := hide hB1
  subst ht
  clear Hd HPl HY hp hB1
  go_wp2_with fail
  go_at_call 93
  refine HZ.out.mono ?_
  rintro e w2 ⟨rfl, hb2⟩
  have HB2 := hide (HB1.out.trans (hb2.mono HB1.out.size))
  have b2 := b1.below hb2 b1.lt
  have hval : ∀ o : Option Nat, endAns o = .tuple #[.int .i64 ((o.getD 0 : Nat) : Int), .bool o.isSome] := fun o => by cases o <;> rfl
  rw [hval]
  have Hval := hide hval
  have Ho0 : Hid (n.net.cycle s.sched 0 = n.net.cycle s.sched 0) := hide rfl
  generalize ho : n.net.cycle s.sched 0 = o0 at *
  have Ho := hide ho
  clear HZ HB1 b1 hb2 x0 x1 x2 x3 x4 hval Ho0 ho
  go_wp2_with fail
  go_loopw [7, 8, 9] (fun c e ok wr => ∃ (c' f : Nat) (o : Option Nat), f ≤ s.tn ∧ c' ≤ f ∧ c = .int .i64 c' ∧ e = .int .i64 ((o.getD 0 : Nat) : Int) ∧ ok = .bool o.isSome ∧ Hid (n.net.cycle s.sched f = o) ∧ Hid (c' + n.net.cycles s.sched f = n.net.cycles s.sched 0) ∧ Hid (Below w2.heap.size w2 wr)) (fun _ e ok _ => cycMeas s.tn e ok)
  case atStart => exact ⟨0, 0, o0, Nat.zero_le _, Nat.le_refl _, rfl, rfl, rfl, Ho, hide (by omega), hide (Below.refl _ _)⟩
  case round =>
    obtain ⟨c, f, o, hf, hc, rfl, rfl, rfl, HO, HN, HB⟩ := hrel
    have hBw := HB2.out.trans (HB.out.mono HB2.out.size)
    cases o with
    | none =>
      have Hz := hide (Hnone.out f HO.out)
      have HBf := hide hBw
      simp only [Option.isSome_none, Option.getD_none]
      clear hBw
      go_wp2
      refine bodyPost_ret (v := .tuple #[.int .i64 (c : Int), .int .i64 0]) (by simp [results, Try.results50, go_sem]) rfl ⟨?_, HBf.out⟩
      have h1 := HN.out
      have h2 := Hz.out
      rw [hfin.out]
      have : n.net.cycles s.sched 0 = c := by omega
      rw [this]
    | some d =>
      obtain ⟨hd1, hd2⟩ := Hlt.out f d HO.out
      have hsm := Hsome.out f d HO.out
      have HNn : Hid (c + 1 + n.net.cycles s.sched d = n.net.cycles s.sched 0) := hide (by have := HN.out; omega)
      have HZ := hide (HY1.out d hd2 wr hBw)
      rw [Hval.out] at HZ
      have bN := b2.below HB.out b2.lt
      have x0 := bN.cell 0
      have x1 := bN.cell 1
      have x2 := bN.cell 2
      have x3 := bN.cell 3
      have x4 := bN.cell 4
      simp at x0 x1 x2 x3 x4
      simp only [Option.isSome_some, Option.getD_some]
      clear hsm hBw bN
      go_wp2_with fail
      go_at_call 93
      refine HZ.out.mono ?_
      rintro e w3 ⟨rfl, hb3⟩
      have HB3 := hide (HB.out.trans (hb3.mono HB.out.size))
      generalize hq : n.net.cycle s.sched d = q at *
      have Hq := hide hq
      have Hlt2 : Hid (∀ z, q = some z → d < z ∧ z ≤ s.tn) := hide (fun z hz => Hlt.out d z (by rw [hq, hz]))
      clear hb3 HZ x0 x1 x2 x3 x4 hq
      go_wp2
      go_roundw
      case rel =>
        first
        | exact ⟨c + 1, d, q, by omega, by omega, by go_num, rfl, rfl, Hq, HNn, HB3⟩
        | ((repeat apply Exists.intro); refine ⟨?_, rfl⟩; exact ⟨c + 1, d, q, by omega, by omega, by go_num, rfl, rfl, Hq, HNn, HB3⟩)
      case measure =>
        cases q with
        | none => simp [cycMeas, intOf]; omega
        | some z =>
          have := Hlt2.out z rfl
          simp [cycMeas, intOf]
          omega

end Go.Proofs.Ytjhkadffaephmaa
