/-
  Our own texts, bundled: a claim holds few files.
-/
import Derived.Test.YtjhkadffaephmabGreatCutEngineStepsBJ
import Derived.Test.YtjhkadffaephmabGreatCutEngineStepsDC
import Derived.Test.YtjhkadffaephmabGreatCutEngineStepsAF
/-
  engine.New.
-/
namespace Go.Proofs.YtjhkadffaephmabGreat
set_option maxRecDepth 100000
open Go.RowKit

/-- What stands while an engine is new: so many routers. -/
structure NewI (W2 : World) (N : Nat) (m : Mat) (ob G : Nat) (vs : Array Value) (Tb : Nat → Nat) (k : Nat) (W : World) : Prop where
  below : Below W2.heap.size W2 W
  out : Blk W ob #[.slice (some ⟨G, 0, none⟩) N N, .slice none 0 0] 31
  rtrs : Blk W G vs 59
  size : vs.size = N * 2
  r0 : ∀ i, i < k → vs[i * 2]? = some (.slice (m.A i) N (m.C i))
  r1 : ∀ i, i < k → vs[i * 2 + 1]? = some (.slice (some ⟨Tb i, 0, none⟩) N N)
  tb : ∀ i, i < k → Blk W (Tb i) (madeCells #[.slice none 0 0] N) 32 ∧ Tb i ≠ G
  lo : W2.heap.size ≤ G ∧ W2.heap.size ≤ ob ∧ G ≠ ob
theorem NewI.keep {W2 : World} {N : Nat} {m : Mat} {ob G : Nat} {vs : Array Value} {Tb : Nat → Nat} {k : Nat} {W W' : World} (h : NewI W2 N m ob G vs Tb k W) (hb : Below W.heap.size W W') : NewI W2 N m ob G vs Tb k W' :=
  ⟨h.below.trans (hb.mono h.below.size), h.out.below hb h.out.lt, h.rtrs.below hb h.rtrs.lt, h.size, h.r0, h.r1, fun i hi => ⟨(h.tb i hi).1.below hb (h.tb i hi).1.lt, (h.tb i hi).2⟩, h.lo⟩
theorem NewI.put {W2 : World} {N : Nat} {m : Mat} {ob G : Nat} {vs : Array Value} {Tb : Nat → Nat} {k : Nat} {W : World} (h : NewI W2 N m ob G vs Tb k W) (hk : k < N) {T : Nat} (hT : Blk W T (madeCells #[.slice none 0 0] N) 32) (hTG : T ≠ G) :
    ∃ vs' Tb', NewI W2 N m ob G vs' Tb' (k + 1) ((W.setCell ⟨G, k * 2, none⟩ (.slice (m.A k) N (m.C k))).setCell ⟨G, k * 2 + 1, none⟩ (.slice (some ⟨T, 0, none⟩) N N)) := by
  have hsz := h.size
  refine ⟨_, fun r => if r = k then T else Tb r, (h.below.setCell (p := ⟨G, k * 2, none⟩) h.lo.1 _).setCell (p := ⟨G, k * 2 + 1, none⟩) h.lo.1 _, (h.out.other (Ne.symm h.lo.2.2) _ _).other (Ne.symm h.lo.2.2) _ _, (h.rtrs.set _ _).set _ _, by simpa using hsz, fun i hi => ?_, fun i hi => ?_, fun i hi => ?_, h.lo⟩
  · rw [Array.getElem?_setIfInBounds_ne (by omega)]
    by_cases e : i = k
    · subst e; rw [Array.getElem?_setIfInBounds_self_of_lt (by omega)]
    · rw [Array.getElem?_setIfInBounds_ne (by omega)]; exact h.r0 i (by omega)
  · by_cases e : i = k
    · subst e
      simp only [if_true]
      rw [Array.getElem?_setIfInBounds_self_of_lt (by simp; omega)]
    · simp only [if_neg e]
      rw [Array.getElem?_setIfInBounds_ne (by omega), Array.getElem?_setIfInBounds_ne (by omega)]
      exact h.r1 i (by omega)
  · by_cases e : i = k
    · subst e
      simp only [if_true]
      exact ⟨(hT.other hTG _ _).other hTG _ _, hTG⟩
    · simp only [if_neg e]
      obtain ⟨h1, h2⟩ := h.tb i (by omega)
      exact ⟨(h1.other h2 _ _).other h2 _ _, h2⟩

/-- What New makes, as an engine that lies in memory. -/
theorem new_eng {N : Nat} {n : Net} {m : Mat} {G : Nat} {vs : Array Value} {Tb : Nat → Nat} {W : World} (hrt : Blk W G vs 59) (hr0 : ∀ i, i < N → vs[i * 2]? = some (.slice (m.A i) N (m.C i))) (hr1 : ∀ i, i < N → vs[i * 2 + 1]? = some (.slice (some ⟨Tb i, 0, none⟩) N N)) (htb : ∀ i, i < N → Blk W (Tb i) (madeCells #[.slice none 0 0] N) 32) (hmi : m.In W.heap.size W) (ht : m.t = ⟨N, fun _ => N, n.begin⟩) (hck : n.check = 0) (hN : n.nodes = (N : Int)) (hN6 : N ≤ 6) :
    ∃ x : EngM, x.cells = #[.slice (some ⟨G, 0, none⟩) N N, .slice none 0 0] ∧ x.In W.heap.size W ∧ x.err n = 0 ∧ x.eng = ⟨n.begin, fun _ _ => false, fun _ _ _ => 0, []⟩ := by
  have g := Net.good_of_check hck
  have hNN : n.N = N := by unfold Net.N; omega
  have hlen : m.t.len = N := by rw [ht]
  have hL : ∀ r, m.t.L r = N := fun r => by rw [ht]
  have hZ : m.t.Z = n.begin := by rw [ht]
  obtain ⟨x, hx⟩ : ∃ x : EngM, x = ⟨⟨some ⟨G, 0, none⟩, N, N, G, 0, fun i => ⟨m.A i, N, m.C i, m.RB i, m.RO i, n.begin i, ⟨some ⟨Tb i, 0, none⟩, Tb i, 0, N, fun _ => none, fun _ => 0, fun _ => 0, fun _ => 0, ⟨N, fun _ => 0, fun _ _ => 0⟩⟩⟩⟩, ⟨none, 0, 0, 0, 0, fun _ => noMail⟩⟩ := ⟨_, rfl⟩
  have heng : x.eng = ⟨n.begin, fun _ _ => false, fun _ _ _ => 0, []⟩ := by rw [hx]; rfl
  have hin : x.In W.heap.size W := by
    rw [hx]
    refine ⟨⟨fun _ => rfl, fun _ => hrt.lt, fun i hi => ?_, fun i hi => ?_, fun i hi => ?_, by show N ≤ _; unfold maxLen; omega⟩, ⟨fun h0 => absurd h0 (Nat.lt_irrefl _), fun h0 => absurd h0 (Nat.lt_irrefl _), fun i hi => absurd hi (Nat.not_lt_zero _), fun i hi => absurd hi (Nat.not_lt_zero _), fun i hi => absurd hi (Nat.not_lt_zero _), Nat.zero_le _, fun i hi => absurd hi (Nat.not_lt_zero _)⟩⟩
    · show W.cell? ⟨G, 0 + i * 2, none⟩ = _
      rw [Nat.zero_add, hrt.cell]; exact hr0 i hi
    · show W.cell? ⟨G, 0 + i * 2 + 1, none⟩ = _
      rw [Nat.zero_add, hrt.cell]; exact hr1 i hi
    · have hi' : i < N := hi
      have hii := hmi.ints (r := i) (by omega)
      rw [hL i, hZ] at hii
      refine ⟨hii, fun h0 => (hmi.addr i (by omega) (by rw [hL i]; exact h0)).2, ⟨fun _ => rfl, fun _ => (htb i hi').lt, fun r hr => ?_, fun r hr h0 => absurd h0 (Nat.lt_irrefl _), fun r hr c hc => absurd hc (Nat.not_lt_zero _), by show N ≤ _; unfold maxLen; omega, fun r hr => Nat.zero_le _⟩⟩
      show W.cell? ⟨Tb i, 0 + r, none⟩ = _
      rw [Nat.zero_add, (htb i hi').cell]; exact made_nil hr
  refine ⟨x, by rw [hx]; rfl, hin, EngM.of_right (N := N) ⟨hck, by rw [hx], fun i hi => by rw [hx], fun i hi => by rw [hx], fun i hi q hq => by rw [heng, hx]; rfl, by rw [hx]; exact Nat.zero_le _, ?_⟩ hN, heng⟩
  rw [heng]
  have hb : n.State n.begin := n.begin_state hck
  exact ⟨hb, fun i k j _ _ _ ht => (absurd (show false = true from ht) (by decide)), Nat.zero_le _, fun m hm => absurd hm List.not_mem_nil⟩

/-- What New answers. -/
def NewAns (n : Net) (w : World) (r : Ending) (w' : World) : Prop :=
  Below w.heap.size w w' ∧
  ((n.check ≠ 0 ∧ r = .returned (.tuple #[zeroEng, .int .i64 n.check])) ∨
   (n.check = 0 ∧ ∃ m : EngM, r = .returned (.tuple #[m.val, .int .i64 0]) ∧ m.In w'.heap.size w' ∧ m.err n = 0 ∧ m.eng = ⟨n.begin, fun _ _ => false, fun _ _ _ => 0, []⟩))

structure NewG (W2 : World) (N : Nat) (n : NetM) (m : Mat) (b1 ob G : Nat) (vs : Array Value) (Tb : Nat → Nat) (k : Nat) (w4 W : World) : Prop where
  inv : NewI W2 N m ob G vs Tb k W
  net : Blk W b1 n.cells 27
  below : Below w4.heap.size w4 W
theorem NewG.keep {W2 : World} {N : Nat} {n : NetM} {m : Mat} {b1 ob G : Nat} {vs : Array Value} {Tb : Nat → Nat} {k : Nat} {w4 W W' : World} (h : NewG W2 N n m b1 ob G vs Tb k w4 W) (hb : Below W.heap.size W W') : NewG W2 N n m b1 ob G vs Tb k w4 W' := ⟨h.inv.keep hb, h.net.below hb h.net.lt, h.below.trans (hb.mono h.below.size)⟩
def newV (vs : List Value) (N : Nat) (a : Option Addr) (c : Nat) (w4 : World) (k : Nat) (v : Value) (W : World) : Prop :=
  if k = 5 then ∃ T : Nat, v = .agg #[.slice a N c, .slice (some ⟨T, 0, none⟩) N N] ∧ w4.heap.size ≤ T ∧ Blk W T (madeCells #[.slice none 0 0] N) 32
  else vs[k]? = some v
theorem newV_keep {vs : List Value} {N : Nat} {a : Option Addr} {c : Nat} {w4 : World} {k : Nat} {v : Value} {W W' : World} (hb : Below W.heap.size W W') (h : newV vs N a c w4 k v W) : newV vs N a c w4 k v W' := by
  unfold newV at h ⊢
  by_cases h5 : k = 5
  · rw [if_pos h5] at h ⊢
    obtain ⟨T, h1, h2, h3⟩ := h
    exact ⟨T, h1, h2, h3.below hb h3.lt⟩
  rw [if_neg h5] at h ⊢
  exact h
theorem newV_get {vs : List Value} {N : Nat} {a : Option Addr} {c : Nat} {w4 : World} {k : Nat} {v u : Value} {W : World} (h : newV vs N a c w4 k v W) (hk : k ≠ 5) (hu : vs[k]? = some u) : v = u := by
  unfold newV at h
  rw [if_neg hk, hu] at h
  exact (Option.some.inj h).symm

set_option maxHeartbeats 4000000 in
theorem new_any (n : NetM) (w : World) (h : n.In w.heap.size w) :
    Calls Tryz.prog 6 #[n.val] w fun r w' => NewAns n.net w r w' := by
  obtain ⟨W1, hW1⟩ : ∃ W1, W1 = (w.alloc (.cells n.cells 27)).alloc (.cells #[.slice none 0 0, .slice none 0 0] 31) := ⟨_, rfl⟩
  have hB1 : Below w.heap.size w W1 := by rw [hW1]; exact ((Below.refl _ w).alloc (Nat.le_refl _) _).alloc (by simp) _
  have b1 : Blk W1 w.heap.size n.cells 27 := by rw [hW1]; exact (Blk.new w _ _).alloc _
  have b2 : Blk W1 (w.heap.size + 1) #[.slice none 0 0, .slice none 0 0] 31 := by rw [hW1]; exact Blk.new' (by simp)
  have HBe := hide (netBegin_any n W1 (h.grown hB1))
  have HB1 := hide hB1
  have Hb1 := hide b1
  have Hb2 := hide b2
  simp only [NetM.val, NetM.cells, Mat.val] at hW1 HBe ⊢
  rw [hW1] at HBe
  have HW1 := hide hW1
  clear h hB1 b1 b2 hW1
  go_enter Tryz.func6, Tryz.ntmps6
  go_wp2_with fail
  go_at_call 20
  refine HBe.out.mono ?_
  rw [← HW1.out]
  rintro r W2 ⟨⟨m, rfl, hm⟩, hb2⟩
  have c2 := Hb2.out.below hb2 Hb2.out.lt
  have c1 := Hb1.out.below hb2 Hb1.out.lt
  have HB2 := hide (HB1.out.trans (hb2.mono HB1.out.size))
  by_cases hck : n.net.check = 0
  rotate_left
  · have s0 := c2.cell 0
    have s1 := c2.cell 1
    have f0 := c2.frozen 0
    have f1 := c2.frozen 1
    have c7 := (c2.set 0 (.slice none 0 0)).set 1 (.slice none 0 0)
    have e0 := c7.cell 0
    have e1 := c7.cell 1
    simp at s0 s1 e0 e1
    have hne : (n.net.check == 0) = false := by simpa using hck
    have HF : Hid (NewAns n.net w (.returned (.tuple #[.agg #[.slice none 0 0, .slice none 0 0], .int .i64 n.net.check])) ((W2.setCell ⟨w.heap.size + 1, 0, none⟩ (.slice none 0 0)).setCell ⟨w.heap.size + 1, 1, none⟩ (.slice none 0 0))) := hide ⟨(HB2.out.setCell (p := ⟨w.heap.size + 1, 0, none⟩) (by show w.heap.size ≤ w.heap.size + 1; omega) _).setCell (p := ⟨w.heap.size + 1, 1, none⟩) (by show w.heap.size ≤ w.heap.size + 1; omega) _, Or.inl ⟨hck, rfl⟩⟩
    generalize n.net.check = er at *
    clear c2 c1 c7 hb2 HBe hck hm
    go_wp2
    exact bodyPost_ret (v := .tuple #[.agg #[.slice none 0 0, .slice none 0 0], .int .i64 er]) (by simp [results, Tryz.results6, go_sem, e0, e1]) rfl HF.out
  obtain ⟨N, hN⟩ : ∃ N : Nat, n.nodes = N := ⟨n.nodes.toNat, by have := (Net.good_of_check hck).lo; have : n.net.nodes = n.nodes := rfl; omega⟩
  obtain ⟨hN0, hN6, hNN, hnn⟩ := nodes_six hck hN
  have ht := hm.ok hck
  rw [hNN] at ht
  have hmin := hm.mem
  have HFr := hide hm.own
  obtain ⟨i1, hi1, hy0, hy1, hy2⟩ := info_parts Tryz.infoRouter
  have hmkR : ∀ u : World, (Instr.makeSlice 28 (.int .i64 (N : Int)) (.int .i64 (N : Int))).run Tryz.prog u = .ok (.slice (some ⟨u.heap.size, 0, none⟩) N N) (u.alloc (.cells (madeCells #[.slice none 0 0, .slice none 0 0] (N * 2)) 59)) := fun u => by
    have h := run_make (P := Tryz.prog) u 28 59 i1 (.agg #[.slice none 0 0, .slice none 0 0]) Tryz.underlying28 hi1 hy0 .i64 .i64 (N : Int) (N : Int) (by omega) (Int.le_refl _) (by rw [hy2]; omega) (by omega)
    simpa [hy1, Value.cells] using h
  obtain ⟨mc, hmc⟩ : ∃ mc, mc = madeCells #[.slice none 0 0, .slice none 0 0] (N * 2) := ⟨_, rfl⟩
  rw [← hmc] at hmkR
  have hmcs : mc.size = N * 2 := by rw [hmc]; exact size_madeCells _ _
  obtain ⟨W3, hW3⟩ : ∃ W3, W3 = (W2.alloc (.cells mc 59)).alloc (.cells #[.slice (some ⟨W2.heap.size, 0, none⟩) N N, .slice none 0 0] 31) := ⟨_, rfl⟩
  have hI0 : ∃ vs Tb, NewI W2 N m (W2.heap.size + 1) W2.heap.size vs Tb 0 W3 := ⟨mc, fun _ => 0, by rw [hW3]; exact ((Below.refl _ W2).alloc (Nat.le_refl _) _).alloc (by simp) _, by rw [hW3]; exact Blk.new' (by simp), by rw [hW3]; exact (Blk.new W2 _ _).alloc _, hmcs, fun i hi => absurd hi (Nat.not_lt_zero _), fun i hi => absurd hi (Nat.not_lt_zero _), fun i hi => absurd hi (Nat.not_lt_zero _), Nat.le_refl _, by omega, by omega⟩
  have hga := hmin.ga (by rw [ht]; exact hN0)
  have hlen : m.t.len = N := by rw [ht]
  have y3 := c1.cell 3
  simp [NetM.cells, hN] at y3
  have HI0 := hide hI0
  have Hc1 := hide c1
  have Hc2 := hide c2
  have Hmin := hide hmin
  have Ht := hide ht
  have HW3 := hide hW3
  have HN := hide hN
  have Hck := hide hck
  have Hnn := hide hnn
  have HUn := hide (fun (a : Option Addr) (c : Nat) W => untold_any n a N c N W hN hN6)
  simp only [hck, hga, hlen]
  clear c1 c2 hb2 HBe hm ht hmin hI0 hW3 hga hlen hN hck hnn hNN hmc hmcs hi1 hy0 hy1 hy2
  go_wp2_with fail
  rw [← HW3.out]
  go_loopw [7, 8, 24] (fun _ _ q wr => ∃ k : Nat, k ≤ N ∧ q = .int .i64 k ∧ Hid (∃ vs Tb, NewI W2 N m (W2.heap.size + 1) W2.heap.size vs Tb k wr)) (fun _ _ q _ => N - (intOf q).toNat)
  case atStart => exact ⟨0, Nat.zero_le _, rfl, HI0⟩
  case round =>
    obtain ⟨k, hk, rfl, HI⟩ := hrel
    obtain ⟨vs, Tb, hC⟩ := HI.out
    clear HI HI0
    by_cases hlt : k < N
    · have hki : (k : Int) < (N : Int) := by omega
      have hI := Hmin.out.below hC.below (Nat.le_refl _)
      have hrow := hI.row k (by rw [Ht.out]; exact hlt)
      have hLk : m.t.L k = N := by rw [Ht.out]
      rw [hLk] at hrow
      have HG4 : Hid (NewG W2 N n m w.heap.size (W2.heap.size + 1) W2.heap.size vs Tb k wr wr) := hide ⟨hC, Hc1.out.below hC.below Hc1.out.lt, Below.refl _ _⟩
      have HUk := hide (HUn.out (m.A k) (m.C k))
      simp only [NetM.val, NetM.cells, Mat.val, HN.out] at HUk
      clear hI hC hLk HUn
      go_wp2_with fail
      refine wp_region_last 7 _ (NewG W2 N n m w.heap.size (W2.heap.size + 1) W2.heap.size vs Tb k wr) (newV [.pointer (some ⟨W2.heap.size + 1, 0, none⟩), .slice (some ⟨W2.heap.size, 0, none⟩) N N, .int .i64 (k : Int), n.val, .slice (m.A k) N (m.C k), undef, .pointer (some ⟨W2.heap.size, k * 2, none⟩)] N (m.A k) (m.C k) wr) (fun _ W => ∃ vs Tb, NewI W2 N m (W2.heap.size + 1) W2.heap.size vs Tb (k + 1) W) (fun _ _ _ => True) (by kernel_rfl) (by kernel_rfl) (by kernel_rfl) (by kernel_rfl) (by kernel_rfl) rfl (HG4.out.keep ⟨rfl, rfl, rfl, Nat.le_refl _, fun _ _ => rfl⟩) ⟨?_, ?_, ?_, ?_, ?_, ?_, ?_, trivial⟩ ?_ trivial ?_
      rotate_right
      · intro t W hG _
        have HN9 := hide hG
        clear hG
        simp only [fill, Act.put, List.setIfInBounds_toArray, List.set_cons_zero, List.set_cons_succ]
        go_wp2
        go_roundw
        case rel =>
          first
          | exact ⟨k + 1, by omega, by go_num, HN9⟩
          | ((repeat apply Exists.intro); refine ⟨?_, rfl⟩; exact ⟨k + 1, by omega, by go_num, HN9⟩)
        case measure => simp [intOf]; omega
      rotate_right
      · intro t W hG hE _ K hK
        have e6 := newV_get (hE 6 (by omega)) (by decide) rfl
        have h5 : ∃ T : Nat, t 5 = .agg #[.slice (m.A k) N (m.C k), .slice (some ⟨T, 0, none⟩) N N] ∧ wr.heap.size ≤ T ∧ Blk W T (madeCells #[.slice none 0 0] N) 32 := hE 5 (by omega)
        simp only [fill, Act.put, List.setIfInBounds_toArray, List.set_cons_zero, List.set_cons_succ, e6] at hK ⊢
        rw [if_pos (by rfl)]
        obtain ⟨T, e5, hT, hbT⟩ := h5
        have hlt4 := HG4.out.inv.rtrs.lt
        have HN9 := hide (hG.inv.put hlt hbT (by omega))
        have hvz := hG.inv.size
        have g0 := hG.inv.rtrs.cell (k * 2)
        have g1 := hG.inv.rtrs.cell (k * 2 + 1)
        rw [Array.getElem?_eq_getElem (by omega)] at g0 g1
        have gf0 := hG.inv.rtrs.frozen (k * 2)
        have gf1 := hG.inv.rtrs.frozen (k * 2 + 1)
        simp only [e5] at hK ⊢
        clear hbT e5 e6 hE
        go_simp
        exact hK undef _ HN9.out
      all_goals intro t W hG hp ht K hK
      all_goals clear ht
      all_goals simp only [fill, Act.put, List.setIfInBounds_toArray, List.set_cons_zero, List.set_cons_succ] at hK ⊢
      · rw [if_pos (by rfl)]
        go_simp
        exact hK _ _ hG rfl (fun _ _ _ h => h)
      · have e0 := newV_get (hp 0 (by decide)) (by decide) rfl
        have o0 := hG.inv.out.cell 0
        simp at o0
        simp only [e0] at hK ⊢
        rw [if_pos (by rfl)]
        go_simp
        exact hK _ _ hG rfl (fun _ _ _ h => h)
      · rw [if_pos (by rfl)]
        go_simp
        exact hK _ _ hG rfl (fun _ _ _ h => h)
      · have x0 := hG.net.cell 0
        have x1 := hG.net.cell 1
        have x2 := hG.net.cell 2
        have x3 := hG.net.cell 3
        have x4 := hG.net.cell 4
        simp [NetM.cells, Mat.val] at x0 x1 x2 x3 x4
        rw [if_pos (by rfl)]
        go_simp
        exact hK _ _ hG rfl (fun _ _ _ h => h)
      · rw [if_pos (by rfl)]
        go_simp
        exact hK _ _ hG rfl (fun _ _ _ h => h)
      · have e3 := newV_get (hp 3 (by decide)) (by decide) rfl
        have e4 := newV_get (hp 4 (by decide)) (by decide) rfl
        simp only [NetM.val, NetM.cells, Mat.val, HN.out] at e3
        simp only [e3, e4] at hK ⊢
        rw [if_pos (by rfl)]
        go_simp
        go_at_call 21
        refine (HUk.out W).mono ?_
        rintro r W' ⟨⟨T, rfl, h1, h2⟩, hb⟩
        go_simp
        exact hK _ W' (hG.keep hb) ⟨T, rfl, by have := hG.below.size; omega, h2⟩ (fun _ _ _ h => newV_keep hb h)
      · have e1 := newV_get (hp 1 (by decide)) (by decide) rfl
        have e2 := newV_get (hp 2 (by decide)) (by decide) rfl
        simp only [e1, e2] at hK ⊢
        rw [if_pos (by rfl)]
        go_simp
        exact hK _ _ hG rfl (fun _ _ _ h => h)
    · have hkn : k = N := by omega
      subst hkn
      have c2 := Hc2.out.below hC.below Hc2.out.lt
      have o0 := hC.out.cell 0
      have o1 := hC.out.cell 1
      have s0 := c2.cell 0
      have s1 := c2.cell 1
      have f0 := c2.frozen 0
      have f1 := c2.frozen 1
      have c7 := (c2.set 0 (.slice (some ⟨W2.heap.size, 0, none⟩) k k)).set 1 (.slice none 0 0)
      have e0 := c7.cell 0
      have e1 := c7.cell 1
      simp at o0 o1 s0 s1 e0 e1
      have hlt2 := Hc2.out.lt
      have hI6 : Hid (NewAns n.net w (.returned (.tuple #[.agg #[.slice (some ⟨W2.heap.size, 0, none⟩) k k, .slice none 0 0], .int .i64 0])) ((wr.setCell ⟨w.heap.size + 1, 0, none⟩ (.slice (some ⟨W2.heap.size, 0, none⟩) k k)).setCell ⟨w.heap.size + 1, 1, none⟩ (.slice none 0 0))) := hide (by
        have hbw := ((HB2.out.trans (hC.below.mono HB2.out.size)).setCell (p := ⟨w.heap.size + 1, 0, none⟩) (by show w.heap.size ≤ w.heap.size + 1; omega) (.slice (some ⟨W2.heap.size, 0, none⟩) k k)).setCell (p := ⟨w.heap.size + 1, 1, none⟩) (by show w.heap.size ≤ w.heap.size + 1; omega) (.slice none 0 0)
        have hGq : W2.heap.size ≠ w.heap.size + 1 := by omega
        have hTq : ∀ i, i < k → Tb i ≠ w.heap.size + 1 := fun i hi => type_ne (hC.tb i hi).1 c2 (by decide)
        have hmi := (((Hmin.out.below hC.below (Nat.le_refl _)).mono hC.below.size).other (i := 0) HFr.out Hb2.out.lt (.slice (some ⟨W2.heap.size, 0, none⟩) k k)).other (i := 1) HFr.out Hb2.out.lt (.slice none 0 0)
        obtain ⟨x, hx1, hx2, hx3, hx4⟩ := new_eng ((hC.rtrs.other hGq 0 (.slice (some ⟨W2.heap.size, 0, none⟩) k k)).other hGq 1 (.slice none 0 0)) hC.r0 hC.r1 (fun i hi => ((hC.tb i hi).1.other (hTq i hi) _ _).other (hTq i hi) _ _) (by simpa using hmi) Ht.out Hck.out Hnn.out hN6
        exact ⟨hbw, Or.inr ⟨Hck.out, x, by rw [EngM.val, hx1], hx2, hx3, hx4⟩⟩)
      clear hC c2 c7 hlt2
      go_wp2
      exact bodyPost_ret (v := .tuple #[.agg #[.slice (some ⟨W2.heap.size, 0, none⟩) k k, .slice none 0 0], .int .i64 0]) (by simp [results, Tryz.results6, go_sem, e0, e1]) rfl hI6.out

end Go.Proofs.YtjhkadffaephmabGreat

/-
  The engine of the two-node net: its numbers.
-/
namespace Go.Proofs.YtjhkadffaephmabGreat
set_option maxRecDepth 100000

def newE (n : Net) : Eng := ⟨n.begin, fun _ _ => false, fun _ _ _ => 0, []⟩
def tickV : Ev := ⟨1, 1, 0, 0, 0, fun _ => 0⟩
def delivV : Ev := ⟨2, 0, 0, 0, 0, fun _ => 0⟩

theorem beg_one : (newE twoNet).stepErr twoNet tickV = 0 := by kernel_rfl
theorem beg_two : ((newE twoNet).step twoNet tickV).stepErr twoNet delivV = 0 := by kernel_rfl
theorem beg_bag : (((newE twoNet).step twoNet tickV).step twoNet delivV).bag = [] := by kernel_rfl
theorem beg_r0 : (((newE twoNet).step twoNet tickV).step twoNet delivV).R 0 0 = 0 := by kernel_rfl
theorem beg_r1 : (((newE twoNet).step twoNet tickV).step twoNet delivV).R 0 1 = 1 := by kernel_rfl

end Go.Proofs.YtjhkadffaephmabGreat
