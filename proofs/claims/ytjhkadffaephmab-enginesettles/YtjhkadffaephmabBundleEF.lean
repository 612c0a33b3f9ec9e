/-
  Our own texts, bundled: a claim holds few files.
-/
import Derived.Test.YtjhkadffaephmabBundleEE
import Derived.Test.YtjhkadffaephmabBundleEA
/-
  Routes with paths in memory; path.valid, path.twice, path.right.
-/
namespace Go.Proofs.Ytjhkadffaephmab
set_option maxRecDepth 100000
open Go.RowKit

/-- A route where it lies. -/
structure RtM where
  w : Int
  pa : Option Addr
  l : Nat
  q : Nat
  b : Nat
  o : Nat
  f : Nat → Int
def RtM.cells (r : RtM) : Array Value := #[.int .i64 r.w, .slice r.pa r.l r.q]
def RtM.val (r : RtM) : Value := .agg r.cells
def RtM.rt (r : RtM) : Rt := ⟨r.w, listOf r.l r.f⟩
structure RtM.In (r : RtM) (k : Nat) (W : World) : Prop where
  ints : Ints r.pa r.l r.b r.o r.f W
  blk : 0 < r.l → r.b < k
theorem RtM.In.below {r : RtM} {k m : Nat} {W W' : World} (h : r.In k W) (hb : Below m W W') (hk : k ≤ m) : r.In k W' := ⟨h.ints.below hb (fun h0 => Nat.lt_of_lt_of_le (h.blk h0) hk), h.blk⟩
theorem RtM.In.grown {r : RtM} {W W' : World} (h : r.In W.heap.size W) (hb : Below W.heap.size W W') : r.In W'.heap.size W' := ⟨(h.below hb (Nat.le_refl _)).ints, fun h0 => Nat.lt_of_lt_of_le (h.blk h0) hb.size⟩

set_option maxHeartbeats 1000000 in
theorem valid_any (n : NetM) (r : RtM) (w : World) (h2 : 2 ≤ n.a.size) (h24 : n.a.size ≤ 24) :
    Calls Try.prog 158 #[n.val, r.val] w fun e w' => e = .returned (.bool (n.net.valid r.rt)) ∧ Below w.heap.size w w' := by
  have hB : Below w.heap.size w ((w.alloc (.cells n.cells 41)).alloc (.cells r.cells 71)) := ((Below.refl _ w).alloc (Nat.le_refl _) _).alloc (by simp) _
  have HR : Hid (n.net.valid r.rt = (r.w != n.a.size - 1)) := hide rfl
  generalize n.net.valid r.rt = v at *
  have HB := hide hB
  simp only [NetM.val, NetM.cells, Mat.val, RtM.val, RtM.cells] at HB ⊢
  clear hB
  go_enter Try.func158, Try.ntmps158
  go_wp2
  go_ret
  exact ⟨by rw [HR.out]; rfl, HB.out⟩

theorem any_twice (f : Nat → Int) : ∀ l, (List.range l).any (fun i => decide (f i ∈ listOf i f)) = twiceIn (listOf l f) := by
  intro l
  have hN : ∀ l, (List.range l).any (fun i => decide (f i ∈ listOf i f)) = false ↔ (listOf l f).Nodup := by
    intro l
    induction l with
    | zero => simp [listOf]
    | succ l ih =>
      rw [List.range_succ, List.any_append, Bool.or_eq_false_iff, ih, listOf_succ, List.nodup_append]
      constructor
      · rintro ⟨h1, h2⟩
        refine ⟨h1, by simp, fun a ha b hb e => ?_⟩
        rw [List.mem_singleton] at hb
        subst e hb
        simp [ha] at h2
      · rintro ⟨h1, _, h3⟩
        refine ⟨h1, ?_⟩
        have : f l ∉ listOf l f := fun hm => h3 _ hm _ (by simp) rfl
        simp [this]
  have h1 := hN l
  rw [← twiceIn_iff] at h1
  cases e : twiceIn (listOf l f) with
  | false => exact h1.2 e
  | true =>
    cases e2 : (List.range l).any (fun i => decide (f i ∈ listOf i f)) with
    | true => rfl
    | false => rw [h1.1 e2] at e; cases e

set_option maxHeartbeats 1000000 in
/-- slices.IndexFunc of a closure that keeps something. -/
theorem indexFunc_inv (fid : Nat) (cap : Array Value) (a : Option Addr) (l q b o : Nat) (f : Nat → Int) (p : Nat → Bool) (w : World) (I : Nat → World → Prop) (G : World → Prop) (hlen : l ≤ maxLen) (hI0 : I 0 w) (hIG : ∀ k W, I k W → G W)
    (hints : ∀ k W, I k W → Ints a l b o f W)
    (hcf : ∀ (args : Array Value) (W : World), (callFunc fid args).run Try.prog W = .ok (.enter fid args) W)
    (hat : ∀ (i : Nat) (W : World), i < l → I i W → Calls Try.prog fid (#[.int .i64 (f i)] ++ cap) W fun e w' => e = .returned (.bool (p i)) ∧ (p i = false → I (i + 1) w') ∧ G w') :
    Calls Try.prog 126 #[.slice a l q, .func (.func fid) #[] cap] w fun e w' => (∃ r : Int, e = .returned (.int .i64 r) ∧ decide (0 ≤ r) = (List.range l).any p) ∧ G w' := by
  unfold maxLen at hlen
  have HA := hide hat
  have H := hide hints
  have HG := hide hIG
  have H0 := hide hI0
  clear hat hints hIG hI0
  go_enter Try.func126, Try.ntmps126
  go_wp2
  go_loopw [5, 8] (fun _ i wr => ∃ k : Nat, k ≤ l ∧ i = .int .i64 k ∧ Hid (∀ r, r < k → p r = false) ∧ Hid (I k wr)) (fun _ i _ => l - (intOf i).toNat)
  case atStart => exact ⟨0, Nat.zero_le _, rfl, hide (fun r hr => absurd hr (Nat.not_lt_zero _)), H0⟩
  case round =>
    obtain ⟨k, hk, rfl, Hall, HB⟩ := hrel
    by_cases hlt : k < l
    · have ha := (H.out k wr HB.out).addr (by omega)
      have hc := (H.out k wr HB.out).cell k hlt
      have hki : (k : Int) < (l : Int) := by omega
      have HC := hide (HA.out k wr hlt HB.out)
      by_cases hp : p k = true
      · rw [hp] at HC
        have Hw : Hid ((List.range l).any p = true) := hide (List.any_eq_true.2 ⟨k, List.mem_range.2 hlt, hp⟩)
        clear hp
        go_wp2_with fail
        refine HC.out.mono ?_
        rintro e w2 ⟨rfl, _, hb2⟩
        have HB2 := hide hb2
        clear hb2
        go_wp2
        go_ret
        exact ⟨⟨(k : Int), rfl, by rw [Hw.out]; simp⟩, HB2.out⟩
      · have hpf : p k = false := by simpa using hp
        rw [hpf] at HC
        have Hpf := hide hpf
        clear hp hpf
        go_wp2_with fail
        refine HC.out.mono ?_
        rintro e w2 ⟨rfl, hb2, _⟩
        have HB2 := hide (hb2 (by trivial))
        clear hb2
        have Hn : Hid (∀ r, r < k + 1 → p r = false) := hide (fun r hr => by
          by_cases e : r = k
          · subst e; exact Hpf.out
          · exact Hall.out r (by omega))
        go_wp2
        go_roundw
        case rel =>
          first
          | exact ⟨k + 1, by omega, by go_num, Hn, HB2⟩
          | ((try rw [← ha]); (repeat apply Exists.intro); refine ⟨?_, rfl⟩; exact ⟨k + 1, by omega, by go_num, Hn, HB2⟩)
        case measure => simp [intOf]; omega
    · have Hw : Hid ((List.range l).any p = false) := hide (by
        rw [List.any_eq_false]
        intro r hr
        rw [Hall.out r (by have := List.mem_range.1 hr; omega)]; decide)
      go_wp2
      go_ret
      exact ⟨⟨-1, rfl, by rw [Hw.out]; rfl⟩, HG.out _ _ HB.out⟩

set_option maxHeartbeats 400000 in
theorem containsFunc_inv (fid : Nat) (cap : Array Value) (a : Option Addr) (l q b o : Nat) (f : Nat → Int) (p : Nat → Bool) (w : World) (I : Nat → World → Prop) (G : World → Prop) (hlen : l ≤ maxLen) (hI0 : I 0 w) (hIG : ∀ k W, I k W → G W)
    (hints : ∀ k W, I k W → Ints a l b o f W)
    (hcf : ∀ (args : Array Value) (W : World), (callFunc fid args).run Try.prog W = .ok (.enter fid args) W)
    (hat : ∀ (i : Nat) (W : World), i < l → I i W → Calls Try.prog fid (#[.int .i64 (f i)] ++ cap) W fun e w' => e = .returned (.bool (p i)) ∧ (p i = false → I (i + 1) w') ∧ G w') :
    Calls Try.prog 66 #[.slice a l q, .func (.func fid) #[] cap] w fun e w' => e = .returned (.bool ((List.range l).any p)) ∧ G w' := by
  have HC := hide (indexFunc_inv fid cap a l q b o f p w I G hlen hI0 hIG hints hcf hat)
  clear hI0 hIG hints hat hcf hlen
  go_enter Try.func66, Try.ntmps66
  go_wp2_with fail
  go_at_call 126
  refine HC.out.mono ?_
  rintro e w1 ⟨⟨r, rfl, hr⟩, hb⟩
  have HB := hide hb
  have HR := hide hr
  clear hb hr
  go_wp2
  go_ret
  exact ⟨by rw [← HR.out]; rfl, HB.out⟩

end Go.Proofs.Ytjhkadffaephmab

/-
  path.twice, path.right.
-/
namespace Go.Proofs.Ytjhkadffaephmab
set_option maxRecDepth 100000
open Go.RowKit

theorem calls_twice1 (args : Array Value) (W : World) : (callFunc 193 args).run Try.prog W = .ok (.enter 193 args) W := by rfl

/-- What stands while a path is gone through. -/
structure TwiI (base vb mb : Nat) (w0 : World) (l : List Int) (W : World) : Prop where
  below : Below base w0 W
  met : MetAt l mb W
  box : Blk W vb #[.map (some mb)] 166
  lo : base ≤ mb
  ne : vb ≠ mb
  lob : base ≤ vb

theorem blk_grown {w W : World} {b : Nat} {cs : Array Value} {t : TypeId} {row : Option Nat} (h : Blk w b cs t) (hg : w.grownBy W row) (hne : some b ≠ row) : Blk W b cs t :=
  (hg.block b h.lt hne).trans h

theorem MetAt.more {l : List Int} {b : Nat} {w : World} (h : MetAt l b w) {c : Int} (hc : 0 ≤ c) (h9 : c < 100) (v : Int) :
    ∃ es clock, (Instr.mapUpdate 166 (.map (some b)) (.int .i64 c) (.int .i64 v)).run Try.prog w = .ok () (ChangeMaps.setBlock w b (.map es clock)) ∧
      (Instr.lookup 166 (.map (some b)) (.int .i64 c) false).run Try.prog (ChangeMaps.setBlock w b (.map es clock)) = .ok (.int .i64 v) (ChangeMaps.setBlock w b (.map es clock)) ∧
      (c ∉ l → v = 1 → MetAt (l ++ [c]) b (ChangeMaps.setBlock w b (.map es clock))) ∧ w.grownBy (ChangeMaps.setBlock w b (.map es clock)) (some b) := by
  obtain ⟨ks, cnt, es, clock, hC, he⟩ := h
  obtain ⟨ks', es2, clock2, hupd, _, hnew⟩ := hC.update law3 Try.underlying166 (keyInt (l := c) (WalkArith.wf_i64 (by omega))) v
  classical
  have hC2 := hnew (fun u => if u = .int .i64 c then v else cnt u) (fun u hu => by simp [hu]) (by simp)
  refine ⟨es2, clock2, hupd, ?_, ?_, hC.grown _⟩
  · have := hC2.look law3 Try.underlying166 (keyInt (l := c) (WalkArith.wf_i64 (by omega)))
    simpa using this
  · intro _ hv
    refine ⟨ks', _, es2, clock2, hC2, fun d => ?_⟩
    by_cases e : d = c
    · subst e; simp [hv]
    · have : Value.int .i64 d ≠ .int .i64 c := fun h => e (by injection h)
      show (if Value.int .i64 d = .int .i64 c then _ else cnt (.int .i64 d)) = _
      rw [if_neg this, he d]
      simp [e]

set_option maxHeartbeats 1000000 in
theorem twice1_any (base vb mb : Nat) (w0 : World) (l : List Int) (c : Int) (w : World) (h : TwiI base vb mb w0 l w) (hc : 0 ≤ c) (h9 : c < 100) :
    Calls Try.prog 193 #[.int .i64 c, .pointer (some ⟨vb, 0, none⟩)] w fun e w' => e = .returned (.bool (decide (c ∈ l))) ∧ (decide (c ∈ l) = false → TwiI base vb mb w0 (l ++ [c]) w') ∧ Below base w0 w' := by
  have hlk := h.met.look hc h9
  have x0 := h.box.cell 0
  simp at x0
  by_cases hm : c ∈ l
  · rw [if_pos hm] at hlk
    obtain ⟨es, clock, hupd, hlk2, _, hg⟩ := h.met.more hc h9 2
    have Hr : Hid (decide (c ∈ l) = true) := hide (by simp [hm])
    obtain ⟨W2, hW2⟩ : ∃ W2, W2 = ChangeMaps.setBlock w mb (.map es clock) := ⟨_, rfl⟩
    rw [← hW2] at hupd hlk2 hg
    have y0 := (blk_grown h.box hg (fun e => h.ne (by injection e))).cell 0
    simp at y0
    have HB : Hid (Below base w0 W2) := hide (h.below.trans (grown_below hg (fun g hg => by cases hg; exact h.lo) (by have := h.below.size; exact Nat.le_trans (by have := h.met.lt; have := h.lo; omega) (Nat.le_refl _))))
    clear hm hW2 hg h
    go_enter Try.func193, Try.ntmps193
    go_wp2
    go_ret
    exact ⟨by rw [Hr.out]; rfl, (fun hh => (by rw [Hr.out] at hh; cases hh)), HB.out⟩
  · rw [if_neg hm] at hlk
    obtain ⟨es, clock, hupd, hlk2, hmet, hg⟩ := h.met.more hc h9 1
    have Hr : Hid (decide (c ∈ l) = false) := hide (by simp [hm])
    obtain ⟨W2, hW2⟩ : ∃ W2, W2 = ChangeMaps.setBlock w mb (.map es clock) := ⟨_, rfl⟩
    rw [← hW2] at hupd hlk2 hg hmet
    have b2 := blk_grown h.box hg (fun e => h.ne (by injection e))
    have y0 := b2.cell 0
    simp at y0
    have hb : Below base w0 W2 := h.below.trans (grown_below hg (fun g hg => by cases hg; exact h.lo) (by have := h.met.lt; have := h.lo; omega))
    have HT : Hid (TwiI base vb mb w0 (l ++ [c]) W2) := hide ⟨hb, hmet hm rfl, b2, h.lo, h.ne, h.lob⟩
    clear hm hW2 hg h hmet hb b2
    go_enter Try.func193, Try.ntmps193
    go_wp2
    go_ret
    exact ⟨by rw [Hr.out]; rfl, fun _ => HT.out, HT.out.below⟩

set_option maxHeartbeats 1000000 in
theorem twice_any (a : Option Addr) (l q b o : Nat) (f : Nat → Int) (w : World) (h : Ints a l b o f w) (hb : 0 < l → b < w.heap.size) (hf : ∀ i, i < l → 0 ≤ f i ∧ f i < 100) :
    Calls Try.prog 159 #[.slice a l q] w fun e w' => e = .returned (.bool (twiceIn (listOf l f))) ∧ Below w.heap.size w w' := by
  have hmm := @run_makeMap Try.prog
  obtain ⟨W1, hW1⟩ : ∃ W1, W1 = (w.alloc (.map #[] 0)).alloc (.cells #[.map (some w.heap.size)] 166) := ⟨_, rfl⟩
  have hI : TwiI w.heap.size (w.heap.size + 1) w.heap.size w [] W1 := by
    rw [hW1]
    exact ⟨((Below.refl _ w).alloc (Nat.le_refl _) _).alloc (by simp) _, (MetAt.made w).alloc _, by simpa using Blk.new (w.alloc (.map #[] 0)) #[.map (some w.heap.size)] 166, Nat.le_refl _, by omega, by omega⟩
  have HC := hide (containsFunc_inv 193 #[.pointer (some ⟨w.heap.size + 1, 0, none⟩)] a l q b o f (fun i => decide (f i ∈ listOf i f)) W1 (fun k W => TwiI w.heap.size (w.heap.size + 1) w.heap.size w (listOf k f) W) (fun W => Below w.heap.size w W) h.len hI (fun _ _ h => h.below) (fun k W hk => h.below hk.below hb) calls_twice1
    (fun i W hi hk => by
      have := twice1_any w.heap.size (w.heap.size + 1) w.heap.size w (listOf i f) (f i) W hk (hf i hi).1 (hf i hi).2
      rw [← listOf_succ] at this
      exact this))
  rw [any_twice] at HC
  have HW1 := hide hW1
  rw [hW1] at HC
  clear hI h hb hf hW1
  go_enter Try.func159, Try.ntmps159
  go_wp2_with fail
  go_at_call 66
  refine HC.out.mono ?_
  rintro e w1 ⟨rfl, hb1⟩
  have HB1 := hide hb1
  clear hb1 HC
  go_wp2
  go_ret
  exact ⟨rfl, HB1.out⟩

/-- Whether a route is right, as the program asks it. -/
theorem Net.right_out {n : Net} {r : Rt} (h : (decide (0 ≤ r.w) && decide (r.w < n.a.size)) = false) : n.right r = false := by
  unfold Net.right
  rw [h]
  rfl
theorem Net.right_inv {n : Net} {r : Rt} (h : (decide (0 ≤ r.w) && decide (r.w < n.a.size)) = true) (hv : n.valid r = false) : n.right r = decide (r.p.length = 0) := by
  unfold Net.right
  rw [h, hv, Bool.true_and]
  cases r.p <;> simp
theorem Net.right_val {n : Net} {r : Rt} (h : (decide (0 ≤ r.w) && decide (r.w < n.a.size)) = true) (hv : n.valid r = true) :
    n.right r = (decide (1 ≤ r.p.length) && (decide ((r.p.length : Int) ≤ n.nodes) && ((r.p.all fun c => decide (0 ≤ c) && decide (c < n.nodes)) && !twiceIn r.p))) := by
  unfold Net.right
  rw [h, hv, Bool.true_and]
  simp only [if_true]
  cases hp : r.p with
  | nil => simp
  | cons c l =>
    by_cases h4 : ((c :: l).all fun c => decide (0 ≤ c) && decide (c < n.nodes)) = true
    · rw [h4]
      by_cases h5 : twiceIn (c :: l) = true
      · rw [h5]; simp
      · rw [Bool.not_eq_true] at h5
        have hl := nodup_len n.nodes.toNat (c :: l) (twiceIn_iff.1 h5) (fun d hd => by
          have := List.all_eq_true.1 h4 d hd
          simp only [Bool.and_eq_true, decide_eq_true_eq] at this
          omega)
        have hc := List.all_eq_true.1 h4 c (by simp)
        simp only [Bool.and_eq_true, decide_eq_true_eq] at hc
        have e1 : decide (((c :: l).length : Int) ≤ n.nodes) = true := by rw [decide_eq_true_eq]; omega
        rw [h5, e1]
        simp
    · rw [Bool.not_eq_true] at h4
      rw [h4]
      simp
theorem all_rowIn (l : Nat) (f : Nat → Int) (s : Int) : ((listOf l f).all fun c => decide (0 ≤ c) && decide (c < s)) = rowIn l f s := by
  unfold rowIn listOf
  rw [List.all_map]
  rfl

set_option maxHeartbeats 1000000 in
theorem right_any (n : NetM) (r : RtM) (w : World) (h : r.In w.heap.size w) (hck : n.net.check = 0) :
    Calls Try.prog 91 #[n.val, r.val] w fun e w' => e = .returned (.bool (n.net.right r.rt)) ∧ Below w.heap.size w w' := by
  have g := Net.good_of_check hck
  have hs2 : 2 ≤ n.a.size := g.law.good.lo
  have hs24 : n.a.size ≤ 24 := g.law.good.hi
  have hn6 : n.nodes ≤ 6 := g.hi
  have hlen := h.ints.len
  unfold maxLen at hlen
  obtain ⟨W1, hW1⟩ : ∃ W1, W1 = (w.alloc (.cells n.cells 41)).alloc (.cells r.cells 71) := ⟨_, rfl⟩
  have hB1 : Below w.heap.size w W1 := by rw [hW1]; exact ((Below.refl _ w).alloc (Nat.le_refl _) _).alloc (by simp) _
  have bn : Blk W1 w.heap.size n.cells 41 := by rw [hW1]; exact (Blk.new w _ _).alloc _
  have br : Blk W1 (w.heap.size + 1) r.cells 71 := by rw [hW1]; simpa using Blk.new (w.alloc (.cells n.cells 41)) r.cells 71
  have HS := hide (fun W => sbelow_any r.w n.a.size W)
  have HV := hide (fun W => valid_any n r W hs2 hs24)
  have HA := hide (fun W (hb : Below w.heap.size w W) => sallBelow_any r.pa r.l r.q r.b r.o r.f n.nodes W (h.below hb (Nat.le_refl _)).ints (fun h0 => Nat.lt_of_lt_of_le (h.blk h0) hb.size))
  have HT := hide (fun W (hb : Below w.heap.size w W) (hf : ∀ i, i < r.l → 0 ≤ r.f i ∧ r.f i < 100) => twice_any r.pa r.l r.q r.b r.o r.f W (h.below hb (Nat.le_refl _)).ints (fun h0 => Nat.lt_of_lt_of_le (h.blk h0) hb.size) hf)
  have Hout := hide (Net.right_out (n := n.net) (r := r.rt))
  have Hinv := hide (Net.right_inv (n := n.net) (r := r.rt))
  have Hval := hide (Net.right_val (n := n.net) (r := r.rt))
  have e1 : r.rt.w = r.w := rfl
  have e2 : r.rt.p = listOf r.l r.f := rfl
  have e3 : n.net.a.size = n.a.size := rfl
  have e4 : n.net.nodes = n.nodes := rfl
  rw [e1, e3] at Hout
  rw [e1, e3, e2, listOf_length] at Hinv
  rw [e1, e3, e2, listOf_length, e4, all_rowIn] at Hval
  have Hlim : Hid (rowIn r.l r.f n.nodes = true → ∀ i, i < r.l → 0 ≤ r.f i ∧ r.f i < 100) := hide (fun hr i hi => by have := rowIn_iff.1 hr i hi; omega)
  clear e1 e2 e3 e4 g hck h
  generalize n.net.right r.rt = rg at *
  generalize n.net.valid r.rt = vd at *
  generalize rowIn r.l r.f n.nodes = ri at *
  generalize twiceIn (listOf r.l r.f) = tw at *
  generalize (decide (0 ≤ r.w) && decide (r.w < n.a.size)) = wi at *
  have x0 := bn.cell 0
  have x1 := bn.cell 1
  have x2 := bn.cell 2
  have x3 := bn.cell 3
  have x4 := bn.cell 4
  have y0 := br.cell 0
  have y1 := br.cell 1
  simp [NetM.cells, RtM.cells, Mat.val] at x0 x1 x2 x3 x4 y0 y1
  have HB1 := hide hB1
  have Hbn := hide bn
  have Hbr := hide br
  simp only [NetM.val, NetM.cells, Mat.val, RtM.val, RtM.cells] at HV hW1 ⊢
  clear hB1 bn br
  go_enter Try.func91, Try.ntmps91
  rw [hW1] at x0 x1 x2 x3 x4 y0 y1
  go_wp2_with fail
  rw [← hW1] at x0 x1 x2 x3 x4 y0 y1 ⊢
  clear hW1
  go_at_call 94
  refine (HS.out W1).mono ?_
  rintro e w2 ⟨rfl, rfl⟩
  cases wi with
  | false =>
    have Hr := hide (Hout.out (by trivial))
    clear Hout Hinv Hval
    go_wp2
    go_ret
    exact ⟨by rw [Hr.out]; rfl, HB1.out⟩
  | true =>
    have HV1 := hide (HV.out w2)
    clear Hout
    go_wp2_with fail
    go_at_call 158
    refine HV1.out.mono ?_
    rintro e w3 ⟨rfl, hb3⟩
    have hB3 := HB1.out.trans (hb3.mono HB1.out.size)
    have bn3 := Hbn.out.below hb3 Hbn.out.lt
    have br3 := Hbr.out.below hb3 Hbr.out.lt
    have u3 := bn3.cell 3
    have v1 := br3.cell 1
    simp [NetM.cells, RtM.cells] at u3 v1
    have HB3 := hide hB3
    cases vd with
    | false =>
      have Hr := hide (Hinv.out (by trivial) (by trivial))
      clear Hinv Hval HV1 hb3 bn3 br3 hB3
      go_wp2
      go_ret
      exact ⟨by rw [Hr.out]; by_cases e : r.l = 0 <;> simp [e], HB3.out⟩
    | true =>
      have Hr := hide (Hval.out (by trivial) (by trivial))
      have HA3 := hide (HA.out w3 hB3)
      have Hbn3 := hide bn3
      have Hbr3 := hide br3
      clear Hinv Hval HV1 hb3 bn3 br3 hB3 x0 x1 x2 x3 x4 y0 y1
      by_cases h1 : 1 ≤ r.l
      · have h1i : (1 : Int) ≤ (r.l : Int) := by omega
        by_cases h6 : (r.l : Int) ≤ n.nodes
        · go_wp2_with fail
          go_at_call 133
          refine HA3.out.mono ?_
          rintro e w4 ⟨rfl, hb4⟩
          have hB4 := HB3.out.trans (hb4.mono HB3.out.size)
          have br4 := Hbr3.out.below hb4 Hbr3.out.lt
          have t1 := br4.cell 1
          simp [RtM.cells] at t1
          have HB4 := hide hB4
          cases ri with
          | false =>
            have Hr2 : Hid (rg = false) := hide (by rw [Hr.out]; simp)
            clear Hr hb4 br4 hB4 HA3
            go_wp2
            go_ret
            exact ⟨by rw [Hr2.out]; rfl, HB4.out⟩
          | true =>
            have Hr2 : Hid (rg = !tw) := hide (by rw [Hr.out]; simp [h1, h6])
            have HT4 := hide (HT.out w4 hB4 (Hlim.out (by trivial)))
            clear Hr hb4 br4 hB4 HA3
            go_wp2_with fail
            go_at_call 159
            refine HT4.out.mono ?_
            rintro e w5 ⟨rfl, hb5⟩
            have HB5 := hide (HB4.out.trans (hb5.mono HB4.out.size))
            clear hb5 HT4
            go_wp2
            go_ret
            exact ⟨by rw [Hr2.out]; rfl, HB5.out⟩
        · have h6i : n.nodes < (r.l : Int) := by omega
          have Hr2 : Hid (rg = false) := hide (by rw [Hr.out]; simp [h6])
          clear Hr h6 HA3
          go_wp2
          go_ret
          exact ⟨by rw [Hr2.out]; rfl, HB3.out⟩
      · have h1i : (r.l : Int) < 1 := by omega
        have Hr2 : Hid (rg = false) := hide (by rw [Hr.out]; simp [h1])
        clear Hr h1 HA3
        go_wp2
        go_ret
        exact ⟨by rw [Hr2.out]; rfl, HB3.out⟩

end Go.Proofs.Ytjhkadffaephmab

/-
  slices.Compare; path.ahead, path.begins.
-/
namespace Go.Proofs.Ytjhkadffaephmab
set_option maxRecDepth 100000
open Go.RowKit

theorem lexLt_append : ∀ (xs a b : List Int), lexLt (xs ++ a) (xs ++ b) = lexLt a b
  | [], _, _ => rfl
  | x :: xs, a, b => by
    rw [List.cons_append, List.cons_append, lexLt, if_pos rfl]
    exact lexLt_append xs a b
theorem listOf_split {l k : Nat} (h : k ≤ l) (f : Nat → Int) : listOf l f = listOf k f ++ (listOf l f).drop k := by
  have : (listOf l f).take k = listOf k f := by
    unfold listOf
    rw [← List.map_take, List.take_range, Nat.min_eq_left h]
  rw [← this, List.take_append_drop]
theorem lexLt_at {l k : Nat} {f g : Nat → Int} (hk : k < l) (h : ∀ i, i < k → f i = g i) (hne : f k ≠ g k) : lexLt (listOf l f) (listOf l g) = decide (f k < g k) := by
  rw [listOf_split (Nat.le_of_lt hk) f, listOf_split (Nat.le_of_lt hk) g, listOf_congr h, lexLt_append, listOf_drop hk, listOf_drop hk, lexLt, if_neg hne]
theorem lexLt_same {l : Nat} {f g : Nat → Int} (h : ∀ i, i < l → f i = g i) : lexLt (listOf l f) (listOf l g) = false := by
  rw [listOf_congr h]
  exact lexLt_irrefl _

set_option maxHeartbeats 400000 in
theorem isNaN_any (x : Int) (w : World) : Calls Try.prog 206 #[.int .i64 x] w fun e w' => e = .returned (.bool false) ∧ w' = w := by
  go_enter Try.func206, Try.ntmps206
  go_wp2
  go_ret
  exact ⟨by simp, rfl⟩

def cmpI (x y : Int) : Int := if x < y then -1 else if y < x then 1 else 0
set_option maxHeartbeats 1000000 in
theorem compare_any (x y : Int) (w : World) : Calls Try.prog 205 #[.int .i64 x, .int .i64 y] w fun e w' => e = .returned (.int .i64 (cmpI x y)) ∧ w' = w := by
  have H := hide isNaN_any
  have Hd : Hid (cmpI x y = if x < y then -1 else if y < x then 1 else 0) := hide rfl
  go_enter Try.func205, Try.ntmps205
  go_wp2_with fail
  go_at_call 206
  refine (H.out x w).mono ?_
  rintro e w1 ⟨rfl, rfl⟩
  go_wp2_with fail
  go_at_call 206
  refine (H.out y w1).mono ?_
  rintro e w2 ⟨rfl, rfl⟩
  by_cases h1 : x < y
  · have Hr : Hid (cmpI x y = -1) := hide (by rw [Hd.out, if_pos h1])
    go_wp2
    go_ret
    exact ⟨by rw [Hr.out]; rfl, rfl⟩
  · have h1' : y ≤ x := by omega
    by_cases h2 : y < x
    · have Hr : Hid (cmpI x y = 1) := hide (by rw [Hd.out, if_neg h1, if_pos h2])
      clear h1
      go_wp2
      go_ret
      exact ⟨by rw [Hr.out]; rfl, rfl⟩
    · have Hr : Hid (cmpI x y = 0) := hide (by rw [Hd.out, if_neg h1, if_neg h2])
      have h2' : x ≤ y := by omega
      clear h1 h2
      go_wp2
      go_ret
      exact ⟨by rw [Hr.out]; rfl, rfl⟩

set_option maxHeartbeats 1000000 in
theorem compare_ints (a1 a2 : Option Addr) (l q1 q2 b1 o1 b2 o2 : Nat) (f g : Nat → Int) (w : World) (h1 : Ints a1 l b1 o1 f w) (h2 : Ints a2 l b2 o2 g w) :
    Calls Try.prog 194 #[.slice a1 l q1, .slice a2 l q2] w fun e w' => (∃ r : Int, e = .returned (.int .i64 r) ∧ decide (r < 0) = lexLt (listOf l f) (listOf l g)) ∧ w' = w := by
  have hlen := h1.len
  unfold maxLen at hlen
  have H1 := hide h1
  have H2 := hide h2
  have HC := hide compare_any
  clear h1 h2
  go_enter Try.func194, Try.ntmps194
  go_wp2_with fail
  go_loopw [5, 6, 7, 8, 11] (fun _ _ _ _ i wr => ∃ k : Nat, k ≤ l ∧ i = .int .i64 k ∧ Hid (∀ r, r < k → f r = g r) ∧ Hid (wr = w)) (fun _ _ _ _ i _ => l - (intOf i).toNat)
  case atStart => exact ⟨0, Nat.zero_le _, rfl, hide (fun r hr => absurd hr (Nat.not_lt_zero _)), hide rfl⟩
  case round =>
    obtain ⟨k, hk, rfl, Hall, HW⟩ := hrel
    have hww : wr = w := HW.out
    subst hww
    by_cases hlt : k < l
    · have ha1 := H1.out.addr (by omega)
      have hc1 := H1.out.cell k hlt
      have ha2 := H2.out.addr (by omega)
      have hc2 := H2.out.cell k hlt
      have hki : (k : Int) < (l : Int) := by omega
      have HK := hide (HC.out (f k) (g k) wr)
      by_cases hne : f k = g k
      · have hz : cmpI (f k) (g k) = 0 := by unfold cmpI; rw [if_neg (by omega), if_neg (by omega)]
        rw [hz] at HK
        have Hn : Hid (∀ r, r < k + 1 → f r = g r) := hide (fun r hr => by
          by_cases e : r = k
          · subst e; exact hne
          · exact Hall.out r (by omega))
        clear hne hz
        go_wp2_with fail
        go_at_call 205
        refine HK.out.mono ?_
        rintro e w2 ⟨rfl, rfl⟩
        go_wp2
        go_roundw
        case rel =>
          first
          | exact ⟨k + 1, by omega, by go_num, Hn, hide (by first | rfl | trivial)⟩
          | ((try rw [← ha1]); (try rw [← ha2]); (repeat apply Exists.intro); refine ⟨?_, rfl⟩; exact ⟨k + 1, by omega, by go_num, Hn, hide (by first | rfl | trivial)⟩)
        case measure => simp [intOf]; omega
      · have Hl := hide (lexLt_at hlt Hall.out hne)
        have Hcz : Hid (decide (cmpI (f k) (g k) < 0) = decide (f k < g k)) := hide (by
          unfold cmpI
          by_cases h1 : f k < g k
          · rw [if_pos h1]; simp [h1]
          · rw [if_neg h1]
            by_cases h2 : g k < f k
            · rw [if_pos h2]; simp [h1]
            · rw [if_neg h2]; simp [h1])
        have hz : (cmpI (f k) (g k) != 0) = true := by
          unfold cmpI
          by_cases h1 : f k < g k
          · rw [if_pos h1]; rfl
          · rw [if_neg h1, if_pos (by omega)]; rfl
        generalize cmpI (f k) (g k) = cv at *
        clear hne
        go_wp2_with fail
        go_at_call 205
        refine HK.out.mono ?_
        rintro e w2 ⟨rfl, rfl⟩
        go_wp2
        go_ret
        exact ⟨⟨cv, rfl, by rw [Hcz.out, Hl.out]⟩, rfl⟩
    · have hki : (l : Int) ≤ (k : Int) := by omega
      have Hl := hide (lexLt_same (l := l) (f := f) (g := g) (fun i hi => Hall.out i (by omega)))
      go_wp2
      go_ret
      exact ⟨⟨0, rfl, by rw [Hl.out]; rfl⟩, rfl⟩

set_option maxHeartbeats 1000000 in
theorem begins_any (n : NetM) (r : RtM) (i : Int) (w : World) (h : r.In w.heap.size w) (h2 : 2 ≤ n.a.size) (h24 : n.a.size ≤ 24) (hv : n.net.valid r.rt = true → 0 < r.l) :
    Calls Try.prog 95 #[n.val, r.val, .int .i64 i] w fun e w' => e = .returned (.bool (!n.net.valid r.rt || r.f 0 == i)) ∧ Below w.heap.size w w' := by
  obtain ⟨W1, hW1⟩ : ∃ W1, W1 = (w.alloc (.cells n.cells 41)).alloc (.cells r.cells 71) := ⟨_, rfl⟩
  have hB1 : Below w.heap.size w W1 := by rw [hW1]; exact ((Below.refl _ w).alloc (Nat.le_refl _) _).alloc (by simp) _
  have br : Blk W1 (w.heap.size + 1) r.cells 71 := by rw [hW1]; simpa using Blk.new (w.alloc (.cells n.cells 41)) r.cells 71
  have HV := hide (fun W => valid_any n r W h2 h24)
  have H := hide h
  have HB1 := hide hB1
  have Hbr := hide br
  generalize n.net.valid r.rt = vd at *
  have Hv0 := hide hv
  simp only [NetM.val, NetM.cells, Mat.val, RtM.val, RtM.cells] at HV hW1 ⊢
  clear hB1 br h hv
  go_enter Try.func95, Try.ntmps95
  go_wp2_with fail
  rw [← hW1]
  clear hW1
  go_at_call 158
  refine (HV.out W1).mono ?_
  rintro e w2 ⟨rfl, hb2⟩
  have HB2 := hide (HB1.out.trans (hb2.mono HB1.out.size))
  have b2 := Hbr.out.below hb2 Hbr.out.lt
  have y1 := b2.cell 1
  simp [RtM.cells] at y1
  clear hb2 b2
  cases vd with
  | false =>
    go_wp2
    go_ret
    exact ⟨rfl, HB2.out⟩
  | true =>
    have hl := Hv0.out (by trivial)
    have hI := (H.out.below HB2.out (Nat.le_refl _)).ints
    have ha := hI.addr hl
    have hc := hI.cell 0 hl
    have hli : (0 : Int) < (r.l : Int) := by omega
    simp only [Nat.add_zero] at hc
    clear hI
    go_wp2
    go_ret
    exact ⟨by simp, HB2.out⟩

set_option maxHeartbeats 2000000 in
theorem ahead_any (n : NetM) (a b : RtM) (w : World) (h : n.In w.heap.size w) (hck : n.net.check = 0) (ha : a.In w.heap.size w) (hb : b.In w.heap.size w) (ha0 : 0 ≤ a.w) (ha1 : a.w < n.a.size) (hb0 : 0 ≤ b.w) (hb1 : b.w < n.a.size) :
    Calls Try.prog 160 #[n.val, a.val, b.val] w fun e w' => e = .returned (.bool (n.net.ahead a.rt b.rt)) ∧ Below w.heap.size w w' := by
  have g := Net.good_of_check hck
  have hla := ha.ints.len
  have hlb := hb.ints.len
  unfold maxLen at hla hlb
  obtain ⟨W1, hW1⟩ : ∃ W1, W1 = ((w.alloc (.cells n.cells 41)).alloc (.cells a.cells 71)).alloc (.cells b.cells 71) := ⟨_, rfl⟩
  have hB1 : Below w.heap.size w W1 := by rw [hW1]; exact (((Below.refl _ w).alloc (Nat.le_refl _) _).alloc (by simp) _).alloc (by simp; omega) _
  have bn : Blk W1 w.heap.size n.cells 41 := by rw [hW1]; exact ((Blk.new w _ _).alloc _).alloc _
  have ba : Blk W1 (w.heap.size + 1) a.cells 71 := by rw [hW1]; exact (show Blk _ (w.heap.size + 1) a.cells 71 by simpa using Blk.new (w.alloc (.cells n.cells 41)) a.cells 71).alloc _
  have bb : Blk W1 (w.heap.size + 1 + 1) b.cells 71 := by rw [hW1]; simpa using Blk.new ((w.alloc (.cells n.cells 41)).alloc (.cells a.cells 71)) b.cells 71
  have hI := h.below hB1 (Nat.le_refl _)
  have hIa := ha.below hB1 (Nat.le_refl _)
  have hIb := hb.below hB1 (Nat.le_refl _)
  obtain ⟨na, hna⟩ : ∃ na : Nat, a.w = na := ⟨a.w.toNat, by omega⟩
  obtain ⟨nb, hnb⟩ : ∃ nb : Nat, b.w = nb := ⟨b.w.toNat, by omega⟩
  obtain ⟨c1, c2, c3, c4, c5⟩ := hI.bestAt g (r := na) (s := nb) (by omega) (by omega)
  have x1 := bn.cell 1
  have y0 := ba.cell 0
  have y1 := ba.cell 1
  have z0 := bb.cell 0
  have z1 := bb.cell 1
  simp [NetM.cells, RtM.cells, Mat.val] at x1 y0 y1 z0 z1
  have Hd : Hid (n.net.ahead a.rt b.rt = if a.w = b.w then (if a.l = b.l then lexLt (listOf a.l a.f) (listOf b.l b.f) else decide (a.l < b.l)) else n.net.a.B.get a.w b.w == a.w) := hide (by
    show (if a.w = b.w then (if (listOf a.l a.f).length = (listOf b.l b.f).length then lexLt (listOf a.l a.f) (listOf b.l b.f) else decide ((listOf a.l a.f).length < (listOf b.l b.f).length)) else _) = _
    rw [listOf_length, listOf_length]
    rfl)
  generalize n.net.ahead a.rt b.rt = av at *
  have HB1 := hide hB1
  have HIa := hide hIa.ints
  have HIb := hide hIb.ints
  simp only [NetM.val, NetM.cells, Mat.val, RtM.val, RtM.cells] at hW1 ⊢
  clear hB1 bn ba bb hI hIa hIb h ha hb g hck
  rw [c1] at hW1 x1 ⊢
  clear c1
  rw [hna] at y0 ⊢
  rw [hnb] at z0 ⊢
  rw [hna, hnb] at hW1 Hd
  clear ha0 ha1 hb0 hb1 hna hnb
  by_cases hw : na = nb
  · subst hw
    by_cases hl : a.l = b.l
    · have hl' : ((a.l : Int) != (b.l : Int)) = false := by simp [hl]
      have HC := hide (compare_ints a.pa b.pa a.l a.q b.q a.b a.o b.b b.o a.f b.f W1 HIa.out (by rw [hl]; exact HIb.out))
      have Hr : Hid (av = lexLt (listOf a.l a.f) (listOf a.l b.f)) := hide (by rw [Hd.out, if_pos rfl, if_pos hl, ← hl])
      rw [← hl] at z1 hW1 ⊢
      clear Hd hl' hl
      subst hW1
      go_enter Try.func160, Try.ntmps160
      go_wp2_with fail
      go_at_call 194
      refine HC.out.mono ?_
      rintro e w2 ⟨⟨r, rfl, hr⟩, rfl⟩
      have Hrr := hide hr
      clear hr HC
      go_wp2
      go_ret
      exact ⟨by rw [Hr.out, ← Hrr.out]; rfl, HB1.out⟩
    · have hl' : ((a.l : Int) != (b.l : Int)) = true := by simp; omega
      have Hr : Hid (av = decide (a.l < b.l)) := hide (by rw [Hd.out, if_pos rfl, if_neg hl])
      clear Hd hl
      subst hW1
      go_enter Try.func160, Try.ntmps160
      go_wp2
      go_ret
      exact ⟨by rw [Hr.out]; simp, HB1.out⟩
  · have hw' : ((na : Int) != (nb : Int)) = true := by simp; omega
    have Hr : Hid (av = (n.net.a.B.get na nb == (na : Int))) := hide (by rw [Hd.out, if_neg (by omega)])
    clear Hd hw
    subst hW1
    go_enter Try.func160, Try.ntmps160
    go_wp2_with fail
    go_quiet (fail)
    go_wp2
    go_ret
    exact ⟨by rw [Hr.out]; rfl, by first | exact below_drewN HB1.out _ | exact HB1.out⟩

end Go.Proofs.Ytjhkadffaephmab
