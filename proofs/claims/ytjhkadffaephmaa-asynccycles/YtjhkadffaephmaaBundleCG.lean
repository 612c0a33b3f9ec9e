/-
  Our own texts, bundled: a claim holds few files.
-/
import Derived.Test.YtjhkadffaephmaaBundleCE
/-
  signpostref.uses.
-/
namespace Go.Proofs.Ytjhkadffaephmaa
set_option maxRecDepth 100000
open Go.RowKit

/-- Turn k uses, for this node and of that one, what is older. -/
def Old (n : NetM) (s : SchedM) (k than i q : Nat) : Prop := (s.turn k).act i = true ∧ 0 ≤ n.net.edge i q ∧ ((k : Int) + 1 - (s.turn k).ages.t.Z i q).toNat < than

set_option maxHeartbeats 4000000 in
theorem refUses_any (n : NetM) (s : SchedM) (k than : Nat) (w : World) (h : n.In w.heap.size w) (hs : s.In w.heap.size w) (hp : n.net.Plays s.sched) (hk : k < s.tn) :
    Calls Try.prog 94 #[n.val, s.val, .int .i64 ((k : Int) + 1), .int .i64 than] w fun e w' => e = .returned (.bool (n.net.uses s.sched k than)) ∧ Below w.heap.size w w' := by
  have gd := Net.good_of_check hp.net
  have lo := gd.lo
  have hi6 := gd.hi
  obtain ⟨N, hN⟩ : ∃ N : Nat, n.nodes = N := ⟨n.nodes.toNat, by have : n.net.nodes = n.nodes := rfl; omega⟩
  have hNN : n.net.N = N := by show n.nodes.toNat = N; omega
  have hN6 : N ≤ 6 := by have : n.net.nodes = n.nodes := rfl; omega
  have hmany : s.tn ≤ 200 := hp.many
  have hki : (k : Int) < (s.tn : Int) := by omega
  have hcells : n.cells = #[.int .i64 n.a.size, .slice n.a.B.ga n.a.B.t.len n.a.B.cap, .slice n.a.E.ga n.a.E.t.len n.a.E.cap, .int .i64 N, .slice n.la n.ln n.lc] := by simp only [NetM.cells, Mat.val, hN]
  have hval : n.val = .agg #[.int .i64 n.a.size, .slice n.a.B.ga n.a.B.t.len n.a.B.cap, .slice n.a.E.ga n.a.E.t.len n.a.E.cap, .int .i64 N, .slice n.la n.ln n.lc] := by rw [NetM.val, hcells]
  have hok : (s.turn k).Ok N := by rw [← hNN]; exact hp.ok hk
  have HU := hide (fun (i q : Nat) (hi : i < N) (hq : q < N) W (hb : Below w.heap.size w W) => refUsed_any (s.turn k) N k i q W ((hs.grown hb).each k hk) hok hi hq (by omega))
  have HEd := hide (fun (i q : Nat) W (hb : Below w.heap.size w W) => edgeOf_any n (i : Int) (q : Int) W (h.grown hb))
  have HS := hide (fun W (hb : Below w.heap.size w W) => hs.grown hb)
  have HTa := hide hs.ta
  have Hyes : Hid (∀ i, i < N → ∀ q, q < N → (s.turn k).act i = true → 0 ≤ n.net.edge i q → ((k : Int) + 1 - (s.turn k).ages.t.Z i q).toNat < than → n.net.uses s.sched k than = true) := hide (fun i hi q hq h1 h2 h3 => Net.uses_iff.2 ⟨i, by rw [hNN]; exact hi, q, by rw [hNN]; exact hq, h1, h2, h3⟩)
  have Hno : Hid ((∀ i, i < N → ∀ q, q < N → ¬ Old n s k than i q) → n.net.uses s.sched k than = false) := hide (fun hn => by
    rw [Bool.eq_false_iff]
    intro hu
    obtain ⟨i, hi, q, hq, h1, h2, h3⟩ := Net.uses_iff.1 hu
    exact hn i (by rw [← hNN]; exact hi) q (by rw [← hNN]; exact hq) ⟨h1, h2, h3⟩)
  have Han : Hid ((s.turn k).an = N) := hide hok.an
  obtain ⟨W0, hW0⟩ : ∃ W0, W0 = w.alloc (.cells #[.int .i64 n.a.size, .slice n.a.B.ga n.a.B.t.len n.a.B.cap, .slice n.a.E.ga n.a.E.t.len n.a.E.cap, .int .i64 N, .slice n.la n.ln n.lc] 50) := ⟨_, rfl⟩
  have B0 : Hid (Below w.heap.size w W0) := hide (by rw [hW0]; exact (Below.refl _ w).alloc (Nat.le_refl _) _)
  have Hb0 : Hid (Blk W0 w.heap.size #[.int .i64 n.a.size, .slice n.a.B.ga n.a.B.t.len n.a.B.cap, .slice n.a.E.ga n.a.E.t.len n.a.E.cap, .int .i64 N, .slice n.la n.ln n.lc] 50) := hide (by rw [hW0]; exact Blk.new w _ _)
  simp only [TurnM.val, TurnM.cells, Mat.val] at HU
  rw [hval] at HEd ⊢
  simp only [SchedM.val]
  clear hN hval h hNN lo hi6 gd hp hs hok
  go_enter Try.func94, Try.ntmps94
  go_wp2_with fail
  rw [← hW0]
  clear hW0
  go_loopw [9, 10] (fun q _ wr => ∃ i : Nat, i ≤ N ∧ q = .int .i64 i ∧ Hid (∀ i', i' < i → ∀ q, q < N → ¬ Old n s k than i' q) ∧ Hid (Below W0.heap.size W0 wr)) (fun q _ _ => N - (intOf q).toNat)
  case atStart => exact ⟨0, Nat.zero_le _, rfl, hide (fun r hr => absurd hr (Nat.not_lt_zero _)), hide (Below.refl _ _)⟩
  case round =>
    obtain ⟨i, hi, rfl, Hall, HB⟩ := hrel
    have bN := Hb0.out.below HB.out Hb0.out.lt
    have x3 := bN.cell 3
    simp at x3
    by_cases hil : i < N
    · have hii : (i : Int) < (N : Int) := by omega
      obtain ⟨W1, hW1⟩ : ∃ W1, W1 = wr := ⟨wr, rfl⟩
      rw [← hW1] at HB
      go_wp2_with fail
      rw [← hW1]
      clear hW1 bN x3
      go_loopw [10] (fun q wr => ∃ j : Nat, j ≤ N ∧ q = .int .i64 j ∧ Hid (∀ q, q < j → ¬ Old n s k than i q) ∧ Hid (Below W0.heap.size W0 wr)) (fun q _ => N - (intOf q).toNat)
      case atStart => exact ⟨0, Nat.zero_le _, rfl, hide (fun r hr => absurd hr (Nat.not_lt_zero _)), HB⟩
      case round =>
        clear HB
        obtain ⟨j, hj, rfl, Hrow, HB⟩ := hrel
        have bN := Hb0.out.below HB.out Hb0.out.lt
        have x0 := bN.cell 0
        have x1 := bN.cell 1
        have x2 := bN.cell 2
        have x3 := bN.cell 3
        have x4 := bN.cell 4
        simp at x0 x1 x2 x3 x4
        by_cases hjl : j < N
        · have hji : (j : Int) < (N : Int) := by omega
          have hBw := B0.out.trans (HB.out.mono B0.out.size)
          have hIw := HS.out wr hBw
          have hta := HTa.out (by omega)
          have c0 := hIw.c0 k hk
          have c1 := hIw.c1 k hk
          rw [Mat.val] at c1
          have hE := hIw.each k hk
          have hian : i < (s.turn k).an := by rw [Han.out]; exact hil
          have haa := hE.aa (by omega)
          have hcell := hE.cell i hian
          have hia : (i : Int) < ((s.turn k).an : Int) := by omega
          have HE1 := hide (HEd.out i j wr hBw)
          have hba : Below wr.heap.size wr (wr.alloc (.cells n.cells 50)) := (Below.refl _ wr).alloc (Nat.le_refl _) _
          have hBa := hBw.trans (hba.mono hBw.size)
          have HU1 := hide (HU.out i j hil hjl _ hBa)
          have hIa := HS.out _ hBa
          have d0 := hIa.c0 k hk
          have d1 := hIa.c1 k hk
          rw [Mat.val] at d1
          have HBa := hide (HB.out.trans (hba.mono HB.out.size))
          have Hy := hide (Hyes.out i hil j hjl)
          have hOl : Old n s k than i j = ((s.turn k).act i = true ∧ 0 ≤ n.net.edge i j ∧ ((k : Int) + 1 - (s.turn k).ages.t.Z i j).toNat < than) := rfl
          have HOl := hide hOl
          have Hn : Hid (¬ Old n s k than i j → ∀ q, q < j + 1 → ¬ Old n s k than i q) := hide (fun h0 q hq => by
            by_cases e : q = j
            · subst e; exact h0
            · exact Hrow.out q (by omega))
          clear hOl
          generalize (((k : Int) + 1 - (s.turn k).ages.t.Z i j).toNat) = us at *
          generalize n.net.edge i j = ed at *
          rw [hcells] at HE1 d0 d1 HU1 HBa
          clear hIw hE bN hba hBa hIa hBw Hrow
          rw [haa] at c0
          by_cases hac : (s.turn k).act i = true
          rotate_left
          · have hac' : (s.turn k).act i = false := by simpa using hac
            rw [hac'] at hcell
            have Hn2 := hide (Hn.out (by rw [HOl.out]; exact fun hq => hac hq.1))
            clear Hn Hy hac hac' HE1 HU1 haa
            go_wp2
            go_roundw
            case rel =>
              first
              | exact ⟨j + 1, by omega, by go_num, Hn2, HB⟩
              | exact ⟨j + 1, by omega, by omega, Hn2⟩
              | ((repeat apply Exists.intro); refine ⟨?_, rfl⟩; exact ⟨j + 1, by omega, by go_num, Hn2, HB⟩)
              | (rw [← hta]; (repeat apply Exists.intro); refine ⟨?_, rfl⟩; exact ⟨j + 1, by omega, by go_num, Hn2, HB⟩)
            case measure => simp [intOf]; omega
          rw [hac] at hcell
          have Hac := hide hac
          clear hac haa
          go_wp2_with fail
          go_at_call 115
          refine HE1.out.mono ?_
          rintro e w2 ⟨rfl, rfl⟩
          clear HE1
          by_cases hed : 0 ≤ ed
          rotate_left
          · have Hn2 := hide (Hn.out (by rw [HOl.out]; exact fun hq => hed hq.2.1))
            clear Hn Hy HU1
            go_wp2
            go_roundw
            case rel =>
              first
              | exact ⟨j + 1, by omega, by go_num, Hn2, HBa⟩
              | exact ⟨j + 1, by omega, by omega, Hn2⟩
              | ((repeat apply Exists.intro); refine ⟨?_, rfl⟩; exact ⟨j + 1, by omega, by go_num, Hn2, HBa⟩)
              | (rw [← hta]; (repeat apply Exists.intro); refine ⟨?_, rfl⟩; exact ⟨j + 1, by omega, by go_num, Hn2, HBa⟩)
            case measure => simp [intOf]; omega
          have Hed := hide hed
          go_wp2_with fail
          go_at_call 92
          refine HU1.out.mono ?_
          rintro e w3 ⟨rfl, hb3⟩
          have HB3 := hide (HBa.out.trans (hb3.mono HBa.out.size))
          clear HU1 hb3
          by_cases hus : us < than
          · have hus' : (us : Int) < (than : Int) := by omega
            have hfin := hide (Hy.out Hac.out Hed.out hus)
            have HBf := hide (B0.out.trans (HB3.out.mono B0.out.size))
            clear Hy Hn
            go_wp2
            go_ret
            exact ⟨by rw [hfin.out]; rfl, HBf.out⟩
          · have hus' : (than : Int) ≤ (us : Int) := by omega
            have Hn2 := hide (Hn.out (by rw [HOl.out]; exact fun hq => hus hq.2.2))
            clear Hn Hy
            go_wp2
            go_roundw
            case rel =>
              first
              | exact ⟨j + 1, by omega, by go_num, Hn2, HB3⟩
              | exact ⟨j + 1, by omega, by omega, Hn2⟩
              | ((repeat apply Exists.intro); refine ⟨?_, rfl⟩; exact ⟨j + 1, by omega, by go_num, Hn2, HB3⟩)
              | (rw [← hta]; (repeat apply Exists.intro); refine ⟨?_, rfl⟩; exact ⟨j + 1, by omega, by go_num, Hn2, HB3⟩)
            case measure => simp [intOf]; omega
        · have hji : (N : Int) ≤ (j : Int) := by omega
          have Hn2 : Hid (∀ i', i' < i + 1 → ∀ q, q < N → ¬ Old n s k than i' q) := hide (fun i' hi' q hq => by
            by_cases e : i' = i
            · subst e; exact Hrow.out q (by omega)
            · exact Hall.out i' (by omega) q hq)
          go_wp2
          go_roundw
          case rel =>
            first
            | exact ⟨i + 1, by omega, by go_num, Hn2, HB⟩
            | ((repeat apply Exists.intro); refine ⟨?_, rfl⟩; exact ⟨i + 1, by omega, by go_num, Hn2, HB⟩)
          case measure => simp [intOf]; omega
    · have hii : (N : Int) ≤ (i : Int) := by omega
      have hfin : Hid (n.net.uses s.sched k than = false) := hide (Hno.out (fun i' hi' => Hall.out i' (by omega)))
      have HBf := hide (B0.out.trans (HB.out.mono B0.out.size))
      go_wp2
      go_ret
      exact ⟨by rw [hfin.out]; rfl, HBf.out⟩

end Go.Proofs.Ytjhkadffaephmaa

/-
  signpostref.CyclesOf.
-/
namespace Go.Proofs.Ytjhkadffaephmaa
set_option maxRecDepth 100000
open Go.RowKit

theorem Try.infoBool : (Try.prog.info? 4).map (fun i => (i.zero, i.size, i.bytes)) = some (some (.bool false), 1, 1) := by kernel_rfl

/-- Cells of truth. -/
def bArr (p : Nat → Bool) (n : Nat) : Array Value := ((List.range n).map fun j => Value.bool (p j)).toArray
theorem bArr_get {p : Nat → Bool} {n j : Nat} (h : j < n) : (bArr p n)[j]? = some (.bool (p j)) := by simp [bArr, h]
theorem bArr_zero (n : Nat) : madeCells #[.bool false] n = bArr (fun _ => false) n := by
  apply Array.ext'
  rw [toList_madeCells_one]
  simp [bArr, List.map_const']
theorem bArr_congr {p q : Nat → Bool} {n : Nat} (h : ∀ j, j < n → p j = q j) : bArr p n = bArr q n := by
  unfold bArr
  congr 1
  apply List.map_congr_left
  intro j hj
  rw [h j (by simpa using hj)]
theorem bArr_set {p : Nat → Bool} {n i : Nat} {b : Bool} : (bArr p n).setIfInBounds i (.bool b) = bArr (fun j => if j = i then b else p j) n := by
  apply Array.ext'
  apply List.ext_getElem?
  intro j
  simp only [bArr, List.setIfInBounds_toArray]
  by_cases hn : j < n
  · by_cases e : j = i
    · subst e
      rw [List.getElem?_set_self (by simpa using hn)]
      simp [hn]
    · rw [List.getElem?_set_ne (Ne.symm e)]
      simp [hn, e]
  · rw [List.getElem?_eq_none (by simp; omega), List.getElem?_eq_none (by simp; omega)]

/-- Is one of the first left? -/
def lft (p : Nat → Bool) (n : Nat) : Bool := (List.range n).any fun j => !(p j)
theorem lft_succ (p : Nat → Bool) (n : Nat) : lft p (n + 1) = (lft p n || !(p n)) := by simp [lft, List.range_succ]
theorem lft_iff {p : Nat → Bool} {n : Nat} : lft p n = false ↔ ∀ j, j < n → p j = true := by simp [lft]
theorem Sched.met_self {s : Sched} {i f : Nat} : s.met i f f = false := by
  rw [Bool.eq_false_iff]
  intro h
  obtain ⟨k, h1, h2, _⟩ := Sched.met_iff.1 h
  omega

set_option maxHeartbeats 8000000 in
theorem cyclesOf_any (n : NetM) (s : SchedM) (w : World) (h : n.In w.heap.size w) (hs : s.In w.heap.size w) (hp : n.net.Plays s.sched) :
    Calls Try.prog 51 #[n.val, s.val] w fun e w' => e = .returned (.int .i64 ((n.net.cycles s.sched 0 : Nat) : Int)) ∧ Below w.heap.size w w' := by
  have gd := Net.good_of_check hp.net
  have lo := gd.lo
  have hi6 := gd.hi
  obtain ⟨N, hN⟩ : ∃ N : Nat, n.nodes = N := ⟨n.nodes.toNat, by have : n.net.nodes = n.nodes := rfl; omega⟩
  have hNN : n.net.N = N := by show n.nodes.toNat = N; omega
  have hN6 : N ≤ 6 := by have : n.net.nodes = n.nodes := rfl; omega
  have hN1 : 0 < N := by have : n.net.nodes = n.nodes := rfl; omega
  have hmany : s.tn ≤ 200 := hp.many
  obtain ⟨i1, hi1, hy0, hy1, hy2⟩ := info_parts Try.infoBool
  have hmk : ∀ u : World, (Instr.makeSlice 121 (.int .i64 (N : Int)) (.int .i64 (N : Int))).run Try.prog u = .ok (.slice (some ⟨u.heap.size, 0, none⟩) N N) (u.alloc (.cells (madeCells #[.bool false] N) 4)) := fun u => by
    have h := run_make (P := Try.prog) u 121 4 i1 (.bool false) Try.underlying121 hi1 hy0 .i64 .i64 (N : Int) (N : Int) (by omega) (Int.le_refl _) (by rw [hy2]; omega) (by omega)
    simpa [hy1, Value.cells] using h
  have hcells : n.cells = #[.int .i64 n.a.size, .slice n.a.B.ga n.a.B.t.len n.a.B.cap, .slice n.a.E.ga n.a.E.t.len n.a.E.cap, .int .i64 N, .slice n.la n.ln n.lc] := by simp only [NetM.cells, Mat.val, hN]
  have hval : n.val = .agg #[.int .i64 n.a.size, .slice n.a.B.ga n.a.B.t.len n.a.B.cap, .slice n.a.E.ga n.a.E.t.len n.a.E.cap, .int .i64 N, .slice n.la n.ln n.lc] := by rw [NetM.val, hcells]
  have HU := hide (fun (k e : Nat) (hk : k < s.tn) W (hb : Below w.heap.size w W) => refUses_any n s k e W (h.grown hb) (hs.grown hb) hp hk)
  have HS := hide (fun W (hb : Below w.heap.size w W) => hs.grown hb)
  have HTa := hide hs.ta
  have HAn : Hid (∀ k, k < s.tn → (s.turn k).an = N) := hide (fun k hk => by rw [← hNN]; exact hp.al k hk)
  have HMet : Hid (∀ f d, n.net.allMet s.sched f d = true ↔ ∀ i, i < N → s.sched.met i f d = true) := hide (fun f d => by rw [Net.allMet_iff, hNN])
  have HPast : Hid (∀ e k, n.net.past s.sched e (k + 1) = if e ≤ k ∧ n.net.uses s.sched k e = true then k + 1 else n.net.past s.sched e k) := hide (fun _ _ => rfl)
  have HPs : Hid (∀ e, n.net.past s.sched e e = e) := hide (fun e => Net.past_start e (Nat.le_refl _))
  have Hsome : Hid (∀ f e, f < e → e ≤ s.tn → n.net.allMet s.sched f e = true → (∀ d, f < d → d < e → n.net.allMet s.sched f d = false) → n.net.cycle s.sched f = some (n.net.past s.sched e s.tn)) := hide (fun f e h1 h2 h3 h4 => by unfold Net.cycle; rw [Net.allEnd_of h1 h2 h3 h4]; rfl)
  have Hnone : Hid (∀ f, (∀ d, f < d → d ≤ s.tn → n.net.allMet s.sched f d = false) → n.net.cycles s.sched f = 0) := hide (fun f hn => Net.cycles_none (by unfold Net.cycle; rw [Net.allEnd_none hn]; rfl))
  have Hstep : Hid (∀ f d, n.net.cycle s.sched f = some d → f < d ∧ d ≤ s.tn ∧ n.net.cycles s.sched f = n.net.cycles s.sched d + 1) := hide (fun f d hd => ⟨(Net.cycle_lt hd).1, (Net.cycle_lt hd).2, Net.cycles_some hd⟩)
  have HMs : Hid (∀ i f k, f ≤ k → s.sched.met i f (k + 1) = (s.sched.met i f k || (s.turn k).act i)) := hide (fun i f k hk => Sched.met_succ hk)
  obtain ⟨W0, hW0⟩ : ∃ W0, W0 = w.alloc (.cells #[.int .i64 n.a.size, .slice n.a.B.ga n.a.B.t.len n.a.B.cap, .slice n.a.E.ga n.a.E.t.len n.a.E.cap, .int .i64 N, .slice n.la n.ln n.lc] 50) := ⟨_, rfl⟩
  have B0 : Hid (Below w.heap.size w W0) := hide (by rw [hW0]; exact (Below.refl _ w).alloc (Nat.le_refl _) _)
  have Hb0 : Hid (Blk W0 w.heap.size #[.int .i64 n.a.size, .slice n.a.B.ga n.a.B.t.len n.a.B.cap, .slice n.a.E.ga n.a.E.t.len n.a.E.cap, .int .i64 N, .slice n.la n.ln n.lc] 50) := hide (by rw [hW0]; exact Blk.new w _ _)
  simp only [SchedM.val] at HU ⊢
  rw [hval] at HU ⊢
  clear hN hval hcells h hNN lo hi6 gd hp hs
  go_enter Try.func51, Try.ntmps51
  go_wp2_with fail
  rw [← hW0]
  clear hW0
  go_loopw [5, 6, 7, 8, 9, 10, 11, 12, 13] (fun m q _ _ _ _ _ _ _ wr => ∃ c f : Nat, f ≤ s.tn ∧ c ≤ f ∧ m = .int .i64 c ∧ q = .int .i64 f ∧ Hid (c + n.net.cycles s.sched f = n.net.cycles s.sched 0) ∧ Hid (Below W0.heap.size W0 wr)) (fun _ q _ _ _ _ _ _ _ _ => s.tn - (intOf q).toNat)
  case atStart => exact ⟨0, 0, Nat.zero_le _, Nat.le_refl _, rfl, rfl, hide (by omega), hide (Below.refl _ _)⟩
  case round =>
    obtain ⟨c, f, hf, hc, rfl, rfl, HN, HB⟩ := hrel
    obtain ⟨W1, hW1⟩ : ∃ W1, W1 = wr := ⟨wr, rfl⟩
    rw [← hW1] at HB
    have bN := Hb0.out.below HB.out Hb0.out.lt
    have x3 := bN.cell 3
    simp at x3
    rw [hW1] at x3
    have HBm : Hid (Blk (W1.alloc (.cells (madeCells #[.bool false] N) 4)) W1.heap.size (bArr (fun i => s.sched.met i f f) N) 4) := hide (by
      rw [bArr_zero, bArr_congr (q := fun i => s.sched.met i f f) (fun j _ => Sched.met_self.symm)]
      exact Blk.new W1 _ _)
    have HBw : Hid (Below W1.heap.size W1 (W1.alloc (.cells (madeCells #[.bool false] N) 4))) := hide ((Below.refl _ _).alloc (Nat.le_refl _) _)
    go_wp2_with fail
    rw [← hW1]
    clear hW1 x3 bN
    go_loopw [7, 9, 10, 11] (fun q _ _ _ wr => ∃ e : Nat, f ≤ e ∧ e ≤ s.tn ∧ q = .int .i64 e ∧ Hid (∀ d, f < d → d < e → n.net.allMet s.sched f d = false) ∧ Hid (Blk wr W1.heap.size (bArr (fun i => s.sched.met i f e) N) 4) ∧ Hid (Below W1.heap.size W1 wr)) (fun q _ _ _ _ => s.tn - (intOf q).toNat)
    case atStart => exact ⟨f, Nat.le_refl _, hf, rfl, hide (fun d h1 h2 => by omega), HBm, HBw⟩
    case round =>
      clear HBm HBw
      obtain ⟨e, hfe, het, rfl, Hbef, HBm, HBw⟩ := hrel
      have HW0 := hide (HB.out.trans (HBw.out.mono HB.out.size))
      have HWw := hide (B0.out.trans (HW0.out.mono B0.out.size))
      obtain ⟨W2, hW2⟩ : ∃ W2, W2 = wr := ⟨wr, rfl⟩
      rw [← hW2] at HW0 HWw HBm HBw
      have bN := Hb0.out.below HW0.out Hb0.out.lt
      have x3 := bN.cell 3
      simp at x3
      have hcel : ∀ i, i < N → W2.cell? ⟨W1.heap.size, i, none⟩ = some (.bool (s.sched.met i f e)) := fun i hi => by
        rw [HBm.out.cell i]; exact bArr_get hi
      have Hcel := hide hcel
      have Hleft : Hid (n.net.allMet s.sched f e = !(lft (fun i => s.sched.met i f e) N)) := hide (by
        cases hl : lft (fun i => s.sched.met i f e) N with
        | false => exact (HMet.out f e).2 (lft_iff.1 hl)
        | true =>
          show _ = false
          rw [Bool.eq_false_iff]
          intro ha
          rw [lft_iff.2 ((HMet.out f e).1 ha)] at hl
          cases hl)
      clear hcel bN
      go_wp2_with fail
      rw [← hW2]
      clear hW2
      go_loopw [9, 10] (fun l q wr => ∃ i : Nat, i ≤ N ∧ q = .int .i64 i ∧ l = .bool (lft (fun i => s.sched.met i f e) i) ∧ wr = W2) (fun _ q _ => N - (intOf q).toNat)
      case atStart => exact ⟨0, Nat.zero_le _, rfl, rfl, rfl⟩
      case round =>
        obtain ⟨i, hi, rfl, rfl, rfl⟩ := hrel
        by_cases hil : i < N
        · have hii : (i : Int) < (N : Int) := by omega
          have z := Hcel.out i hil
          have Hs := hide (lft_succ (fun i => s.sched.met i f e) i)
          cases hl : lft (fun i => s.sched.met i f e) i with
          | true =>
            have hfin : Hid (lft (fun i => s.sched.met i f e) (i + 1) = true) := hide (by rw [Hs.out, hl]; rfl)
            clear hl Hs
            go_wp2
            go_roundw
            case rel =>
              first
              | exact ⟨i + 1, by omega, by go_num, by rw [hfin.out], by first | rfl | trivial⟩
              | ((repeat apply Exists.intro); refine ⟨?_, rfl⟩; exact ⟨i + 1, by omega, by go_num, by rw [hfin.out], by first | rfl | trivial⟩)
            case measure => simp [intOf]; omega
          | false =>
            have hfin : Hid (lft (fun i => s.sched.met i f e) (i + 1) = !(s.sched.met i f e)) := hide (by rw [Hs.out, hl]; rfl)
            clear hl Hs
            generalize s.sched.met i f e = mt at *
            go_wp2
            go_roundw
            case rel =>
              first
              | exact ⟨i + 1, by omega, by go_num, by rw [hfin.out], by first | rfl | trivial⟩
              | ((repeat apply Exists.intro); refine ⟨?_, rfl⟩; exact ⟨i + 1, by omega, by go_num, by rw [hfin.out], by first | rfl | trivial⟩)
            case measure => simp [intOf]; omega
        · have hii : (N : Int) ≤ (i : Int) := by omega
          have hiN : N = i := by omega
          subst hiN
          have Hl2 := Hleft
          cases hl : lft (fun i => s.sched.met i f e) N with
          | true =>
            have ham : n.net.allMet s.sched f e = false := by rw [Hl2.out, hl]; rfl
            have Hb2 : Hid (∀ d, f < d → d < e + 1 → n.net.allMet s.sched f d = false) := hide (fun d h1 h2 => by
              by_cases ed : d = e
              · subst ed; exact ham
              · exact Hbef.out d h1 (by omega))
            clear ham hl Hl2 Hleft
            by_cases hend : e = s.tn
            · subst hend
              have hz := Hnone.out f (fun d h1 h2 => Hb2.out d h1 (by omega))
              have hfin : Hid (n.net.cycles s.sched 0 = c) := hide (by have := HN.out; omega)
              clear hz
              go_wp2
              go_ret
              exact ⟨by rw [hfin.out]; rfl, HWw.out⟩
            · have hend' : ((e : Int) == (s.tn : Int)) = false := by simp; omega
              have helt : e < s.tn := by omega
              have hei : (e : Int) < (s.tn : Int) := by omega
              have hta := HTa.out (by omega)
              have Hst : Hid (Blk wr W1.heap.size (bArr (fun j => if j < 0 then (s.sched.met j f e || (s.turn e).act j) else s.sched.met j f e) N) 4) := hide (by
                rw [bArr_congr (q := fun j => s.sched.met j f e) (fun j _ => by simp)]
                exact HBm.out)
              go_wp2_with fail
              go_loopw [11] (fun q wr => ∃ i : Nat, i ≤ N ∧ q = .int .i64 i ∧ Hid (Blk wr W1.heap.size (bArr (fun j => if j < i then (s.sched.met j f e || (s.turn e).act j) else s.sched.met j f e) N) 4) ∧ Hid (Below W1.heap.size W1 wr)) (fun q _ => N - (intOf q).toNat)
              case atStart => exact ⟨0, Nat.zero_le _, rfl, Hst, HBw⟩
              case round =>
                obtain ⟨i, hi, rfl, HBi, HBx⟩ := hrel
                have hW0x := HB.out.trans (HBx.out.mono HB.out.size)
                have bN := Hb0.out.below hW0x Hb0.out.lt
                have x3 := bN.cell 3
                simp at x3
                by_cases hil : i < N
                · have hii : (i : Int) < (N : Int) := by omega
                  have hIw := HS.out wr (B0.out.trans (hW0x.mono B0.out.size))
                  have c0 := hIw.c0 e helt
                  have hE := hIw.each e helt
                  have hian : i < (s.turn e).an := by rw [HAn.out e helt]; exact hil
                  have haa := hE.aa (by omega)
                  have hcell := hE.cell i hian
                  have hia : (i : Int) < ((s.turn e).an : Int) := by omega
                  rw [haa] at c0
                  have z : wr.cell? ⟨W1.heap.size, i, none⟩ = some (.bool (s.sched.met i f e)) := by
                    rw [HBi.out.cell i, bArr_get hil]; simp
                  have fR := HBi.out.frozen
                  have Hput : Hid (∀ v, v = (s.sched.met i f e || (s.turn e).act i) → Blk (wr.setCell ⟨W1.heap.size, i, none⟩ (.bool v)) W1.heap.size (bArr (fun j => if j < i + 1 then (s.sched.met j f e || (s.turn e).act j) else s.sched.met j f e) N) 4) := hide (fun v hv => by
                    have := HBi.out.set i (.bool v)
                    rw [bArr_set] at this
                    rw [bArr_congr (q := fun j => if j = i then v else if j < i then (s.sched.met j f e || (s.turn e).act j) else s.sched.met j f e) (fun j _ => by
                      by_cases ej : j = i
                      · subst ej; simp [hv]
                      · by_cases hj : j < i
                        · simp [ej, hj, show j < i + 1 by omega]
                        · simp [ej, hj, show ¬ j < i + 1 by omega])]
                    exact this)
                  have HBs : Hid (∀ v, Below W1.heap.size W1 (wr.setCell ⟨W1.heap.size, i, none⟩ v)) := hide (fun v => HBx.out.setCell (p := ⟨W1.heap.size, i, none⟩) (Nat.le_refl _) v)
                  clear hIw hE haa bN hW0x
                  generalize hmt : s.sched.met i f e = mt at z
                  generalize hat : (s.turn e).act i = at' at hcell
                  have Hv : Hid ((s.sched.met i f e || (s.turn e).act i) = (mt || at')) := hide (by rw [hmt, hat])
                  clear hmt hat
                  cases mt with
                  | true =>
                    have HP2 := hide (Hput.out true (by rw [Hv.out]; rfl))
                    clear Hput
                    go_wp2
                    go_roundw
                    case rel =>
                      first
                      | exact ⟨i + 1, by omega, by go_num, HP2, hide (HBs.out _)⟩
                      | ((repeat apply Exists.intro); refine ⟨?_, rfl⟩; exact ⟨i + 1, by omega, by go_num, HP2, hide (HBs.out _)⟩)
                      | (rw [← hta]; (repeat apply Exists.intro); refine ⟨?_, rfl⟩; exact ⟨i + 1, by omega, by go_num, HP2, hide (HBs.out _)⟩)
                    case measure => simp [intOf]; omega
                  | false =>
                    have HP2 := hide (Hput.out at' (by rw [Hv.out]; rfl))
                    clear Hput
                    go_wp2
                    go_roundw
                    case rel =>
                      first
                      | exact ⟨i + 1, by omega, by go_num, HP2, hide (HBs.out _)⟩
                      | ((repeat apply Exists.intro); refine ⟨?_, rfl⟩; exact ⟨i + 1, by omega, by go_num, HP2, hide (HBs.out _)⟩)
                      | (rw [← hta]; (repeat apply Exists.intro); refine ⟨?_, rfl⟩; exact ⟨i + 1, by omega, by go_num, HP2, hide (HBs.out _)⟩)
                    case measure => simp [intOf]; omega
                · have hii : (N : Int) ≤ (i : Int) := by omega
                  have HB4 : Hid (Blk wr W1.heap.size (bArr (fun j => s.sched.met j f (e + 1)) N) 4) := hide (by
                    rw [bArr_congr (q := fun j => if j < i then (s.sched.met j f e || (s.turn e).act j) else s.sched.met j f e) (fun j hj => by rw [HMs.out j f e hfe]; simp [show j < i by omega])]
                    exact HBi.out)
                  clear HBi bN hW0x
                  go_wp2
                  go_roundw
                  case rel =>
                    first
                    | exact ⟨e + 1, by omega, by omega, by go_num, Hb2, HB4, HBx⟩
                    | ((repeat apply Exists.intro); refine ⟨?_, rfl⟩; exact ⟨e + 1, by omega, by omega, by go_num, Hb2, HB4, HBx⟩)
                    | (rw [← hta]; (repeat apply Exists.intro); refine ⟨?_, rfl⟩; exact ⟨e + 1, by omega, by omega, by go_num, Hb2, HB4, HBx⟩)
                  case measure => simp [intOf]; omega
          | false =>
            have ham : n.net.allMet s.sched f e = true := by rw [Hl2.out, hl]; rfl
            have hlt : f < e := by
              apply Classical.byContradiction
              intro hn
              have : f = e := by omega
              subst this
              have := (HMet.out f f).1 ham 0 hN1
              rw [Sched.met_self] at this
              cases this
            have Hcy := hide (Hsome.out f e hlt het ham Hbef.out)
            clear ham hl Hl2 Hleft
            have Hpe := HPs.out e
            have Hpe2 := hide Hpe
            clear Hpe
            go_wp2_with fail
            go_loopw [12, 13] (fun dn q wr => ∃ k : Nat, e ≤ k ∧ k ≤ s.tn ∧ q = .int .i64 ((k : Int) + 1) ∧ dn = .int .i64 ((n.net.past s.sched e k : Nat) : Int) ∧ Hid (Below W1.heap.size W1 wr)) (fun _ q _ => s.tn + 1 - (intOf q).toNat)
            case atStart => exact ⟨e, Nat.le_refl _, het, rfl, by rw [Hpe2.out], HBw⟩
            case round =>
              obtain ⟨k, hek, hkt, rfl, rfl, HBx⟩ := hrel
              have hW0x := HB.out.trans (HBx.out.mono HB.out.size)
              have bN := Hb0.out.below hW0x Hb0.out.lt
              have x0 := bN.cell 0
              have x1 := bN.cell 1
              have x2 := bN.cell 2
              have x3 := bN.cell 3
              have x4 := bN.cell 4
              simp at x0 x1 x2 x3 x4
              by_cases hkl : k < s.tn
              · have hki : (k : Int) + 1 ≤ (s.tn : Int) := by omega
                have HUk := hide (HU.out k e hkl wr (B0.out.trans (hW0x.mono B0.out.size)))
                have Hpk := hide (HPast.out e k)
                clear bN hW0x
                go_wp2_with fail
                go_at_call 94
                refine HUk.out.mono ?_
                rintro e' w3 ⟨rfl, hb3⟩
                have HB3 := hide (HBx.out.trans (hb3.mono HBx.out.size))
                clear HUk hb3 x0 x1 x2 x3 x4
                by_cases hu : n.net.uses s.sched k e = true
                · have hpk : Hid (n.net.past s.sched e (k + 1) = k + 1) := hide (by rw [Hpk.out, if_pos ⟨hek, hu⟩])
                  clear Hpk
                  rw [hu]
                  clear hu
                  go_wp2
                  go_roundw
                  case rel =>
                    first
                    | exact ⟨k + 1, by omega, by omega, by go_num, by rw [hpk.out]; go_num, HB3⟩
                    | ((repeat apply Exists.intro); refine ⟨?_, rfl⟩; exact ⟨k + 1, by omega, by omega, by go_num, by rw [hpk.out]; go_num, HB3⟩)
                  case measure => simp [intOf]; omega
                · have hu' : n.net.uses s.sched k e = false := by simpa using hu
                  have hpk : Hid (n.net.past s.sched e (k + 1) = n.net.past s.sched e k) := hide (by rw [Hpk.out, if_neg (fun hq => hu hq.2)])
                  clear Hpk
                  rw [hu']
                  clear hu hu'
                  go_wp2
                  go_roundw
                  case rel =>
                    first
                    | exact ⟨k + 1, by omega, by omega, by go_num, by rw [hpk.out], HB3⟩
                    | ((repeat apply Exists.intro); refine ⟨?_, rfl⟩; exact ⟨k + 1, by omega, by omega, by go_num, by rw [hpk.out], HB3⟩)
                  case measure => simp [intOf]; omega
              · have hki : ¬ ((k : Int) + 1 ≤ (s.tn : Int)) := by omega
                have hkn : k = s.tn := by omega
                subst hkn
                obtain ⟨d1, d2, d3⟩ := Hstep.out f _ Hcy.out
                generalize n.net.past s.sched e s.tn = d at *
                have HNn : Hid (c + 1 + n.net.cycles s.sched d = n.net.cycles s.sched 0) := hide (by have := HN.out; omega)
                have HBf := hide hW0x
                clear d3 bN hW0x x0 x1 x2 x3 x4
                go_wp2
                go_roundw
                case rel =>
                  first
                  | exact ⟨c + 1, d, by omega, by omega, by go_num, rfl, HNn, HBf⟩
                  | ((repeat apply Exists.intro); refine ⟨?_, rfl⟩; exact ⟨c + 1, d, by omega, by omega, by go_num, rfl, HNn, HBf⟩)
                case measure => simp [intOf]; omega

end Go.Proofs.Ytjhkadffaephmaa
