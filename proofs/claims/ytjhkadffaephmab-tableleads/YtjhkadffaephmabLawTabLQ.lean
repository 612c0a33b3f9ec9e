/-
  TableLeads.
-/
import Derived.Test.YtjhkadffaephmabBundleEA
import Derived.Test.YtjhkadffaephmabBundleBH
import Derived.Test.YtjhkadffaephmabBundleDA
namespace Go.Proofs.Ytjhkadffaephmab
set_option maxRecDepth 100000
open Go.RowKit

theorem Alg.Distr.of {a : Alg} (hc : a.check = 0) (h : (a.tell [9]).law = 0) : a.Distr := by
  have g := Alg.good_of_check hc
  have ht : a.tell [9] = a.firstOf [9] := by unfold Alg.tell; rw [if_pos hc]
  have hn : a.firstOf [9] = Brk.none := by
    apply Classical.byContradiction
    intro hne
    obtain ⟨l, hl, _, h2, _⟩ := firstOf_spec hne
    have hl' : l = 9 := by simpa using hl
    obtain ⟨_, e⟩ := g.fits_cases (by omega) (by omega) h2
    rw [ht] at h
    omega
  intro e x y h0 h1 h2 h3 h4 h5
  have f : a.Fits ⟨9, x, y, 0, e⟩ := ⟨by simp, by simp, h2, by simp [spanA, routesOf]; omega, h4, by simp [spanB, routesOf]; omega, by simp, by simp [spanC, routesOf], h0, by simp [spanE, edgeOf]; omega⟩
  have hh := firstOf_all (by simp) hn 9 (by simp) _ (g.mem_cases f)
  simpa [Alg.holds] using hh

theorem Net.tabErr_of {n : Net} (hck : n.check = 0) {t : Tab} (hl : t.len = n.N) (hw : ∀ r, r < n.N → t.L r = n.N) (he : ∀ i j, i < n.N → j < n.N → t.Z i j = -1 ∨ (0 ≤ t.Z i j ∧ t.Z i j < n.nodes)) : n.tabErr t = 0 := by
  have g := Net.good_of_check hck
  have lo := g.lo
  have hN : (n.N : Int) = n.nodes := by unfold Net.N; omega
  have hwi : t.wide n.nodes = true := (t.wide_iff n.nodes).2 (fun r hr => by rw [hw r (by omega), hN])
  have hst : t.stray n.nodes = false := by
    unfold Tab.stray
    rw [List.any_eq_false]
    intro r hr
    rw [List.mem_range] at hr
    rw [Bool.not_eq_true, List.any_eq_false]
    intro c hc
    rw [List.mem_range, hw r (by omega)] at hc
    unfold strayB
    rcases he r c (by omega) hc with e | e
    · simp [e]
    · simp; omega
  unfold Net.tabErr
  rw [if_neg (by simp [hck]), if_neg (by simp [hwi]; omega), if_neg (by simp [hst])]

theorem Net.fix_zero {n : Net} (g : n.Good) {y : Nat → Nat → Int} (hy : n.State y) (hfix : ∀ i j, i < n.N → j < n.N → n.round y i j = y i j) {c : Nat} (hc : c < n.N) : y c c = 0 := by
  have lo := g.law.good.lo
  obtain ⟨_, _, t, _⟩ := n.out_spec g (f := fun k => y k c) (fun k hk => hy k c hk hc) c c n.N (Nat.le_refl _)
  have h0 : n.out c c (fun k => y k c) 0 = 0 := by rw [Net.out, if_pos rfl]
  have hz := g.law.zero (y c c) (hy c c hc hc).1 (hy c c hc hc).2
  have e1 : n.out c c (fun k => y k c) n.N = y c c := hfix c c hc hc
  rw [h0, e1, g.law.comm _ _ (hy c c hc hc).1 (hy c c hc hc).2 (by omega) (by omega), hz] at t
  exact t.symm

/-- Each walk comes there, if there is a valid route, and meets no node twice. -/
theorem Net.walk_all {n : Net} (g : n.Good) (hs : n.a.Strict) {y : Nat → Nat → Int} (hy : n.State y) (hfix : ∀ i j, i < n.N → j < n.N → n.round y i j = y i j) {c fin : Nat} (hc : c < n.N) (hf : fin < n.N) :
    ∃ l : List Int, walkOf (fun d => n.next y d.toNat fin) fin (n.N + 1) [] c = (l, y c fin != n.a.size - 1) ∧ l.Nodup ∧ l.head? = some (c : Int) ∧ l.length ≤ n.N := by
  have lo := g.law.good.lo
  by_cases hv : y c fin = n.a.size - 1
  · have hne : c ≠ fin := fun e => by
      subst e
      rw [n.fix_zero g hy hfix hc] at hv
      omega
    refine ⟨[(c : Int)], ?_, by simp, rfl, by simp; omega⟩
    rw [walkOf, if_neg (by simp), if_neg (by omega), Int.toNat_natCast, n.next_none (Or.inr (by rw [hfix c fin hc hf]; exact hv))]
    obtain ⟨m, hm⟩ : ∃ m, n.N = m + 1 := ⟨n.N - 1, by omega⟩
    rw [hm, walkOf, if_pos (Or.inl (by decide)), hv]
    simp
  · obtain ⟨l, h1, h2, h3, h4, h5⟩ := n.walk_leads g hs hy hfix hf (n.N + 1) [] c hc (by simp) (by simp) (by simp) hv (by simp)
    rw [List.nil_append] at h1 h2
    refine ⟨l, by rw [h1]; simp [hv], h2, h3, ?_⟩
    refine nodup_len n.N l h2 (fun d hd => ?_)
    have hnd : ∀ {p : List Int} {w : Int}, n.weigh p = some w → ∀ d ∈ p, d = (c : Int) ∨ (0 ≤ d ∧ d < n.nodes) ∨ p = [d] := by
      intro p
      induction p with
      | nil => intro w hw; rw [Net.weigh] at hw; cases hw
      | cons a p ih =>
        intro w hw d hd
        cases p with
        | nil =>
          right; right
          rw [List.mem_singleton] at hd
          rw [hd]
        | cons b p =>
          obtain ⟨b', t', v, e, he, hv', _⟩ := Net.weigh_tail (l := b :: p) hw (by simp)
          cases e
          have hed := n.edge_ends g he
          rcases List.mem_cons.1 hd with e | e
          · subst e; exact Or.inr (Or.inl hed.1)
          · rcases ih hv' d e with h | h | h
            · exact Or.inl h
            · exact Or.inr (Or.inl h)
            · cases h
              exact Or.inr (Or.inl hed.2)
    have hN : (n.N : Int) = n.nodes := by have := g.lo; unfold Net.N; omega
    rcases hnd h5 d hd with e | e | e
    · omega
    · omega
    · rw [e] at h3
      simp only [List.head?_cons, Option.some.injEq] at h3
      omega

/-- What the mathematics says of a state that settled. -/
theorem Net.leads {n : Net} (hs : n.a.Strict) {t : Tab} (hf : n.fit t = 0) : n.check = 0 ∧ n.State (n.settle 100 t.Z).1 ∧ ∀ i j, i < n.N → j < n.N → n.round (n.settle 100 t.Z).1 i j = (n.settle 100 t.Z).1 i j := by
  obtain ⟨hc, i1⟩ := Net.is_of_fit hf
  have g := Net.good_of_check hc
  have hi := g.law.good.hi
  obtain ⟨_, a2, a3⟩ := n.settle_strict g hs i1.state (m := 100) (by omega)
  exact ⟨hc, a2, a3⟩

set_option maxHeartbeats 8000000 in
theorem tableLeads_any (n : NetM) (x : Mat) (a b : Int) (w : World) (h : n.In w.heap.size w) (hx : x.In w.heap.size w) (ha0 : -9223372036854775808 ≤ a) (ha1 : a ≤ 9223372036854775807) (hb0 : -9223372036854775808 ≤ b) (hb1 : b ≤ 9223372036854775807) :
    Calls Try.prog 12 #[n.val, x.val, .int .i64 a, .int .i64 b] w fun e w' => e = .returned (.bool true) ∧ Below w.heap.size w w' := by
  have hB0 : Below w.heap.size w (w.alloc (.cells n.cells 41)) := (Below.refl _ w).alloc (Nat.le_refl _) _
  have b0 := Blk.new w n.cells 41
  have HSa := hide (fun W (hb : Below w.heap.size w W) => strict_any n.a W (h.a.below hb (Nat.le_refl _) |>.mono hb.size))
  have HDi := hide (fun W (hb : Below w.heap.size w W) => distributive_any n.a W (h.a.below hb (Nat.le_refl _) |>.mono hb.size))
  have HX := hide (fun W (hb : Below w.heap.size w W) => netSettle_any n x 100 W (h.grown hb) (hx.grown hb))
  have Hst := hide (fun (hc : n.a.alg.check = 0) (hl : (n.a.alg.tell [8]).law = 0) => show n.net.a.Strict from Alg.Strict.of hc hl)
  have Hdi := hide (fun (hc : n.a.alg.check = 0) (hl : (n.a.alg.tell [9]).law = 0) => show n.net.a.Distr from Alg.Distr.of hc hl)
  have HE1 : Hid (n.net.settleE x.t 100 = n.net.fit x.t) := hide (by unfold Net.settleE; split; rfl; next h => simpa using (Classical.not_not.1 h).symm)
  have HLd := hide (fun (hs : n.net.a.Strict) (hf : n.net.fit x.t = 0) => Net.leads hs hf)
  have HTb := hide (fun (W : World) (hb : Below w.heap.size w W) (m : Mat) (hm : m.In W.heap.size W) (hf : n.net.fit m.t = 0) => tableTable_ok n m W (h.grown hb) hm hf)
  have HWk := hide (fun (W : World) (hb : Below w.heap.size w W) (t : Mat) (ht : t.In W.heap.size W) (N i j : Nat) (hN : n.nodes = N) (hi : i < N) (hj : j < N) (he : n.net.tabErr t.t = 0) => tableWalk_ok n t N i j W (h.grown hb) ht hN hi hj he)
  have HPa := hide (fun (W : World) (hb : Below w.heap.size w W) (N i j : Nat) (hck : n.net.check = 0) (hN : n.nodes = N) (hi : i < N) (hj : j < N) => tablePaths_ok n N i j W (h.grown hb) hck hN hi hj)
  rw [show (100 : Int).toNat = 100 from rfl] at HX
  rw [HE1.out] at HX
  generalize n.a.alg.tell [8] = fb at *
  generalize n.a.alg.tell [9] = fd at *
  generalize hck0 : n.a.alg.check = ck at *
  generalize hfx : n.net.fit x.t = fx at *
  have hcells : n.cells = #[.int .i64 n.a.size, .slice n.a.B.ga n.a.B.t.len n.a.B.cap, .slice n.a.E.ga n.a.E.t.len n.a.E.cap, .int .i64 n.nodes, .slice n.la n.ln n.lc] := rfl
  have Hcells := hide hcells
  simp only [NetM.val, hcells, AlgM.val, Mat.val] at HSa HDi HX b0 hB0 ⊢
  clear h hx HE1 hcells hck0
  go_enter Try.func12, Try.ntmps12
  go_wp2_with fail
  go_at_call 48
  refine (tableBegun_any _).mono ?_
  rintro e w0 ⟨rfl, hb00⟩
  have hB00 := hB0.trans (hb00.mono hB0.size)
  have b00 := b0.below hb00 b0.lt
  clear hB0 b0 hb00
  go_wp2_with fail
  go_at_call 23
  refine (netBegun_any _).mono ?_
  rintro e w1 ⟨rfl, hb1'⟩
  have hB1 := hB00.trans (hb1'.mono hB00.size)
  have b1 := b00.below hb1' b00.lt
  clear hB00 b00 hb1'
  go_wp2_with fail
  go_at_call 24
  refine (begun_any _).mono ?_
  rintro e w2 ⟨rfl, hb2⟩
  have hB2 := hB1.trans (hb2.mono hB1.size)
  have b2 := b1.below hb2 b1.lt
  have x0 := b2.cell 0
  have x1 := b2.cell 1
  have x2 := b2.cell 2
  simp at x0 x1 x2
  have HS2 := hide (HSa.out w2 hB2)
  clear hB1 b1 hb2 HSa
  go_wp2_with fail
  go_at_call 26
  refine HS2.out.mono ?_
  rintro e w3 ⟨rfl, hb3⟩
  have hB3 := hB2.trans (hb3.mono hB2.size)
  have b3 := b2.below hb3 b2.lt
  obtain ⟨fl, fa, fb', fc, fe⟩ := fb
  simp only [Brk.val]
  have hB4 := hB3.alloc hB3.size (.cells #[.int .i64 fl, .int .i64 fa, .int .i64 fb', .int .i64 fc, .int .i64 fe] 59)
  have b4 := b3.alloc (.cells #[.int .i64 fl, .int .i64 fa, .int .i64 fb', .int .i64 fc, .int .i64 fe] 59)
  have bB := Blk.new w3 #[.int .i64 fl, .int .i64 fa, .int .i64 fb', .int .i64 fc, .int .i64 fe] 59
  clear HS2 hB2 b2 hb3 x0 x1 x2 hB3 b3
  have x0 := b4.cell 0
  have x1 := b4.cell 1
  have x2 := b4.cell 2
  have x3 := b4.cell 3
  have x4 := b4.cell 4
  simp at x0 x1 x2 x3 x4
  have HX4 := hide (HX.out _ hB4)
  clear HX
  go_wp2_with fail
  go_at_call 29
  refine HX4.out.mono ?_
  rintro e w5 ⟨⟨m, k, rfl, hp, _, _⟩, hb5⟩
  have hB5 := hB4.trans (hb5.mono hB4.size)
  have b5 := b4.below hb5 b4.lt
  have bB5 := bB.below hb5 (by simp)
  have z0 := bB5.cell 0
  simp at z0
  have HP := hide hp
  clear HX4 hB4 b4 hb5 x0 x1 x2 x3 x4 hp bB bB5
  by_cases hc : ck = 0
  rotate_left
  · have hc' : (ck != 0) = true := by simp [hc]
    have HB5 := hide hB5
    clear hc hB5 HDi Hst Hdi HLd HTb HWk HPa
    go_wp2
    go_ret
    exact ⟨rfl, HB5.out⟩
  subst hc
  by_cases h0 : fx = 0
  rotate_left
  · have h0' : (fx != 0) = true := by simp [h0]
    have HB5 := hide hB5
    clear h0 hB5 HDi Hst Hdi HLd HTb HWk HPa
    go_wp2
    go_ret
    exact ⟨rfl, HB5.out⟩
  by_cases hl : fl = 0
  rotate_left
  · have hl' : (fl != 0) = true := by simp [hl]
    have HB5 := hide hB5
    subst h0
    clear hl hB5 HDi Hst Hdi HLd HTb HWk HPa
    go_wp2
    go_ret
    exact ⟨rfl, HB5.out⟩
  subst hl
  have HStr := hide (Hst.out rfl rfl)
  obtain ⟨hck, hys, hfix⟩ := HLd.out HStr.out h0
  have g := Net.good_of_check hck
  have lo := g.lo
  have hi6 := g.hi
  have hs0 : 2 ≤ n.a.size := g.law.good.lo
  have hs1 : n.a.size ≤ 24 := g.law.good.hi
  obtain ⟨N, hN⟩ : ∃ N : Nat, n.nodes = N := ⟨n.nodes.toNat, by have : n.net.nodes = n.nodes := rfl; omega⟩
  have hNN : n.net.N = N := by show n.nodes.toNat = N; omega
  have hnn : n.net.nodes = n.nodes := rfl
  have hN6 : N ≤ 6 := by omega
  have hN1 : 1 ≤ N := by omega
  have hmt := HP.out.ok h0
  generalize (n.net.settle 100 x.t.Z).1 = Y at *
  obtain ⟨hci, hci'⟩ := chooseV_in (c := a) (n := (N : Int)) (by omega)
  obtain ⟨hcj, hcj'⟩ := chooseV_in (c := b) (n := (N : Int)) (by omega)
  have HCa := hide (fun W => choose_any a N W (by omega) (by omega) ha0 ha1)
  have HCb := hide (fun W => choose_any b N W (by omega) (by omega) hb0 hb1)
  obtain ⟨i, hi⟩ : ∃ i : Nat, chooseV a N = i := ⟨(chooseV a N).toNat, by omega⟩
  obtain ⟨j, hj⟩ : ∃ j : Nat, chooseV b N = j := ⟨(chooseV b N).toNat, by omega⟩
  rw [hi] at hci' HCa
  rw [hj] at hcj' HCb
  have hiN : i < N := by omega
  have hjN : j < N := by omega
  have hfm : n.net.fit m.t = 0 := by rw [hmt]; exact Net.fit_of_is hck (Net.Is.mk' hys)
  have HT5 := hide (fun (W : World) (hb : Below w.heap.size w W) (hm : m.In W.heap.size W) => HTb.out W hb m hm hfm)
  obtain ⟨L, hL1, hL2, hL3, hL4⟩ := n.net.walk_all g HStr.out hys hfix (c := i) (fin := j) (by omega) (by omega)
  have HWk1 := hide (fun (W : World) (hb : Below w.heap.size w W) (t : Mat) (ht : t.In W.heap.size W) (htt : t.t = ⟨n.net.N, fun _ => n.net.N, n.net.next m.t.Z⟩) => by
    have := HWk.out W hb t ht N i j hN hiN hjN (by
      rw [htt, hmt]
      exact Net.tabErr_of hck rfl (fun _ _ => rfl) (fun p q hp hq => n.net.next_in g hys hq))
    have e1 : walkOf (fun c => t.t.Z c.toNat j) j (N + 1) [] i = (L, Y i j != n.a.size - 1) := by
      rw [htt, hmt]
      rw [hNN] at hL1
      exact hL1
    rw [e1] at this
    exact this)
  have HPa1 := hide (fun (W : World) (hb : Below w.heap.size w W) => HPa.out W hb N i j hck hN hiN hjN)
  have HDl := hide (fun (hd : n.net.a.Distr) => n.net.fix_least g HStr.out hd hys hfix (c := i) (fin := j) (by omega) (by omega))
  have hYi := hys i j (by omega) (by omega)
  obtain ⟨yv, hyv⟩ : ∃ yv : Nat, Y i j = yv := ⟨(Y i j).toNat, by omega⟩
  have hys2 : (yv : Int) < n.a.size := by have := hYi.2; rw [hyv] at this; exact this
  have HM5 := hide HP.out.mem
  have Hmt := hide hmt
  have G := hide g
  have HNN := hide hNN
  have hL0 : 1 ≤ L.length := by
    cases L with
    | nil => cases hL3
    | cons c L => simp
  have HL2 := hide hL2
  have hLh : L[0]? = some (i : Int) := by
    cases L with
    | nil => cases hL3
    | cons c L => simpa using hL3
  have HLh := hide hLh
  rw [hyv] at HWk1 HDl
  rw [hNN] at hL4
  have Hmat : Hid (∀ (W : World), m.In W.heap.size W → m.ga = some ⟨m.gb, m.go, none⟩ ∧ W.cell? ⟨m.gb, m.go + i, none⟩ = some (.slice (some ⟨m.RB i, m.RO i, none⟩) N (m.C i)) ∧ W.cell? ⟨m.RB i, m.RO i + j, none⟩ = some (.int .i64 (yv : Int)) ∧ m.t.len = N) := hide (fun W hm => by
    have e1 : m.t.len = N := by rw [hmt]; exact hNN
    have e2 : m.t.L i = N := by rw [hmt]; exact hNN
    have e3 : m.t.Z i j = yv := by rw [hmt]; exact hyv
    obtain ⟨q1, q2, q3⟩ := hm.at (r := i) (c := j) (by omega) (by omega)
    rw [e2] at q2
    rw [e3] at q3
    exact ⟨q1, q2, q3, e1⟩)
  have hcellsN : n.cells = #[.int .i64 n.a.size, .slice n.a.B.ga n.a.B.t.len n.a.B.cap, .slice n.a.E.ga n.a.E.t.len n.a.E.cap, .int .i64 N, .slice n.la n.ln n.lc] := by simp only [NetM.cells, Mat.val, hN]
  have HcellsN := hide hcellsN
  have Hnn := hide hN
  rw [hN] at b5 ⊢
  clear HLd Hst HTb HWk HPa HP hck hys hfix lo hi6 g hnn hfm hL1 hL2 hL3 hLh hmt hYi hyv hi hj hci hcj hci' hcj' hNN hcellsN hN Hcells
  subst h0
  go_wp2_with fail
  refine wp_region_once (fun _ => 1000) (fun W => Below w5.heap.size w5 W)
    (valsE [.int .i64 a, .pointer (some ⟨w.heap.size, 3, none⟩), .int .i64 N, .int .i64 i, .int .i64 b, .pointer (some ⟨w.heap.size, 3, none⟩), .int .i64 N, .int .i64 j, .int .i64 i, .int .i64 j])
    (by kernel_rfl) (by kernel_rfl) (by kernel_rfl) (below_drewN (Below.refl _ _) 1) ⟨?_, ?_, ?_, ?_, ?_, ?_, ?_, ?_, ?_, ?_, trivial⟩ ?_
  rotate_right
  · intro t W hG hE
    have HG6 := hide hG
    have e8 := valsE_get (hE 8 (by decide) (by decide)) rfl
    have e9 := valsE_get (hE 9 (by decide) (by decide)) rfl
    clear hG hE
    simp only [fill, Act.put, List.setIfInBounds_toArray, List.set_cons_zero, List.set_cons_succ, e8, e9]
    clear e8 e9 HCa HCb
    have hB6 := hB5.trans (HG6.out.mono hB5.size)
    have b6 := b5.below HG6.out b5.lt
    have hm6 := HM5.out.grown HG6.out
    have x0 := b6.cell 0
    have x1 := b6.cell 1
    have x2 := b6.cell 2
    have x3 := b6.cell 3
    have x4 := b6.cell 4
    simp at x0 x1 x2 x3 x4
    have HT6 := hide (HT5.out W hB6 hm6)
    simp only [NetM.val, HcellsN.out, Mat.val] at HT6
    have HB6 := hide hB6
    have Hb6 := hide b6
    have Hm6 := hide hm6
    clear hB5 b5 HT5 HM5 HG6 hB6 b6 hm6
    go_wp2_with fail
    go_at_call 50
    refine HT6.out.mono ?_
    rintro e w7 ⟨⟨t7, rfl, ht7⟩, hb7⟩
    have hB7 := HB6.out.trans (hb7.mono HB6.out.size)
    have b7 := Hb6.out.below hb7 Hb6.out.lt
    have hm7 := Hm6.out.grown hb7
    have HW7 := hide (HWk1.out w7 hB7 t7 ht7.2.1 ht7.1)
    simp only [NetM.val, HcellsN.out, Mat.val] at HW7
    have x0 := b7.cell 0
    have x1 := b7.cell 1
    have x2 := b7.cell 2
    have x3 := b7.cell 3
    have x4 := b7.cell 4
    simp at x0 x1 x2 x3 x4
    have HB7 := hide hB7
    have Hb7 := hide b7
    have Hm7 := hide hm7
    clear HT6 HB6 Hb6 Hm6 hb7 hB7 b7 hm7 ht7 HWk1
    go_wp2_with fail
    go_at_call 51
    refine HW7.out.mono ?_
    rintro e w8 ⟨⟨v, rfl, hv⟩, hb8⟩
    obtain ⟨lm, hlm⟩ : ∃ lm, L.length = lm + 1 := ⟨L.length - 1, by omega⟩
    rw [hlm] at hv
    obtain ⟨gv, cv, rfl, hints, hgl, _, hgc, hgm, hlx⟩ := owns_ints hv hlm
    have hB8 := HB7.out.trans (hb8.mono HB7.out.size)
    have b8 := Hb7.out.below hb8 Hb7.out.lt
    have hm8 := Hm7.out.grown hb8
    obtain ⟨q1, q2, q3, q4⟩ := Hmat.out w8 hm8
    have x0 := b8.cell 0
    simp at x0
    have hc0 := hints.cell 0 (by omega)
    simp only [Nat.add_zero] at hc0
    have hl0 : L.getD 0 0 = (i : Int) := by rw [List.getD_eq_getElem?_getD, HLh.out]; rfl
    rw [hl0] at hc0
    have r1 : (i : Int) < (N : Int) := by omega
    have r2 : (j : Int) < (N : Int) := by omega
    have HI8 := hide hints
    have HB8 := hide hB8
    have Hb8 := hide b8
    have Hm8 := hide hm8
    have Hlm := hide hlm
    have hlm6 : lm + 1 ≤ 6 := by omega
    have hglt := hgl
    clear HW7 HB7 Hb7 Hm7 hb8 hB8 b8 hm8 hv hints hgl hlm hL4 hL0 hl0 HLh
    rw [q1, q4]
    go_wp2
    refine wp_region_only (fun W => W = w8.drew) (valsE [.slice (some ⟨m.gb, m.go, none⟩) N m.cap, .int .i64 i, .pointer (some ⟨m.gb, m.go + i, none⟩), .slice (some ⟨m.RB i, m.RO i, none⟩) N (m.C i), .int .i64 j, .pointer (some ⟨m.RB i, m.RO i + j, none⟩), .int .i64 yv, .pointer (some ⟨w.heap.size, 0, none⟩), .pointer (some ⟨w.heap.size, 0, none⟩), .int .i64 n.a.size, .int .i64 (n.a.size - 1), .bool ((yv : Int) != n.a.size - 1), .bool ((yv : Int) != n.a.size - 1)]) (by kernel_rfl) (by kernel_rfl) (by kernel_rfl) rfl ⟨?_, ?_, ?_, ?_, ?_, ?_, ?_, ?_, ?_, ?_, ?_, ?_, ?_, trivial⟩ ?_
    rotate_right
    · intro t W hG hE
      have e12 := valsE_get (hE 12 (by decide)) rfl
      subst hG
      clear hE
      simp only [fill, Act.put, List.setIfInBounds_toArray, List.set_cons_zero, List.set_cons_succ, e12]
      clear e12
      have hbb : (((yv : Int) != n.a.size - 1) != ((yv : Int) != n.a.size - 1)) = false := by cases ((yv : Int) != n.a.size - 1) <;> rfl
      have hii : ((i : Int) != (i : Int)) = false := by simp
      generalize ((yv : Int) != n.a.size - 1) = vb at *
      have hlz : ((lm : Int) + 1 == 0) = false := by simp; omega
      have hlp : (0 : Int) < (lm : Int) + 1 := by omega
      go_wp2_with fail
      go_loopw [18] (fun s wr => ∃ k : Nat, k ≤ lm + 1 ∧ s = .int .i64 k ∧ Hid (Below w8.heap.size w8 wr)) (fun s _ => lm + 1 - (intOf s).toNat)
      case atStart => exact ⟨0, Nat.zero_le _, rfl, hide (below_drewN (Below.refl _ _) 1)⟩
      case round =>
        obtain ⟨k, hk, rfl, HBr⟩ := hrel
        by_cases hlt : k < lm + 1
        · have hki : (k : Int) < (lm : Int) + 1 := by omega
          have hir := HI8.out.below HBr.out (fun _ => hglt)
          have hck := hir.cell k hlt
          rw [Nat.zero_add] at hck
          have hkc : (k : Int) ≤ (cv : Int) := by omega
          have hkl : k < L.length := by have := Hlm.out; omega
          have HHs := hide (has_ints (some ⟨gv, 0, none⟩) k cv gv 0 (fun i => L.getD i 0) (L.getD k 0) wr.drew ⟨fun _ => rfl, fun r hr => hir.cell r (by omega), by unfold maxLen; omega⟩)
          have hno : decide (L.getD k 0 ∈ listOf k (fun i => L.getD i 0)) = false := by
            rw [decide_eq_false_iff_not, listOf_mem]
            rintro ⟨r, hr, e⟩
            have h1 : L.getD k 0 = L[k] := by simp [List.getD_eq_getElem?_getD, hkl]
            have h2 : L.getD r 0 = L[r]'(by omega) := by rw [List.getD_eq_getElem?_getD, List.getElem?_eq_getElem (by omega)]; rfl
            rw [h1, h2] at e
            exact (List.pairwise_iff_getElem.1 (List.nodup_iff_pairwise_ne.1 HL2.out)) r k (by omega) hkl hr e.symm
          rw [hno] at HHs
          generalize L.getD k 0 = lk at *
          clear hno hir hkl
          go_wp2
          refine wp_region_only (fun W => W = wr.drew) (valsE [.slice (some ⟨gv, 0, none⟩) (lm + 1) cv, .int .i64 k, .slice (some ⟨gv, 0, none⟩) k cv, .slice (some ⟨gv, 0, none⟩) (lm + 1) cv, .int .i64 k, .pointer (some ⟨gv, k, none⟩), .int .i64 lk, .bool false]) (by kernel_rfl) (by kernel_rfl) (by kernel_rfl) rfl ⟨?_, ?_, ?_, ?_, ?_, ?_, ?_, ?_, trivial⟩ ?_
          rotate_right
          · intro t W hG hE
            have e7 := valsE_get (hE 7 (by decide)) rfl
            subst hG
            clear hE
            simp only [fill, Act.put, List.setIfInBounds_toArray, List.set_cons_zero, List.set_cons_succ, e7]
            clear e7 HHs
            go_wp2
            go_roundw
            case rel =>
              first
              | exact ⟨k + 1, by omega, by go_num, hide (below_drewN HBr.out 1)⟩
              | ((repeat apply Exists.intro); refine ⟨?_, rfl⟩; exact ⟨k + 1, by omega, by go_num, hide (below_drewN HBr.out 1)⟩)
            case measure => simp [intOf]; omega
          all_goals intro t W hG hp K hK
          all_goals subst hG
          all_goals simp only [fill, Act.put, List.setIfInBounds_toArray, List.set_cons_zero, List.set_cons_succ] at hK ⊢
          · rw [if_pos (by rfl)]
            go_simp
            exact hK _ _ rfl rfl (fun _ _ _ h => h)
          · rw [if_pos (by rfl)]
            go_simp
            exact hK _ _ rfl rfl (fun _ _ _ h => h)
          · have e0 := valsE_get (hp 0 (by decide)) rfl
            have e1 := valsE_get (hp 1 (by decide)) rfl
            simp only [e0, e1] at hK ⊢
            rw [if_pos (by rfl)]
            go_simp
            exact hK _ _ rfl rfl (fun _ _ _ h => h)
          · rw [if_pos (by rfl)]
            go_simp
            exact hK _ _ rfl rfl (fun _ _ _ h => h)
          · rw [if_pos (by rfl)]
            go_simp
            exact hK _ _ rfl rfl (fun _ _ _ h => h)
          · have e3 := valsE_get (hp 3 (by decide)) rfl
            have e4 := valsE_get (hp 4 (by decide)) rfl
            simp only [e3, e4] at hK ⊢
            rw [if_pos (by rfl)]
            go_simp
            exact hK _ _ rfl rfl (fun _ _ _ h => h)
          · have e5 := valsE_get (hp 5 (by decide)) rfl
            simp only [e5] at hK ⊢
            rw [if_pos (by rfl)]
            go_simp
            exact hK _ _ rfl rfl (fun _ _ _ h => h)
          · have e2 := valsE_get (hp 2 (by decide)) rfl
            have e6 := valsE_get (hp 6 (by decide)) rfl
            simp only [e2, e6] at hK ⊢
            rw [if_pos (by rfl)]
            go_simp
            go_at_call 62
            refine HHs.out.mono ?_
            rintro e W' ⟨rfl, hW'⟩
            rw [hW']
            go_simp
            exact hK _ _ rfl rfl (fun _ _ _ h => h)
        · have hki : (lm : Int) + 1 ≤ (k : Int) := by omega
          have hBw := HB8.out.trans (HBr.out.mono HB8.out.size)
          have bN := Hb8.out.below HBr.out Hb8.out.lt
          have x0 := bN.cell 0
          have x1 := bN.cell 1
          have x2 := bN.cell 2
          simp at x0 x1 x2
          have HD9 := hide (HDi.out wr hBw)
          have hm9 := Hm8.out.grown HBr.out
          have HBw := hide hBw
          have HbN := hide bN
          have Hm9 := hide hm9
          clear hBw bN hm9 HDi HBr HB8 Hb8 Hm8 HI8 q1 q2 q3 q4
          go_wp2_with fail
          go_at_call 63
          refine HD9.out.mono ?_
          rintro e w10 ⟨rfl, hb10⟩
          obtain ⟨dl, da, db, dc, de⟩ := fd
          simp only [Brk.val]
          have hBx := HBw.out.trans (hb10.mono HBw.out.size)
          have hB11 := hBx.alloc hBx.size (.cells #[.int .i64 dl, .int .i64 da, .int .i64 db, .int .i64 dc, .int .i64 de] 59)
          have bx := HbN.out.below hb10 HbN.out.lt
          have b11 := bx.alloc (.cells #[.int .i64 dl, .int .i64 da, .int .i64 db, .int .i64 dc, .int .i64 de] 59)
          have bD := Blk.new w10 #[.int .i64 dl, .int .i64 da, .int .i64 db, .int .i64 dc, .int .i64 de] 59
          have hm11 := (Hm9.out.grown hb10).grown ((Below.refl _ w10).alloc (Nat.le_refl _) (.cells #[.int .i64 dl, .int .i64 da, .int .i64 db, .int .i64 dc, .int .i64 de] 59))
          have HP11 := hide (HPa1.out _ hB11)
          simp only [NetM.val, HcellsN.out] at HP11
          have x0 := b11.cell 0
          have x1 := b11.cell 1
          have x2 := b11.cell 2
          have x3 := b11.cell 3
          have x4 := b11.cell 4
          simp at x0 x1 x2 x3 x4
          have HB11 := hide hB11
          have HbD := hide bD
          have Hm11 := hide hm11
          clear HD9 hb10 hBx hB11 bx b11 bD hm11 HbN Hm9 HPa1
          go_wp2_with fail
          go_at_call 59
          refine HP11.out.mono ?_
          rintro e w12 ⟨⟨r, rfl, hr⟩, hb12⟩
          have bD := HbD.out.below hb12 (by simp)
          have z0 := bD.cell 0
          simp at z0
          obtain ⟨q1, q2, q3, q4⟩ := Hmat.out w12 (Hm11.out.grown hb12)
          have HB12 := hide (HB11.out.trans (hb12.mono HB11.out.size))
          have Hr := hide hr
          clear HP11 hb12 bD hr x0 x1 x2 x3 x4 HbD Hm11 HB11
          by_cases hdl : dl = 0
          · subst hdl
            have hrv : (r : Int) = yv := Hr.out.one G.out (HDl.out (Hdi.out (by first | rfl | trivial) (by first | rfl | trivial)))
            have hrv' : r = yv := by omega
            subst hrv'
            clear hrv Hr HDl Hdi
            go_wp2
            go_ret
            exact ⟨rfl, HB12.out⟩
          · have hdl' : (dl != 0) = true := by simp [hdl]
            clear hdl Hr HDl Hdi
            go_wp2
            go_ret
            exact ⟨rfl, HB12.out⟩
    all_goals intro t W hG hp K hK
    all_goals subst hG
    all_goals simp only [fill, Act.put, List.setIfInBounds_toArray, List.set_cons_zero, List.set_cons_succ] at hK ⊢
    · rw [if_pos (by rfl)]
      go_simp
      exact hK _ _ rfl rfl (fun _ _ _ h => h)
    · rw [if_pos (by rfl)]
      go_simp
      exact hK _ _ rfl rfl (fun _ _ _ h => h)
    · have e0 := valsE_get (hp 0 (by decide)) rfl
      have e1 := valsE_get (hp 1 (by decide)) rfl
      simp only [e0, e1] at hK ⊢
      rw [if_pos (by rfl)]
      go_simp
      exact hK _ _ rfl rfl (fun _ _ _ h => h)
    · have e2 := valsE_get (hp 2 (by decide)) rfl
      simp only [e2] at hK ⊢
      rw [if_pos (by rfl)]
      go_simp
      exact hK _ _ rfl rfl (fun _ _ _ h => h)
    · rw [if_pos (by rfl)]
      go_simp
      exact hK _ _ rfl rfl (fun _ _ _ h => h)
    · have e3 := valsE_get (hp 3 (by decide)) rfl
      have e4 := valsE_get (hp 4 (by decide)) rfl
      simp only [e3, e4] at hK ⊢
      rw [if_pos (by rfl)]
      go_simp
      exact hK _ _ rfl rfl (fun _ _ _ h => h)
    · have e5 := valsE_get (hp 5 (by decide)) rfl
      simp only [e5] at hK ⊢
      rw [if_pos (by rfl)]
      go_simp
      exact hK _ _ rfl rfl (fun _ _ _ h => h)
    · rw [if_pos (by rfl)]
      go_simp
      exact hK _ _ rfl rfl (fun _ _ _ h => h)
    · have e7 := valsE_get (hp 7 (by decide)) rfl
      simp only [e7] at hK ⊢
      rw [if_pos (by rfl)]
      go_simp
      exact hK _ _ rfl rfl (fun _ _ _ h => h)
    · have e8 := valsE_get (hp 8 (by decide)) rfl
      simp only [e8] at hK ⊢
      rw [if_pos (by rfl)]
      go_simp
      exact hK _ _ rfl rfl (fun _ _ _ h => h)
    · have e9 := valsE_get (hp 9 (by decide)) rfl
      have hws : IntKind.i64.wrap (n.a.size - 1) = n.a.size - 1 := by simp [IntKind.wrap, IntKind.bits, IntKind.signed]; omega
      simp only [e9] at hK ⊢
      rw [if_pos (by rfl)]
      go_simp
      exact hK _ _ rfl rfl (fun _ _ _ h => h)
    · have e6 := valsE_get (hp 6 (by decide)) rfl
      have e10 := valsE_get (hp 10 (by decide)) rfl
      simp only [e6, e10] at hK ⊢
      rw [if_pos (by rfl)]
      go_simp
      exact hK _ _ rfl rfl (fun _ _ _ h => h)
    · have e11 := valsE_get (hp 11 (by decide)) rfl
      simp only [e11] at hK ⊢
      rw [if_pos (by rfl)]
      go_simp
      exact hK _ _ rfl rfl (fun _ _ _ h => h)
  all_goals intro t W hG hp ht K hK
  all_goals simp only [fill, Act.put, List.setIfInBounds_toArray, List.set_cons_zero, List.set_cons_succ] at hK ⊢
  all_goals rw [if_pos (by rfl)]
  · have e8 : t 8 = .int .i64 a := ht 8 _ rfl (by decide)
    simp only [e8] at hK ⊢
    go_simp
    exact hK _ W hG rfl (fun _ _ _ _ h => h)
  · go_simp
    exact hK _ W hG rfl (fun _ _ _ _ h => h)
  · have e1 := valsE_get (hp 1 (by decide) (by decide)) rfl
    have y3 := (b5.below hG b5.lt).cell 3
    simp at y3
    simp only [e1] at hK ⊢
    go_simp
    exact hK _ W hG rfl (fun _ _ _ _ h => h)
  · have e0 := valsE_get (hp 0 (by decide) (by decide)) rfl
    have e2 := valsE_get (hp 2 (by decide) (by decide)) rfl
    simp only [e0, e2] at hK ⊢
    go_simp
    go_at_call 18
    refine (HCa.out W).mono ?_
    rintro e W' ⟨rfl, q, rfl⟩
    go_simp
    exact hK _ _ (below_drewN hG q) rfl (fun _ _ _ _ h => h)
  · have e9 : t 9 = .int .i64 b := ht 9 _ rfl (by decide)
    simp only [e9] at hK ⊢
    go_simp
    exact hK _ W hG rfl (fun _ _ _ _ h => h)
  · go_simp
    exact hK _ W hG rfl (fun _ _ _ _ h => h)
  · have e1 := valsE_get (hp 5 (by decide) (by decide)) rfl
    have y3 := (b5.below hG b5.lt).cell 3
    simp at y3
    simp only [e1] at hK ⊢
    go_simp
    exact hK _ W hG rfl (fun _ _ _ _ h => h)
  · have e0 := valsE_get (hp 4 (by decide) (by decide)) rfl
    have e2 := valsE_get (hp 6 (by decide) (by decide)) rfl
    simp only [e0, e2] at hK ⊢
    go_simp
    go_at_call 18
    refine (HCb.out W).mono ?_
    rintro e W' ⟨rfl, q, rfl⟩
    go_simp
    exact hK _ _ (below_drewN hG q) rfl (fun _ _ _ _ h => h)
  · have e3 := valsE_get (hp 3 (by decide) (by decide)) rfl
    simp only [e3] at hK ⊢
    go_simp
    exact hK _ W hG rfl (fun _ _ _ _ h => h)
  · have e7 := valsE_get (hp 7 (by decide) (by decide)) rfl
    simp only [e7] at hK ⊢
    go_simp
    exact hK _ W hG rfl (fun _ _ _ _ h => h)

end Go.Proofs.Ytjhkadffaephmab
