/-
  signpostlaw.EngineSettles.
-/
import Derived.Test.YtjhkadffaephmabBundleGG
import Derived.Test.YtjhkadffaephmabBundleGH
import Derived.Test.YtjhkadffaephmabBundleDA
import Derived.Test.YtjhkadffaephmabBundleGI
import Derived.Test.YtjhkadffaephmabRoutesEQ
import Derived.Test.YtjhkadffaephmabBundleBH
namespace Go.Proofs.Ytjhkadffaephmab
set_option maxRecDepth 100000
open Go.RowKit

theorem EvsM.In.grown {l : EvsM} {w w' : World} (h : l.In w.heap.size w) (hb : Below w.heap.size w w') : l.In w'.heap.size w' := by
  have h' := h.below hb (Nat.le_refl _)
  exact ⟨h'.ea, fun h0 => Nat.lt_of_lt_of_le (h'.eb h0) hb.size, h'.c0, h'.c1, h'.c2, h'.c3, h'.c4, fun i hi => (h'.v i hi).mono hb.size, h'.len⟩
/-- Play, as one answer. -/
theorem play_one (n : NetM) (x : EngM) (l : EvsM) (w : World) (h : n.In w.heap.size w) (hx : x.In w.heap.size w) (hl : l.In w.heap.size w) :
    Calls Try.prog 25 #[n.val, x.val, .slice l.ea l.en l.ec] w fun r w' => (∃ (m : EngM) (c er : Int), r = .returned (.tuple #[m.val, .int .i64 c, .int .i64 er]) ∧ m.In w'.heap.size w' ∧ (er = 0 → m.err n.net = 0)) ∧ Below w.heap.size w w' := by
  refine (play_any n x l w h hx hl).mono ?_
  rintro r w' ⟨hb, h1 | h1 | h1⟩
  · exact ⟨⟨zeroM, 0, x.err n.net, h1.2, zeroM_in _ _, fun h0 => absurd h0 h1.1⟩, hb⟩
  · exact ⟨⟨zeroM, 0, 2, h1.2.2, zeroM_in _ _, fun h0 => absurd h0 (by decide)⟩, hb⟩
  · obtain ⟨_, _, m, h2, h3, h4, h5⟩ := h1
    exact ⟨⟨m, _, 0, h2, h3, fun _ => h5⟩, hb⟩
/-- Calm, of an engine that passes Check and so many rounds that there may be. -/
theorem calm_one (n : NetM) (x : EngM) (rd : Int) (w : World) (h : n.In w.heap.size w) (hx : x.In w.heap.size w) (hok : x.err n.net = 0) (hrd : 0 ≤ rd ∧ rd ≤ 100) :
    Calls Try.prog 27 #[n.val, x.val, .int .i64 rd] w fun r w' => (∃ m : EngM, r = .returned (.tuple #[m.val, .int .i64 0]) ∧ BoxM (fun m => m.err n.net = 0 ∧ m.eng = x.eng.calm n.net rd.toNat) m w') ∧ Below w.heap.size w w' := by
  refine (calm_any n x rd w h hx).mono ?_
  rintro r w' ⟨hb, h1 | h1 | h1⟩
  · exact absurd hok h1.1
  · exact absurd h1.2.1 (by omega)
  · obtain ⟨_, _, m, h2, h3, h4, h5, h6⟩ := h1
    exact ⟨⟨m, h2, h3, h6, h5, h4⟩, hb⟩

/-- What F5 says, all together. -/
theorem Net.engine_last {n : Net} {N : Nat} (hs : n.a.Strict) {x m : EngM} (hx : x.err n = 0) (hN : n.nodes = (N : Int)) {k : Nat} (hk : n.a.size ≤ k) (hm : m.err n = 0) (he : m.eng = x.eng.calm n k) :
    n.check = 0 ∧ m.bag.bn = 0 ∧ m.rs.gn ≤ 100 ∧ n.fit ⟨n.N, fun _ => n.N, n.begin⟩ = 0 ∧ Tab.same m.routes ⟨n.N, fun _ => n.N, (n.settle 100 n.begin).1⟩ = true := by
  have hR := EngM.right hx hN
  have hM := EngM.right hm hN
  have g := Net.good_of_check hR.check
  have hNN : n.N = N := by unfold Net.N; omega
  have h6 := g.hi
  have hi := g.law.good.hi
  have hb := Net.begin_state hR.check
  obtain ⟨_, s2, s3⟩ := n.settle_strict g hs hb (m := 100) (by omega)
  obtain ⟨c1, c2⟩ := Eng.calm_settles g hs hR.fit (k := k) hk s2 s3
  rw [← he] at c1 c2
  refine ⟨hR.check, ?_, by rw [hM.gn]; omega, Net.fit_of_is hR.check (Net.Is.mk' hb), Tab.same_iff.2 ⟨?_, fun r hr => ⟨?_, fun c hc => ?_⟩⟩⟩
  · have := congrArg List.length c1
    simpa [EngM.eng] using this
  · show m.rs.gn = n.N; rw [hM.gn, hNN]
  · have hr' : r < m.rs.gn := hr
    rw [hM.gn] at hr'
    show (m.rs.r r).rl = n.N; rw [hM.rl r hr', hNN]
  · have hr' : r < m.rs.gn := hr
    rw [hM.gn] at hr'
    have hc' : c < (m.rs.r r).rl := hc
    rw [hM.rl r hr'] at hc'
    exact c2 r c (by omega) (by omega)

set_option maxHeartbeats 8000000 in
theorem engineSettles_any (n : NetM) (x : EngM) (l : EvsM) (more : Int) (w : World) (h : n.In w.heap.size w) (hx : x.In w.heap.size w) (hl : l.In w.heap.size w) (a0 : -9223372036854775808 ≤ more) (a1 : more ≤ 9223372036854775807) :
    Calls Try.prog 6 #[n.val, x.val, .slice l.ea l.en l.ec, .int .i64 more] w fun e w' => e = .returned (.bool true) ∧ Below w.heap.size w w' := by
  obtain ⟨W1, hW1⟩ : ∃ W1, W1 = (w.alloc (.cells n.cells 41)).alloc (.cells x.cells 45) := ⟨_, rfl⟩
  have hB1 : Below w.heap.size w W1 := by rw [hW1]; exact ((Below.refl _ w).alloc (Nat.le_refl _) _).alloc (by simp) _
  have b5 : Blk W1 w.heap.size n.cells 41 := by rw [hW1]; exact (Blk.new w _ _).alloc _
  have b6 : Blk W1 (w.heap.size + 1) x.cells 45 := by rw [hW1]; exact Blk.new' (by simp)
  have HB1 := hide hB1
  have Hb5 := hide b5
  have Hb6 := hide b6
  have HPl := hide (fun W (hb : Below w.heap.size w W) => play_one n x l W (h.grown hb) (hx.grown hb) (hl.grown hb))
  have HSa := hide (fun W (hb : Below w.heap.size w W) => strict_any n.a W (h.a.below hb (Nat.le_refl _) |>.mono hb.size))
  have HBg := hide (fun W (hb : Below w.heap.size w W) => netBegin_any n W (h.grown hb))
  have HSe := hide (fun W (hb : Below w.heap.size w W) m (hm : Mat.In m W.heap.size W) => netSettle_any n m 100 W (h.grown hb) hm)
  have HCa := hide (fun W (hb : Below w.heap.size w W) m rd (hm : EngM.In m W.heap.size W) hok hrd => calm_one n m rd W (h.grown hb) hm hok hrd)
  have Hst := hide (fun (hc : n.a.alg.check = 0) (hl : (n.a.alg.tell [8]).law = 0) => show n.net.a.Strict from Alg.Strict.of hc hl)
  have HE : Hid (∀ t : Tab, n.net.settleE t 100 = n.net.fit t) := hide (fun t => by unfold Net.settleE; split; rfl; next h => simpa using (Classical.not_not.1 h).symm)
  generalize n.a.alg.tell [8] = fb at *
  generalize n.a.alg.check = ck at *
  simp only [NetM.val, NetM.cells, Mat.val, EngM.val, EngM.cells, AlgM.val] at hW1 HPl HSa HBg HSe HCa ⊢
  have HW1 := hide hW1
  clear h hx hl hB1 b5 b6 hW1
  go_enter Try.func6, Try.ntmps6
  go_wp2_with fail
  rw [← HW1.out]
  go_at_call 19
  refine (engineBegun_any _).mono ?_
  rintro e W2 ⟨rfl, hb2⟩
  have HB2 := hide (HB1.out.trans (hb2.mono HB1.out.size))
  have Hb52 := hide (Hb5.out.below hb2 Hb5.out.lt)
  have Hb62 := hide (Hb6.out.below hb2 Hb6.out.lt)
  clear hb2 HB1 Hb5 Hb6 HW1
  go_wp2_with fail
  go_at_call 23
  refine (netBegun_any _).mono ?_
  rintro e W3 ⟨rfl, hb3⟩
  have HB3 := hide (HB2.out.trans (hb3.mono HB2.out.size))
  have Hb53 := hide (Hb52.out.below hb3 Hb52.out.lt)
  have Hb63 := hide (Hb62.out.below hb3 Hb62.out.lt)
  clear hb3 HB2 Hb52 Hb62
  go_wp2_with fail
  go_at_call 24
  refine (begun_any _).mono ?_
  rintro e W4 ⟨rfl, hb4⟩
  have HB4 := hide (HB3.out.trans (hb4.mono HB3.out.size))
  have Hb5 := hide (Hb53.out.below hb4 Hb53.out.lt)
  have Hb6 := hide (Hb63.out.below hb4 Hb63.out.lt)
  clear hb4 HB3 Hb53 Hb63
  have n0 := Hb5.out.cell 0
  have n1 := Hb5.out.cell 1
  have n2 := Hb5.out.cell 2
  have n3 := Hb5.out.cell 3
  have n4 := Hb5.out.cell 4
  have x0 := Hb6.out.cell 0
  have x1 := Hb6.out.cell 1
  simp [NetM.cells, Mat.val] at n0 n1 n2 n3 n4
  simp [EngM.cells] at x0 x1
  have HC := hide (HPl.out W4 HB4.out)
  clear HPl
  go_wp2_with fail
  go_at_call 25
  refine HC.out.mono ?_
  rintro r W5 ⟨⟨m5, c5, er, rfl, hm5, hok5⟩, hb5⟩
  have HB5 := hide (HB4.out.trans (hb5.mono HB4.out.size))
  have Hb55 := hide (Hb5.out.below hb5 Hb5.out.lt)
  obtain ⟨W6, hW6⟩ : ∃ W6, W6 = W5.alloc (.cells m5.cells 45) := ⟨_, rfl⟩
  have hb6 : Below W5.heap.size W5 W6 := by rw [hW6]; exact (Below.refl _ W5).alloc (Nat.le_refl _) _
  have HB6 := hide (HB5.out.trans (hb6.mono HB5.out.size))
  have Hn6 := hide (Hb55.out.below hb6 Hb55.out.lt)
  obtain ⟨q9, hq9⟩ : ∃ q9, q9 = W5.heap.size := ⟨_, rfl⟩
  have Hq9 : Hid (Blk W6 q9 m5.cells 45) := hide (by rw [hW6]; exact Blk.new' hq9)
  have Hm6 := hide (hm5.grown hb6)
  have HS6 := hide (HSa.out W6 HB6.out)
  have Hok5 := hide hok5
  have k0 := Hn6.out.cell 0
  have k1 := Hn6.out.cell 1
  have k2 := Hn6.out.cell 2
  simp [NetM.cells, Mat.val] at k0 k1 k2
  simp only [EngM.cells] at hW6
  have HW6 := hide hW6
  have Hq9e := hide hq9
  clear hm5 hok5 hb5 hb6 hW6 hq9 HC HSa Hb5 Hb6 HB4 Hb55 HB5 n0 n1 n2 n3 n4 x0 x1
  rw [HW6.out] at k0 k1 k2 HS6
  go_wp2_with fail
  go_at_call 26
  refine HS6.out.mono ?_
  rw [← HW6.out, ← Hq9e.out]
  rintro e W7 ⟨rfl, hb7⟩
  obtain ⟨fl, fa, fb', fc, fe⟩ := fb
  simp only [Brk.val]
  obtain ⟨W8, hW8⟩ : ∃ W8, W8 = W7.alloc (.cells #[.int .i64 fl, .int .i64 fa, .int .i64 fb', .int .i64 fc, .int .i64 fe] 59) := ⟨_, rfl⟩
  have hb8 : Below W7.heap.size W7 W8 := by rw [hW8]; exact (Below.refl _ W7).alloc (Nat.le_refl _) _
  have hb78 := hb7.trans (hb8.mono hb7.size)
  have HB8 := hide (HB6.out.trans (hb78.mono HB6.out.size))
  have Hn8 := hide (Hn6.out.below hb78 Hn6.out.lt)
  have Hq8 := hide (Hq9.out.below hb78 Hq9.out.lt)
  have Hm8 := hide (Hm6.out.grown hb78)
  have z0 : W8.cell? ⟨W7.heap.size, 0, none⟩ = some (.int .i64 fl) := by rw [hW8]; simp
  rw [hW8] at z0
  have HW8 := hide hW8
  clear hb7 hb8 hb78 hW8 HS6 k0 k1 k2 Hn6 Hq9 Hm6 HB6
  by_cases he : er = 0
  rotate_left
  · have he' : (er != 0) = true := by simp [he]
    rw [HW8.out] at HB8
    clear he
    go_wp2
    go_ret
    exact ⟨rfl, HB8.out⟩
  subst he
  by_cases hc : ck = 0
  rotate_left
  · have hc' : (ck != 0) = true := by simp [hc]
    rw [HW8.out] at HB8
    clear hc
    go_wp2
    go_ret
    exact ⟨rfl, HB8.out⟩
  subst hc
  by_cases hlw : fl = 0
  rotate_left
  · have hl' : (fl != 0) = true := by simp [hlw]
    rw [HW8.out] at HB8
    clear hlw
    go_wp2
    go_ret
    exact ⟨rfl, HB8.out⟩
  subst hlw
  have hok := Hok5.out rfl
  have hchk : n.net.check = 0 := by
    have := hok
    unfold EngM.err at this
    split at this
    · next h1 => exact absurd this h1
    · next h1 => omega
  obtain ⟨N, hN⟩ : ∃ N : Nat, n.nodes = N := ⟨n.nodes.toNat, by have := (Net.good_of_check hchk).lo; have : n.net.nodes = n.nodes := rfl; omega⟩
  have hnn : n.net.nodes = (N : Int) := hN
  have hs0 : 2 ≤ n.a.size := (Net.good_of_check hchk).law.good.lo
  have hs1 : n.a.size ≤ 24 := (Net.good_of_check hchk).law.good.hi
  obtain ⟨cm, hcm⟩ : ∃ cm, cm = chooseV more 4 := ⟨_, rfl⟩
  have hcr : 0 ≤ cm ∧ cm < 4 := by rw [hcm]; exact chooseV_in (by omega)
  have HCh := hide (fun W => choose_any more 4 W (by omega) (by omega) a0 a1)
  rw [← hcm] at HCh
  have HCc := hide (fun W (hb : Below w.heap.size w W) (hm : m5.In W.heap.size W) => HCa.out W hb m5 (n.a.size + 1 + cm) hm hok (by omega))
  have HLast := hide (fun m hm he => Net.engine_last (Hst.out rfl rfl) hok hnn (k := (n.a.size + 1 + cm).toNat) (m := m) (by have h3 : n.net.a.size = n.a.size := rfl; omega) hm he)
  have HLO : Hid (W8.heap.size ≤ W8.heap.size) := hide (Nat.le_refl _)
  have HLW : Hid (W8.heap.size ≤ W8.heap.size) := hide (Nat.le_refl _)
  clear hok hchk hN hcm hnn Hst Hok5 HCa z0 a0 a1
  have z0 : (W7.alloc (.cells #[.int .i64 0, .int .i64 fa, .int .i64 fb', .int .i64 fc, .int .i64 fe] 59)).cell? ⟨W7.heap.size, 0, none⟩ = some (.int .i64 0) := by simp
  go_wp2_with fail
  rw [← HW8.out]
  clear z0
  refine wp_region_mark 14 16 (fun _ W => Below W8.heap.size W8 W) (boxE [.agg #[.int .i64 n.a.size, .slice n.a.B.ga n.a.B.t.len n.a.B.cap, .slice n.a.E.ga n.a.E.t.len n.a.E.cap, .int .i64 n.nodes, .slice n.la n.ln n.lc], .agg #[.slice m5.rs.ga m5.rs.gn m5.rs.gc, .slice m5.bag.ba m5.bag.bn m5.bag.bc], .pointer (some ⟨w.heap.size, 0, none⟩), .pointer (some ⟨w.heap.size, 0, none⟩), .int .i64 n.a.size, .int .i64 (n.a.size + 1), .int .i64 more, .int .i64 cm, .int .i64 (n.a.size + 1 + cm), undef, undef, undef, .int .i64 0, undef, undef, .int .i64 0] 9 (0) (fun m => m.err n.net = 0 ∧ m.eng = m5.eng.calm n.net (n.a.size + 1 + cm).toNat) (W8.heap.size)) (by kernel_rfl) (by kernel_rfl) (by kernel_rfl) (by decide) (⟨rfl, rfl, rfl, Nat.le_refl _, fun _ _ => rfl⟩) ⟨?_, ?_, ?_, ?_, ?_, ?_, ?_, ?_, ?_, ?_, ?_, ?_, ?_, ?_, ?_, ?_, trivial⟩ ?_
  rotate_right
  · intro t9 W9 hG hE
    have e15 := boxE_get (hE 15 (by decide)) (by decide) rfl
    obtain ⟨q9, eq, hlq9, _, hqm⟩ := boxE_c4.1 (hE 13 (by decide))
    obtain ⟨m9, hm⟩ := hqm rfl
    have HG9 := hide hG
    have Hm9 := hide hm
    clear hE hG hm hqm
    simp only [fill, Act.put, List.setIfInBounds_toArray, List.set_cons_zero, List.set_cons_succ, e15, eq]
    clear e15 eq
    obtain ⟨hze, hzg⟩ := Hm9.out.ok
    obtain ⟨l1, l2, l3, l4, l5⟩ := HLast.out m9 hze hzg
    have HB9 := hide (HB8.out.trans (HG9.out.mono HB8.out.size))
    have Hn9 := hide (Hn8.out.below HG9.out Hn8.out.lt)
    have HBg9 := hide (HBg.out W9 HB9.out)
    rw [l1] at HBg9
    have d0 := Hn9.out.cell 0
    have d1 := Hn9.out.cell 1
    have d2 := Hn9.out.cell 2
    have d3 := Hn9.out.cell 3
    have d4 := Hn9.out.cell 4
    simp [NetM.cells, Mat.val] at d0 d1 d2 d3 d4
    have HL2 := hide l2
    have HL3 := hide l3
    have HL4 := hide l4
    have HL5 := hide l5
    clear hze hzg l1 l2 l3 l4 l5 HLast HBg HG9
    go_wp2_with fail
    go_at_call 28
    refine HBg9.out.mono ?_
    rintro e W10 ⟨⟨sb, rfl, hsb⟩, hb10⟩
    have HB10 := hide (HB9.out.trans (hb10.mono HB9.out.size))
    have Hn10 := hide (Hn9.out.below hb10 Hn9.out.lt)
    have Hm10 := hide (Hm9.out.keep hb10)
    have hst := hsb.ok rfl
    have HS10 := hide (HSe.out W10 HB10.out sb hsb.mem)
    have hfit : n.net.fit sb.t = 0 := by rw [hst]; exact HL4.out
    have hz : sb.t.Z = n.net.begin := by rw [hst]
    rw [HE.out, hfit, hz, show (100 : Int).toNat = 100 from rfl] at HS10
    have d0 := Hn10.out.cell 0
    have d1 := Hn10.out.cell 1
    have d2 := Hn10.out.cell 2
    have d3 := Hn10.out.cell 3
    have d4 := Hn10.out.cell 4
    simp [NetM.cells, Mat.val] at d0 d1 d2 d3 d4
    clear hsb hb10 hst hfit hz HBg9 HSe HE Hn9 Hm9 HB9
    go_wp2_with fail
    go_at_call 29
    refine HS10.out.mono ?_
    rintro e W11 ⟨⟨sq, cq, rfl, hsq, _, _⟩, hb11⟩
    have HB11 := hide (HB10.out.trans (hb11.mono HB10.out.size))
    have Hm11 := hide (Hm10.out.keep hb11)
    have hqt := hsq.ok rfl
    have HRo := hide (routesOf_any m9 W11 Hm11.out.mem HL3.out)
    have Hsq := hide hsq
    have v0 := Hm11.out.blk.cell 0
    have v1 := Hm11.out.blk.cell 1
    simp [EngM.cells] at v0 v1
    have hbn := HL2.out
    rw [hbn] at v1
    have Hsame : Hid (∀ t : Tab, t = m9.routes → t.same sq.t = true) := hide (fun t ht => by rw [ht, hqt]; exact HL5.out)
    simp only [EngM.val, EngM.cells, hbn] at HRo
    clear hsq hb11 hqt HS10 Hn10 Hm10 HB10 HL2 HL3 HL4 HL5 hbn
    go_wp2_with fail
    go_at_call 31
    refine HRo.out.mono ?_
    rintro e W12 ⟨⟨rm, rfl, hrt, hri⟩, hb12⟩
    have HB12 := hide (HB11.out.trans (hb12.mono HB11.out.size))
    have HSS := hide (sameState_any rm sq W12.heap.size W12 hri (Hsq.out.grown hb12).mem)
    rw [Hsame.out rm.t hrt] at HSS
    simp only [Mat.val] at HSS ⊢
    clear hrt hri hb12 HRo Hsq Hsame Hm11 HB11
    go_wp2_with fail
    go_at_call 30
    refine HSS.out.mono ?_
    rintro e W13 ⟨rfl, z, rfl⟩
    go_wp2
    go_ret
    exact ⟨rfl, below_drewN HB12.out _⟩
  all_goals first | (rw [if_neg (by decide)]; intro bb t W hb hG hp K hK) | (rw [if_pos rfl]; intro t W hG hp K hK)
  all_goals simp only [fill, Act.put, List.setIfInBounds_toArray, List.set_cons_zero, List.set_cons_succ] at hK ⊢
  · have m0 := (Hn8.out.below hG Hn8.out.lt).cell 0
    have m1 := (Hn8.out.below hG Hn8.out.lt).cell 1
    have m2 := (Hn8.out.below hG Hn8.out.lt).cell 2
    have m3 := (Hn8.out.below hG Hn8.out.lt).cell 3
    have m4 := (Hn8.out.below hG Hn8.out.lt).cell 4
    simp [NetM.cells, Mat.val] at m0 m1 m2 m3 m4
    rw [if_pos (by rfl)]
    go_simp
    exact hK _ _ hG (boxE_put (by decide) rfl) (fun _ _ h => h)
  · have z0 := (Hq8.out.below hG Hq8.out.lt).cell 0
    have z1 := (Hq8.out.below hG Hq8.out.lt).cell 1
    simp [EngM.cells] at z0 z1
    rw [if_pos (by rfl)]
    go_simp
    exact hK _ _ hG (boxE_put (by decide) rfl) (fun _ _ h => h)
  · rw [if_pos (by rfl)]
    go_simp
    exact hK _ _ hG (boxE_put (by decide) rfl) (fun _ _ h => h)
  · have e2 := boxE_get (hp 2 (by decide)) (by decide) rfl
    simp only [e2] at hK ⊢
    rw [if_pos (by rfl)]
    go_simp
    exact hK _ _ hG (boxE_put (by decide) rfl) (fun _ _ h => h)
  · have e3 := boxE_get (hp 3 (by decide)) (by decide) rfl
    have m0 := (Hn8.out.below hG Hn8.out.lt).cell 0
    have m1 := (Hn8.out.below hG Hn8.out.lt).cell 1
    have m2 := (Hn8.out.below hG Hn8.out.lt).cell 2
    have m3 := (Hn8.out.below hG Hn8.out.lt).cell 3
    have m4 := (Hn8.out.below hG Hn8.out.lt).cell 4
    simp [NetM.cells, Mat.val] at m0 m1 m2 m3 m4
    simp only [e3] at hK ⊢
    rw [if_pos (by rfl)]
    go_simp
    exact hK _ _ hG (boxE_put (by decide) rfl) (fun _ _ h => h)
  · have e4 := boxE_get (hp 4 (by decide)) (by decide) rfl
    simp only [e4] at hK ⊢
    rw [if_pos (by rfl)]
    go_simp
    exact hK _ _ hG (boxE_put (by decide) (by rw [wrap_sm (by omega) (by omega)]; rfl)) (fun _ _ h => h)
  · rw [if_pos (by rfl)]
    go_simp
    exact hK _ _ hG (boxE_put (by decide) rfl) (fun _ _ h => h)
  · have e6 := boxE_get (hp 6 (by decide)) (by decide) rfl
    simp only [e6] at hK ⊢
    rw [if_pos (by rfl)]
    go_simp
    go_at_call 18
    refine (HCh.out _).mono ?_
    rintro r W1 ⟨rfl, z, rfl⟩
    go_simp
    exact hK _ _ (below_drewN hG z) (boxE_put (by decide) rfl) (fun _ _ h => boxE_keep (below_drewN (Below.refl _ _) z) h)
  · have e5 := boxE_get (hp 5 (by decide)) (by decide) rfl
    have e7 := boxE_get (hp 7 (by decide)) (by decide) rfl
    simp only [e5, e7] at hK ⊢
    rw [if_pos (by rfl)]
    have hcr' := hcr
    go_simp
    exact hK _ _ hG (boxE_put (by decide) (by rw [wrap_sm (by omega) (by omega)]; rfl)) (fun _ _ h => h)
  · have e0 := boxE_get (hp 0 (by decide)) (by decide) rfl
    have e1 := boxE_get (hp 1 (by decide)) (by decide) rfl
    have e8 := boxE_get (hp 8 (by decide)) (by decide) rfl
    have HC := hide (HCc.out W (HB8.out.trans (hG.mono HB8.out.size)) (Hm8.out.grown hG))
    simp only [e0, e1, e8] at hK ⊢
    rw [if_pos (by rfl)]
    go_simp
    go_at_call 27
    refine HC.out.mono ?_
    rintro r W1 ⟨⟨m1, rfl, hm1⟩, hb1⟩
    go_simp
    exact hK _ _ (hG.trans (hb1.mono hG.size)) (boxE_c.2 ⟨⟨_, rfl⟩, fun _ => ⟨m1, rfl, hm1⟩⟩) (fun j _ h => boxE_keep hb1 h)
  · have h1 := boxE_c.1 (hp 9 (by decide))
    rw [if_pos (by rfl)]
    go_simp
    exact hK _ _ hG (boxE_c1.2 h1) (fun _ _ h => h)
  · have hb0 := hb (by kernel_rfl)
    subst hb0
    obtain ⟨_, h2⟩ := boxE_c1.1 (hp 10 (by decide))
    obtain ⟨m, e, hm⟩ := h2 rfl
    simp only [EngM.val, EngM.cells] at e
    simp only [e] at hK ⊢
    rw [if_pos (by rfl)]
    go_simp
    exact hK _ _ hG (boxE_c2.2 fun _ => ⟨m, rfl, hm⟩) (fun _ _ h => h)
  · obtain ⟨⟨u, e⟩, _⟩ := boxE_c1.1 (hp 10 (by decide))
    simp only [e] at hK ⊢
    rw [if_pos (by rfl)]
    go_simp
    exact hK _ _ hG (boxE_put (by decide) rfl) (fun _ _ h => h)
  · have hb0 := hb (by kernel_rfl)
    subst hb0
    rw [if_pos (by rfl)]
    go_simp
    exact hK _ _ (hG.alloc hG.size _) (boxE_c4.2 ⟨W.heap.size, rfl, Nat.le_trans HLO.out hG.size, fun _ => Blk.new W _ _, fun h => by cases h⟩) (fun j _ h => boxE_keep ((Below.refl _ W).alloc (Nat.le_refl _) _) h)
  · obtain ⟨m1, e1, hm1⟩ := boxE_c2.1 (hp 11 (by decide)) rfl
    obtain ⟨q, eq, hlq, hq, _⟩ := boxE_c4.1 (hp 13 (by decide))
    have hqb := hq rfl
    have HN := hide (hm1.stored hqb)
    have HBs := hide ((hG.setCell (p := ⟨q, 0, none⟩) (Nat.le_trans HLW.out hlq) (.slice m1.rs.ga m1.rs.gn m1.rs.gc)).setCell (p := ⟨q, 1, none⟩) (Nat.le_trans HLW.out hlq) (.slice m1.bag.ba m1.bag.bn m1.bag.bc))
    have c0 := hqb.cell 0
    have c1 := hqb.cell 1
    have f0 := hqb.frozen 0
    have f1 := hqb.frozen 1
    simp at c0 c1
    have Hst := hide (boxE_store (vs := [.agg #[.int .i64 n.a.size, .slice n.a.B.ga n.a.B.t.len n.a.B.cap, .slice n.a.E.ga n.a.E.t.len n.a.E.cap, .int .i64 n.nodes, .slice n.la n.ln n.lc], .agg #[.slice m5.rs.ga m5.rs.gn m5.rs.gc, .slice m5.bag.ba m5.bag.bn m5.bag.bc], .pointer (some ⟨w.heap.size, 0, none⟩), .pointer (some ⟨w.heap.size, 0, none⟩), .int .i64 n.a.size, .int .i64 (n.a.size + 1), .int .i64 more, .int .i64 cm, .int .i64 (n.a.size + 1 + cm), undef, undef, undef, .int .i64 0, undef, undef, .int .i64 0]) (c := 9) (er := 0) (t := t) (W := W) eq hlq HN.out)
    simp only [EngM.val, EngM.cells] at e1
    clear hm1 hqb hq
    simp only [e1, eq] at hK ⊢
    rw [if_pos (by rfl)]
    go_simp
    exact hK undef _ HBs.out boxE_c5 (fun j hj h => Hst.out j hj h)
  · have e12 := boxE_get (hp 12 (by decide)) (by decide) rfl
    simp only [e12] at hK ⊢
    rw [if_pos (by rfl)]
    go_simp
    exact hK _ _ hG (boxE_put (by decide) rfl) (fun _ _ h => h)

end Go.Proofs.Ytjhkadffaephmab
