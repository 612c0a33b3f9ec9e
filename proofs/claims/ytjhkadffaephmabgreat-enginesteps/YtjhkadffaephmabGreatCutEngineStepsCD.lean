/-
  Our own texts, bundled: a claim holds few files.
-/
import Derived.Test.YtjhkadffaephmabGreatCutEngineStepsCB
import Derived.Test.YtjhkadffaephmabGreatCutEngineStepsBG
import Derived.Test.YtjhkadffaephmabGreatCutEngineStepsCC
/-
  signpostref.without.
-/
namespace Go.Proofs.YtjhkadffaephmabGreat
set_option maxRecDepth 100000
open Go.RowKit

theorem append_none (w : World) (ty : TypeId) (g n cap : Nat) (ad : Option Addr) (q : Nat) (h : n ≤ cap) :
    (Builtin.append_ #[29, 29] ty #[.slice (some ⟨g, 0, none⟩) n cap, .slice ad 0 q]).run Tryz.prog w = .ok (.slice (some ⟨g, 0, none⟩) n cap) w := by
  obtain ⟨i0, hi0, hq⟩ : ∃ i, Tryz.prog.info? 69 = some i ∧ (i.zero.map (fun z => z.cells.size), i.size, i.bytes) = (some 3, 3, 32) := Option.map_eq_some_iff.1 Tryz.infoMail
  cases ad <;> simp [Builtin.append_, run_underlying Tryz.underlying29, sizeOf, typeInfo, hi0, Builtin.lenOf, Builtin.firstCells, storeCells, loadCells, loadCellsFrom, h]
/-- Mail behind mail of one's own. -/
theorem append_mails (W : World) (base g cap : Nat) (l l2 : List Mail) (ho : W.ownsRow base 69 3 (.slice (some ⟨g, 0, none⟩) l.length cap) l.length (mailsL l)) (hl : l.length + l2.length ≤ 200) (hC : base ≤ W.heap.size) (ad : Addr) (c : Nat) (hs : 0 < l2.length → ∀ t u, (mailsL l2)[t]? = some u → W.cell? (ad.add t) = some u) (ty : TypeId) :
    ∃ g' cap' W', (Builtin.append_ #[29, 29] ty #[.slice (some ⟨g, 0, none⟩) l.length cap, .slice (some ad) l2.length c]).run Tryz.prog W = .ok (.slice (some ⟨g', 0, none⟩) (l ++ l2).length cap') W' ∧ W'.ownsRow base 69 3 (.slice (some ⟨g', 0, none⟩) (l ++ l2).length cap') (l ++ l2).length (mailsL (l ++ l2)) ∧ Below base W W' := by
  by_cases hp : 0 < l2.length
  · obtain ⟨i0, hi0, hq⟩ : ∃ i, Tryz.prog.info? 69 = some i ∧ (i.zero.map (fun z => z.cells.size), i.size, i.bytes) = (some 3, 3, 32) := Option.map_eq_some_iff.1 Tryz.infoMail
    obtain ⟨z, hz, hzs⟩ : ∃ z, i0.zero = some z ∧ z.cells.size = 3 := by
      have := congrArg Prod.fst hq
      simpa [Option.map_eq_some_iff] using this
    have hsz : i0.size = 3 := congrArg (fun x => x.2.1) hq
    have hby : i0.bytes = 32 := congrArg (fun x => x.2.2) hq
    obtain ⟨g', cap', w', hr, h2, h3, _, _⟩ := run_append_lies (P := Tryz.prog) W 29 ty base 69 i0 z 3 32 Tryz.underlying29 hi0 hz hsz hby hzs (by decide) _ l.length _ ho ad l2.length c (mailsL l2) (mailsL_len _) (hs hp) (mailsL_one' _) hp (by unfold maxLen; omega) (by omega) hC _ rfl
    rw [List.length_append, mailsL_append]
    exact ⟨g', cap', w', hr, h2, grown_below h3 (fun k hk => (ho.lt k hk).1) hC⟩
  · have h0 : l2 = [] := List.length_eq_zero_iff.1 (by omega)
    subst h0
    rw [List.append_nil]
    exact ⟨g, cap, W, append_none W ty g l.length cap (some ad) c (own_cap ho rfl), ho, Below.refl _ _⟩

/-- While mail is taken out. -/
structure WoG (w W2 : World) (x : EngM) (N k P : Nat) (y : Lay) (b13 : Bool) (W : World) : Prop where
  old : b13 = false → Below W2.heap.size W2 W
  new : b13 = true → Below w.heap.size w W ∧ Blk W (w.heap.size + 1) #[.slice none 0 0, .slice none 0 0] 31 ∧ ∃ Bv, LiveR (w.heap.size + 2) P N (x.eng.without k) Bv y W

def woE (vs : List Value) (x : EngM) (k j wz : Nat) (b5 b11 b13 : Bool) (q : Nat) (v : Value) (W : World) : Prop :=
  match q with
  | 0 => b5 = false → ∃ g, v = .slice (some ⟨g, 0, none⟩) 0 0 ∧ W.ownsRow wz 69 3 (.slice (some ⟨g, 0, none⟩) 0 0) 0 []
  | 5 => b11 = false → ∃ g cap, v = .slice (some ⟨g, 0, none⟩) (x.eng.bag.take k).length cap ∧ W.ownsRow wz 69 3 (.slice (some ⟨g, 0, none⟩) (x.eng.bag.take k).length cap) (x.eng.bag.take k).length (mailsL (x.eng.bag.take k))
  | 10 => ∃ off mc, v = .slice (some ⟨x.bag.bb, off, none⟩) (x.bag.bn - j) mc ∧ (0 < x.bag.bn - j → off = x.bag.bo + j * 3)
  | 11 => b13 = false → ∃ g cap, v = .slice (some ⟨g, 0, none⟩) (x.eng.bag.eraseIdx k).length cap ∧ W.ownsRow wz 69 3 (.slice (some ⟨g, 0, none⟩) (x.eng.bag.eraseIdx k).length cap) (x.eng.bag.eraseIdx k).length (mailsL (x.eng.bag.eraseIdx k))
  | 13 => True
  | q => vs[q]? = some v
theorem woE_keep {vs : List Value} {x : EngM} {k j wz : Nat} {b5 b11 b13 : Bool} {q : Nat} {v : Value} {W W' : World} (hb : Below W.heap.size W W') (h : woE vs x k j wz b5 b11 b13 q v W) : woE vs x k j wz b5 b11 b13 q v W' := by
  unfold woE at h ⊢
  split at h
  · intro h0; obtain ⟨g, h1, h2⟩ := h h0; exact ⟨g, h1, owns_below h2 hb⟩
  · intro h0; obtain ⟨g, cap, h1, h2⟩ := h h0; exact ⟨g, cap, h1, owns_below h2 hb⟩
  · exact h
  · intro h0; obtain ⟨g, cap, h1, h2⟩ := h h0; exact ⟨g, cap, h1, owns_below h2 hb⟩
  · trivial
  · exact h
theorem woE_put {vs : List Value} {x : EngM} {k j wz : Nat} {b5 b11 b13 : Bool} {q : Nat} {v : Value} {W : World} (h0 : q ≠ 0) (h5 : q ≠ 5) (h10 : q ≠ 10) (h11 : q ≠ 11) (h13 : q ≠ 13) (h : vs[q]? = some v) : woE vs x k j wz b5 b11 b13 q v W := by
  unfold woE
  split <;> first | contradiction | exact h
theorem woE_get {vs : List Value} {x : EngM} {k j wz : Nat} {b5 b11 b13 : Bool} {q : Nat} {v u : Value} {W : World} (h : woE vs x k j wz b5 b11 b13 q v W) (h0 : q ≠ 0) (h5 : q ≠ 5) (h10 : q ≠ 10) (h11 : q ≠ 11) (h13 : q ≠ 13) (hu : vs[q]? = some u) : v = u := by
  unfold woE at h
  split at h <;> first | contradiction | (rw [hu] at h; exact (Option.some.inj h).symm)
theorem woE_five {vs : List Value} {x : EngM} {k j wz : Nat} {q : Nat} {v : Value} {W : World} (W' : World) (hq : q ≠ 5) (hq1 : q ≠ 11) (h : woE vs x k j wz false false false q v W) : woE vs x k j wz true false false q v W' := by
  unfold woE at h ⊢
  split at h
  · intro h0; cases h0
  · contradiction
  · exact h
  · contradiction
  · trivial
  · exact h
theorem woE_eleven {vs : List Value} {x : EngM} {k j wz : Nat} {q : Nat} {v : Value} {W : World} (W' : World) (hq : q ≠ 11) (h : woE vs x k j wz true false false q v W) : woE vs x k j wz true true false q v W' := by
  unfold woE at h ⊢
  split at h
  · intro h0; cases h0
  · intro h0; cases h0
  · exact h
  · contradiction
  · trivial
  · exact h
theorem woE_end {vs : List Value} {x : EngM} {k j wz : Nat} {q : Nat} {v : Value} {W : World} (W' : World) (h : woE vs x k j wz true true false q v W) : woE vs x k j wz true true true q v W' := by
  unfold woE at h ⊢
  split at h
  · intro h0; cases h0
  · intro h0; cases h0
  · exact h
  · intro h0; cases h0
  · trivial
  · exact h
theorem take_drop_erase {α : Type} (l : List α) (k : Nat) : l.take k ++ l.drop (k + 1) = l.eraseIdx k := (List.eraseIdx_eq_take_drop_succ l k).symm

set_option maxHeartbeats 8000000 in
theorem refWithout_any (x : EngM) (N k : Nat) (w : World) (h : x.In w.heap.size w) (hgn : x.rs.gn = N) (hN0 : 0 < N) (hN6 : N ≤ 6) (hbn : x.bag.bn ≤ 120) (hrl : ∀ i, i < N → (x.rs.r i).rl = N) (htl : ∀ i, i < N → (x.rs.r i).T.t.len = N) (hll : ∀ i, i < N → ∀ q, q < N → (x.rs.r i).T.t.L q = if x.eng.told i q = true then N else 0) (hk : k < x.bag.bn) (hcap : x.bag.bn ≤ x.bag.bc) :
    Calls Tryz.prog 33 #[x.val, .int .i64 k] w fun r w' => (∃ P Bv y, LiveR w.heap.size P N (x.eng.without k) Bv y w' ∧ r = .returned (.agg #[.slice (some ⟨y.G, 0, none⟩) N y.gc, Bv])) ∧ Below w.heap.size w w' := by
  obtain ⟨W0, hW0⟩ : ∃ W0, W0 = (w.alloc (.cells x.cells 31)).alloc (.cells #[.slice none 0 0, .slice none 0 0] 31) := ⟨_, rfl⟩
  have hB0 : Below w.heap.size w W0 := by rw [hW0]; exact ((Below.refl _ w).alloc (Nat.le_refl _) _).alloc (by simp) _
  have hsz0 : W0.heap.size = w.heap.size + 2 := by rw [hW0]; simp
  have b4 : Blk W0 w.heap.size x.cells 31 := by rw [hW0]; exact (Blk.new w _ _).alloc _
  have b6 : Blk W0 (w.heap.size + 1) #[.slice none 0 0, .slice none 0 0] 31 := by rw [hW0]; exact Blk.new' (by simp)
  have HCp := hide (refCopied_any x N W0 (h.grown hB0) hgn hN0 hN6 hbn hrl htl hll)
  have hba := h.bag.ba (by omega)
  have hlen : x.eng.bag.length = x.bag.bn := by show ((List.range x.bag.bn).map x.bag.M).length = _; simp
  obtain ⟨j, hj⟩ : ∃ j, j = k + 1 := ⟨_, rfl⟩
  have Hx := hide h
  have HB0 := hide hB0
  have Hb4 := hide b4
  have Hb6 := hide b6
  have Hsz0 := hide hsz0
  have Hba := hide hba
  have Hlen := hide hlen
  have hxc : x.cells = #[.slice x.rs.ga x.rs.gn x.rs.gc, .slice (some ⟨x.bag.bb, x.bag.bo, none⟩) x.bag.bn x.bag.bc] := by rw [← hba]; rfl
  have Hxc := hide hxc
  have z0 := b4.cell 0
  have z1 := b4.cell 1
  rw [hxc] at z0 z1
  simp at z0 z1
  rw [hxc] at hW0
  simp only [EngM.val, hxc] at HCp ⊢
  have HW0 := hide hW0
  have hki : (k : Int) < (x.bag.bn : Int) := by omega
  clear h hB0 b4 b6 hxc hsz0 hW0 hba hlen hrl htl hll hgn
  rw [HW0.out] at HCp z0 z1
  go_enter Tryz.func33, Tryz.ntmps33
  go_wp2_with fail
  go_at_call 35
  refine HCp.out.mono ?_
  rw [← HW0.out]
  rintro r W1 ⟨⟨P0, Bv, y, hL1, rfl⟩, hb1⟩
  obtain ⟨ba, bc, hBv⟩ := own_form hL1.live.bag
  obtain ⟨P, hP⟩ : ∃ P, P = W1.heap.size := ⟨_, rfl⟩
  obtain ⟨W2, hW2⟩ : ∃ W2, W2 = W1.alloc (.cells #[.slice (some ⟨y.G, 0, none⟩) N y.gc, Bv] 31) := ⟨_, rfl⟩
  have hb2 : Below W1.heap.size W1 W2 := by rw [hW2]; exact (Below.refl _ W1).alloc (Nat.le_refl _) _
  have hb12 := hb1.trans (hb2.mono hb1.size)
  have hL2 := hL1.rebox
  rw [← hW2, ← hP, Hsz0.out] at hL2
  have HL2 := hide hL2
  have HB2 := hide (HB0.out.trans (hb12.mono HB0.out.size))
  have He2 := hide (Hb4.out.below hb12 Hb4.out.lt)
  have Hr2 := hide (Hb6.out.below hb12 Hb6.out.lt)
  obtain ⟨wz, hwz⟩ : ∃ wz, wz = W2.heap.size := ⟨_, rfl⟩
  have Hwz := hide hwz
  rw [hBv] at hW2
  rw [hBv]
  have HW2 := hide hW2
  have HP := hide hP
  have Hj := hide hj
  have HGst : Hid (WoG w W2 x N k P y false W2) := hide ⟨fun _ => Below.refl _ _, fun h0 => by cases h0⟩
  have Hjn : Hid (j ≤ x.bag.bn) := hide (by omega)
  clear hL1 hb1 hb2 hb12 hL2 hW2 hP hBv HCp z0 z1 Hb4 Hb6 HB0 hwz hj
  go_wp2_with fail
  rw [← HW2.out, ← HP.out]
  refine wp_region_done (fun d W => WoG w W2 x N k P y (d 13) W) (fun d => woE [undef, .pointer (some ⟨w.heap.size, 1, none⟩), .slice (some ⟨x.bag.bb, x.bag.bo, none⟩) x.bag.bn x.bag.bc, .int .i64 (k : Int), .slice (some ⟨x.bag.bb, x.bag.bo, none⟩) k x.bag.bc, undef, .pointer (some ⟨w.heap.size, 1, none⟩), .slice (some ⟨x.bag.bb, x.bag.bo, none⟩) x.bag.bn x.bag.bc, .int .i64 (k : Int), .int .i64 (j : Int), undef, undef, .pointer (some ⟨P, 1, none⟩), undef] x k j wz (d 5) (d 11) (d 13)) (by kernel_rfl) (by kernel_rfl) (by kernel_rfl) ⟨fun _ => ⟨rfl, rfl, rfl, Nat.le_refl _, fun _ _ => rfl⟩, fun h0 => (by cases h0)⟩ ⟨?_, ?_, ?_, ?_, ?_, ?_, ?_, ?_, ?_, ?_, ?_, ?_, ?_, ?_, trivial⟩ ?_
  rotate_right
  · intro d t W hall hG _
    obtain ⟨hBw, hrs, Bw, hLw⟩ := hG.new (hall 13 (by decide))
    obtain ⟨ca, cc, hBw'⟩ := own_form hLw.live.bag
    have p0 := hLw.live.head.cell 0
    have p1 := hLw.live.head.cell 1
    have s0 := hrs.cell 0
    have s1 := hrs.cell 1
    have f0 := hrs.frozen 0
    have f1 := hrs.frozen 1
    have c7 := (hrs.set 0 (.slice (some ⟨y.G, 0, none⟩) N y.gc)).set 1 Bw
    have e0 := c7.cell 0
    have e1 := c7.cell 1
    simp at p0 p1 s0 s1 e0 e1
    have hl9 := (hLw.setRes hN0 (by omega) hrs (.slice (some ⟨y.G, 0, none⟩) N y.gc) Bw).mono (lo := w.heap.size) (by omega)
    have HF : Hid ((∃ P Bv z, LiveR w.heap.size P N (x.eng.without k) Bv z ((W.setCell ⟨w.heap.size + 1, 0, none⟩ (.slice (some ⟨y.G, 0, none⟩) N y.gc)).setCell ⟨w.heap.size + 1, 1, none⟩ Bw) ∧ Ending.returned (.agg #[.slice (some ⟨y.G, 0, none⟩) N y.gc, Bw]) = .returned (.agg #[.slice (some ⟨z.G, 0, none⟩) N z.gc, Bv])) ∧ Below w.heap.size w ((W.setCell ⟨w.heap.size + 1, 0, none⟩ (.slice (some ⟨y.G, 0, none⟩) N y.gc)).setCell ⟨w.heap.size + 1, 1, none⟩ Bw)) := hide ⟨⟨_, _, _, hl9, rfl⟩, (hBw.setCell (p := ⟨w.heap.size + 1, 0, none⟩) (by show w.heap.size ≤ w.heap.size + 1; omega) _).setCell (p := ⟨w.heap.size + 1, 1, none⟩) (by show w.heap.size ≤ w.heap.size + 1; omega) _⟩
    rw [hBw'] at p1 e0 e1 HF
    generalize (x.eng.without k).bag.length = bl at *
    clear hG hall hrs hLw hBw hl9 c7 hBw' HGst HL2 HB2 He2 Hr2
    simp only [fill, Act.put, List.setIfInBounds_toArray, List.set_cons_zero, List.set_cons_succ]
    go_wp2
    exact bodyPost_ret (v := .agg #[.slice (some ⟨y.G, 0, none⟩) N y.gc, .slice ca bl cc]) (by simp [results, Tryz.results33, go_sem, e0, e1]) rfl HF.out
  all_goals intro d t W hs ho hd hw hG hp K hK
  all_goals simp only [fill, Act.put, List.setIfInBounds_toArray, List.set_cons_zero, List.set_cons_succ] at hK ⊢
  · have h13 := not_yet (F := 14) (S := 13) hs hd (by kernel_rfl)
    have h5 := not_yet (F := 14) (S := 5) hs hd (by kernel_rfl)
    rw [if_pos (by rfl)]
    go_simp
    have hBn : Below W.heap.size W (W.alloc (.cells #[] 69)) := (Below.refl _ W).alloc (Nat.le_refl _) _
    have hown : World.ownsRow (W.alloc (.cells #[] 69)) wz 69 3 (.slice (some ⟨W.heap.size, 0, none⟩) 0 0) 0 [] := World.ownsRow_made W #[] 0 (base := wz) (e := 69) (size := 3) (by rw [Hwz.out]; exact (hG.old h13).size) (Nat.zero_le _) (by simp)
    exact hK _ _ ⟨fun _ => (hG.old h13).alloc (hG.old h13).size _, fun h0 => absurd (h13.symm.trans h0) (by decide)⟩ (fun _ => ⟨_, rfl, hown⟩) (fun j _ _ h => woE_keep hBn h)
  · rw [if_pos (by rfl)]
    go_simp
    exact hK _ _ hG (woE_put (by decide) (by decide) (by decide) (by decide) (by decide) rfl) (fun j _ _ h => h)
  · have e1 := woE_get (hp 1 (hw 1 (by decide))) (by decide) (by decide) (by decide) (by decide) (by decide) rfl
    have h13 := not_yet (F := 14) (S := 13) hs hd (by kernel_rfl)
    have cx := (He2.out.below (hG.old h13) He2.out.lt).cell 1
    rw [Hxc.out] at cx
    simp at cx
    simp only [e1] at hK ⊢
    rw [if_pos (by rfl)]
    go_simp
    exact hK _ _ hG (woE_put (by decide) (by decide) (by decide) (by decide) (by decide) rfl) (fun j _ _ h => h)
  · rw [if_pos (by rfl)]
    go_simp
    exact hK _ _ hG (woE_put (by decide) (by decide) (by decide) (by decide) (by decide) rfl) (fun j _ _ h => h)
  · have e2 := woE_get (hp 2 (hw 2 (by decide))) (by decide) (by decide) (by decide) (by decide) (by decide) rfl
    have e3 := woE_get (hp 3 (hw 3 (by decide))) (by decide) (by decide) (by decide) (by decide) (by decide) rfl
    have hkc : k ≤ x.bag.bc := by omega
    simp only [e2, e3] at hK ⊢
    rw [if_pos (by rfl)]
    go_simp
    exact hK _ _ hG (woE_put (by decide) (by decide) (by decide) (by decide) (by decide) rfl) (fun j _ _ h => h)
  · have h13 := not_yet (F := 14) (S := 13) hs hd (by kernel_rfl)
    have h11 := not_yet (F := 14) (S := 11) hs hd (by kernel_rfl)
    obtain ⟨g, e0, hown⟩ := hp 0 (hw 0 (by decide)) hd
    have e4 := woE_get (hp 4 (hw 4 (by decide))) (by decide) (by decide) (by decide) (by decide) (by decide) rfl
    have hold := hG.old h13
    have hlk : (x.eng.bag.take k).length = k := by rw [List.length_take, Hlen.out]; omega
    obtain ⟨g5, c5, W5, hrun, hown5, hb5⟩ := append_mails W wz g 0 [] (x.eng.bag.take k) hown (by rw [hlk]; simp; omega) (by rw [Hwz.out]; exact hold.size) ⟨x.bag.bb, x.bag.bo, none⟩ x.bag.bc (fun _ t u hu => by
      rw [Go.WideShapes.add_plain]
      refine BagM.news ((Hx.out.below (HB2.out.trans (hold.mono HB2.out.size)) (Nat.le_refl _)).bag) t u ?_
      have ht : t < k * 3 := by have := (List.getElem?_eq_some_iff.1 hu).1; rw [mailsL_len, hlk] at this; exact this
      rw [← mailsL_take, List.getElem?_take, if_pos ht] at hu
      exact hu) 29
    rw [List.nil_append] at hrun hown5
    rw [hlk] at hrun
    simp only [e0] at hK ⊢
    simp only [e4] at hK ⊢
    rw [if_pos (by rfl)]
    refine wp_append_run (by rfl) _ _ 29 (by rfl) _ _ (by rfl) (by rfl) _ W5 hrun ?_
    refine hK _ W5 ⟨fun _ => hold.trans (by rw [← Hwz.out]; exact hb5), fun h0 => absurd (h13.symm.trans h0) (by decide)⟩ (fun _ => ⟨g5, c5, by rw [hlk], hown5⟩) (fun jj hj hdj h => ?_)
    have h' : woE [undef, .pointer (some ⟨w.heap.size, 1, none⟩), .slice (some ⟨x.bag.bb, x.bag.bo, none⟩) x.bag.bn x.bag.bc, .int .i64 (k : Int), .slice (some ⟨x.bag.bb, x.bag.bo, none⟩) k x.bag.bc, undef, .pointer (some ⟨w.heap.size, 1, none⟩), .slice (some ⟨x.bag.bb, x.bag.bo, none⟩) x.bag.bn x.bag.bc, .int .i64 (k : Int), .int .i64 (j : Int), undef, undef, .pointer (some ⟨P, 1, none⟩), undef] x k j wz false false false jj (t jj) W := by have h2 := h; rw [hd, h11, h13] at h2; exact h2
    show woE [undef, .pointer (some ⟨w.heap.size, 1, none⟩), .slice (some ⟨x.bag.bb, x.bag.bo, none⟩) x.bag.bn x.bag.bc, .int .i64 (k : Int), .slice (some ⟨x.bag.bb, x.bag.bo, none⟩) k x.bag.bc, undef, .pointer (some ⟨w.heap.size, 1, none⟩), .slice (some ⟨x.bag.bb, x.bag.bo, none⟩) x.bag.bn x.bag.bc, .int .i64 (k : Int), .int .i64 (j : Int), undef, undef, .pointer (some ⟨P, 1, none⟩), undef] x k j wz (updB d 5 5) (updB d 5 11) (updB d 5 13) jj (t jj) W5
    rw [show updB d 5 5 = true by simp [updB], show updB d 5 11 = false from h11, show updB d 5 13 = false from h13]
    exact woE_five W5 hj (fun hh => by rw [hh, h11] at hdj; cases hdj) h'
  · rw [if_pos (by rfl)]
    go_simp
    exact hK _ _ hG (woE_put (by decide) (by decide) (by decide) (by decide) (by decide) rfl) (fun j _ _ h => h)
  · have e6 := woE_get (hp 6 (hw 6 (by decide))) (by decide) (by decide) (by decide) (by decide) (by decide) rfl
    have h13 := not_yet (F := 14) (S := 13) hs hd (by kernel_rfl)
    have cx := (He2.out.below (hG.old h13) He2.out.lt).cell 1
    rw [Hxc.out] at cx
    simp at cx
    simp only [e6] at hK ⊢
    rw [if_pos (by rfl)]
    go_simp
    exact hK _ _ hG (woE_put (by decide) (by decide) (by decide) (by decide) (by decide) rfl) (fun j _ _ h => h)
  · rw [if_pos (by rfl)]
    go_simp
    exact hK _ _ hG (woE_put (by decide) (by decide) (by decide) (by decide) (by decide) rfl) (fun j _ _ h => h)
  · have e8 := woE_get (hp 8 (hw 8 (by decide))) (by decide) (by decide) (by decide) (by decide) (by decide) rfl
    simp only [e8] at hK ⊢
    rw [if_pos (by rfl)]
    go_simp
    exact hK _ _ hG (woE_put (by decide) (by decide) (by decide) (by decide) (by decide) (by rw [Hj.out, wrap_sm (by omega) (by omega)]; rfl)) (fun j _ _ h => h)
  · have e7 := woE_get (hp 7 (hw 7 (by decide))) (by decide) (by decide) (by decide) (by decide) (by decide) rfl
    have e9 := woE_get (hp 9 (hw 9 (by decide))) (by decide) (by decide) (by decide) (by decide) (by decide) rfl
    have hjn := Hjn.out
    have hji : (j : Int) ≤ (x.bag.bn : Int) := by omega
    have hjc : j ≤ x.bag.bc := by omega
    obtain ⟨off, hA, hoff⟩ : ∃ off, (if x.bag.bc = j then some (⟨x.bag.bb, x.bag.bo, none⟩ : Addr) else some ⟨x.bag.bb, x.bag.bo + j * 3, none⟩) = some ⟨x.bag.bb, off, none⟩ ∧ (0 < x.bag.bn - j → off = x.bag.bo + j * 3) := by
      by_cases hcj : x.bag.bc = j
      · exact ⟨_, by rw [if_pos hcj], fun h0 => by omega⟩
      · exact ⟨_, by rw [if_neg hcj], fun _ => rfl⟩
    simp only [e7, e9] at hK ⊢
    rw [if_pos (by rfl)]
    go_simp
    exact hK _ _ hG ⟨off, _, rfl, hoff⟩ (fun j _ _ h => h)
  · have h13 := not_yet (F := 14) (S := 13) hs hd (by kernel_rfl)
    have h5 := done_back (F := 14) hs ho hw (S := 5) (by kernel_rfl) (by decide)
    obtain ⟨g, cap, e5, hown⟩ := hp 5 (hw 5 (by decide)) hd
    obtain ⟨off, mc, e10, hoff⟩ := hp 10 (hw 10 (by decide))
    have hold := hG.old h13
    have hld : (x.eng.bag.drop j).length = x.bag.bn - j := by rw [List.length_drop, Hlen.out]
    have hlk : (x.eng.bag.take k).length = k := by rw [List.length_take, Hlen.out]; omega
    obtain ⟨g5, c5, W5, hrun, hown5, hb5⟩ := append_mails W wz g cap (x.eng.bag.take k) (x.eng.bag.drop j) hown (by rw [hlk, hld, Hj.out]; omega) (by rw [Hwz.out]; exact hold.size) ⟨x.bag.bb, off, none⟩ mc (fun h0 t u hu => by
      rw [Go.WideShapes.add_plain, hoff (by omega)]
      rw [← mailsL_drop, List.getElem?_drop] at hu
      have := BagM.news ((Hx.out.below (HB2.out.trans (hold.mono HB2.out.size)) (Nat.le_refl _)).bag) (j * 3 + t) u hu
      rw [show x.bag.bo + j * 3 + t = x.bag.bo + (j * 3 + t) by omega]; exact this) 29
    have her : x.eng.bag.take k ++ x.eng.bag.drop j = x.eng.bag.eraseIdx k := by rw [Hj.out]; exact take_drop_erase _ _
    rw [her] at hrun hown5
    rw [hld] at hrun
    simp only [e5] at hK ⊢
    simp only [e10] at hK ⊢
    rw [if_pos (by rfl)]
    refine wp_append_run (by rfl) _ _ 29 (by rfl) _ _ (by rfl) (by rfl) _ W5 hrun ?_
    refine hK _ W5 ⟨fun _ => hold.trans (by rw [← Hwz.out]; exact hb5), fun h0 => absurd (h13.symm.trans h0) (by decide)⟩ (fun _ => ⟨g5, c5, rfl, hown5⟩) (fun jj hj hdj h => ?_)
    have h' : woE [undef, .pointer (some ⟨w.heap.size, 1, none⟩), .slice (some ⟨x.bag.bb, x.bag.bo, none⟩) x.bag.bn x.bag.bc, .int .i64 (k : Int), .slice (some ⟨x.bag.bb, x.bag.bo, none⟩) k x.bag.bc, undef, .pointer (some ⟨w.heap.size, 1, none⟩), .slice (some ⟨x.bag.bb, x.bag.bo, none⟩) x.bag.bn x.bag.bc, .int .i64 (k : Int), .int .i64 (j : Int), undef, undef, .pointer (some ⟨P, 1, none⟩), undef] x k j wz true false false jj (t jj) W := by have h2 := h; rw [h5, hd, h13] at h2; exact h2
    show woE [undef, .pointer (some ⟨w.heap.size, 1, none⟩), .slice (some ⟨x.bag.bb, x.bag.bo, none⟩) x.bag.bn x.bag.bc, .int .i64 (k : Int), .slice (some ⟨x.bag.bb, x.bag.bo, none⟩) k x.bag.bc, undef, .pointer (some ⟨w.heap.size, 1, none⟩), .slice (some ⟨x.bag.bb, x.bag.bo, none⟩) x.bag.bn x.bag.bc, .int .i64 (k : Int), .int .i64 (j : Int), undef, undef, .pointer (some ⟨P, 1, none⟩), undef] x k j wz (updB d 11 5) (updB d 11 11) (updB d 11 13) jj (t jj) W5
    rw [show updB d 11 5 = true from h5, show updB d 11 11 = true by simp [updB], show updB d 11 13 = false from h13]
    exact woE_eleven W5 hj h'
  · rw [if_pos (by rfl)]
    go_simp
    exact hK _ _ hG (woE_put (by decide) (by decide) (by decide) (by decide) (by decide) rfl) (fun j _ _ h => h)
  · have h11 := done_back (F := 14) hs ho hw (S := 11) (by kernel_rfl) (by decide)
    have h5 := done_back (F := 14) hs ho hw (S := 5) (by kernel_rfl) (by decide)
    obtain ⟨g, cap, e11, hown⟩ := hp 11 (hw 11 (by decide)) hd
    have e12 := woE_get (hp 12 (hw 12 (by decide))) (by decide) (by decide) (by decide) (by decide) (by decide) rfl
    have hold := hG.old hd
    have hset := HL2.out.setBag hold (by rw [← Hwz.out]; exact hown)
    have hh := (HL2.out.live.head.below hold HL2.out.live.head.lt)
    have cq := hh.cell 1
    have fq := hh.frozen 1
    obtain ⟨ga, gc, hgf⟩ := own_form HL2.out.live.bag
    simp at cq
    rw [hgf] at cq
    have hlo := HL2.out.live.lp
    have hN : WoG w W2 x N k P y true (W.setCell ⟨P, 1, none⟩ (.slice (some ⟨g, 0, none⟩) (x.eng.bag.eraseIdx k).length cap)) := ⟨fun h0 => (by cases h0), fun _ => ⟨(HB2.out.trans (hold.mono HB2.out.size)).setCell (p := ⟨P, 1, none⟩) (by show w.heap.size ≤ P; omega) _, (Hr2.out.below hold Hr2.out.lt).other (by omega) _ _, _, hset⟩⟩
    have HN := hide hN
    have HKp : Hid (∀ jj, woE [undef, .pointer (some ⟨w.heap.size, 1, none⟩), .slice (some ⟨x.bag.bb, x.bag.bo, none⟩) x.bag.bn x.bag.bc, .int .i64 (k : Int), .slice (some ⟨x.bag.bb, x.bag.bo, none⟩) k x.bag.bc, undef, .pointer (some ⟨w.heap.size, 1, none⟩), .slice (some ⟨x.bag.bb, x.bag.bo, none⟩) x.bag.bn x.bag.bc, .int .i64 (k : Int), .int .i64 (j : Int), undef, undef, .pointer (some ⟨P, 1, none⟩), undef] x k j wz (d 5) (d 11) (d 13) jj (t jj) W → woE [undef, .pointer (some ⟨w.heap.size, 1, none⟩), .slice (some ⟨x.bag.bb, x.bag.bo, none⟩) x.bag.bn x.bag.bc, .int .i64 (k : Int), .slice (some ⟨x.bag.bb, x.bag.bo, none⟩) k x.bag.bc, undef, .pointer (some ⟨w.heap.size, 1, none⟩), .slice (some ⟨x.bag.bb, x.bag.bo, none⟩) x.bag.bn x.bag.bc, .int .i64 (k : Int), .int .i64 (j : Int), undef, undef, .pointer (some ⟨P, 1, none⟩), undef] x k j wz true true true jj (t jj) (W.setCell ⟨P, 1, none⟩ (.slice (some ⟨g, 0, none⟩) (x.eng.bag.eraseIdx k).length cap))) := hide (fun jj h => woE_end _ (by rw [h5, h11, hd] at h; exact h))
    have u5 : updB d 13 5 = true := h5
    have u11 : updB d 13 11 = true := h11
    have u13 : updB d 13 13 = true := by simp [updB]
    generalize (x.eng.bag.eraseIdx k).length = el at *
    clear hN hset hh hown
    simp only [e11] at hK ⊢
    simp only [e12] at hK ⊢
    rw [if_pos (by rfl)]
    go_simp
    exact hK undef _ (by show WoG w W2 x N k P y (updB d 13 13) _; rw [u13]; exact HN.out) trivial (fun jj _ hj h => by show woE _ x k j wz (updB d 13 5) (updB d 13 11) (updB d 13 13) jj (t jj) _; rw [u5, u11, u13]; exact HKp.out jj h)

end Go.Proofs.YtjhkadffaephmabGreat
