/-
  Our own texts, bundled: a claim holds few files.
-/
import Derived.Test.YtjhkadffaephmabGreatCutEnginePlaysCA
import Derived.Test.YtjhkadffaephmabGreatCutEnginePlaysBG
import Derived.Test.YtjhkadffaephmabGreatCutEnginePlaysCB
import Derived.Test.YtjhkadffaephmabGreatCutEnginePlaysBC
import Derived.Test.YtjhkadffaephmabGreatCutEnginePlaysAI
/-
 signpostref.without.
-/
namespace Go.Proofs.YtjhkadffaephmabGreat
set_option maxRecDepth 100000
open Go.RowKit

theorem append_none (w : World) (ty : TypeId) (g n cap : Nat) (ad : Option Addr) (q : Nat) (h : n ≤ cap) :
  (Builtin.append_ #[29, 29] ty #[.slice (some ⟨g, 0, none⟩) n cap, .slice ad 0 q]).run Tryz.prog w = .ok (.slice (some ⟨g, 0, none⟩) n cap) w := by
 obtain ⟨i0, hi0, hq⟩ : ∃ i, Tryz.prog.info? 69 = some i ∧ (i.zero.map (fun z => z.cells.size), i.size, i.bytes) = (some 3, 3, 32) := Option.map_eq_some_iff.1 Tryz.infoMail
 cases ad <;> simp [Builtin.append_, run_underlying Tryz.underlying29, sizeOf, typeInfo, hi0, Builtin.lenOf, Builtin.firstCells, storeCells, loadCells, loadCellsFrom, h]
/-- Mail behind mail of one's own. -/
theorem append_mails (W : World) (base g cap : Nat) (l l2 : List Mail) (ho : W.ownsRow base 69 3 (.slice (some ⟨g, 0, none⟩) l.length cap) l.length (mailsL l)) (hl : l.length + l2.length ≤ 200) (hC : base ≤ W.heap.size) (ad : Addr) (c : Nat) (hs : 0 < l2.length → ∀ t u, (mailsL l2)[t]? = some u → W.cell? (ad.add t) = some u) (ty : TypeId) :
  ∃ g' cap' W', (Builtin.append_ #[29, 29] ty #[.slice (some ⟨g, 0, none⟩) l.length cap, .slice (some ad) l2.length c]).run Tryz.prog W = .ok (.slice (some ⟨g', 0, none⟩) (l ++ l2).length cap') W' ∧ W'.ownsRow base 69 3 (.slice (some ⟨g', 0, none⟩) (l ++ l2).length cap') (l ++ l2).length (mailsL (l ++ l2)) ∧ Below base W W' := by
 by_cases hp : 0 < l2.length
 ·obtain ⟨i0, hi0, hq⟩ : ∃ i, Tryz.prog.info? 69 = some i ∧ (i.zero.map (fun z => z.cells.size), i.size, i.bytes) = (some 3, 3, 32) := Option.map_eq_some_iff.1 Tryz.infoMail
  obtain ⟨z, hz, hzs⟩ : ∃ z, i0.zero = some z ∧ z.cells.size = 3 := by
   have := congrArg Prod.fst hq
   simpa [Option.map_eq_some_iff] using this
  have hsz : i0.size = 3 := congrArg (fun x => x.2.1) hq
  have hby : i0.bytes = 32 := congrArg (fun x => x.2.2) hq
  obtain ⟨g', cap', w', hr, h2, h3, _, _⟩ := run_append_lies (P := Tryz.prog) W 29 ty base 69 i0 z 3 32 Tryz.underlying29 hi0 hz hsz hby hzs (by decide) _ l.length _ ho ad l2.length c (mailsL l2) (mailsL_len _) (hs hp) (mailsL_one' _) hp (by unfold maxLen; omega) (by omega) hC _ rfl
  rw [List.length_append, mailsL_append]
  exact ⟨g', cap', w', hr, h2, grown_below h3 (fun k hk => (ho.lt k hk).1) hC⟩
 ·have h0 : l2 = [] := List.length_eq_zero_iff.1 (by omega)
  subst h0
  rw [List.append_nil]
  exact ⟨g, cap, W, append_none W ty g l.length cap (some ad) c (own_cap ho rfl), ho, Below.refl _ _⟩

/-- While mail is taken out. -/
structure WoG (w W2 : World) (x : EngM) (N k P : Nat) (y : Lay) (b13 : Bool) (W : World) : Prop where
 old : b13 = false → Below W2.heap.size W2 W
 new : b13 = true → Below w.heap.size w W ∧ Blk W (w.heap.size + 1) #[.slice none 0 0, .slice none 0 0] 31 ∧ ∃ Bv, LiveR (w.heap.size + 2) P N (x.eng.without k) Bv y W

def woE (vs : List Value) (x : EngM) (k j wz : Nat) (b5 b11 b13 : Bool) (q : Nat) (v : Value) (W : World) : Prop :=
 match q with
 | 0 => b5 = false → ∃ g, v = .slice (some ⟨g, 0, none⟩) 0 0 ∧ W.ownsRow wz 69 3 (.slice (some ⟨g, 0, none⟩) 0 0) 0 []
 | 5 => b11 = false → ∃ g cap, v = .slice (some ⟨g, 0, none⟩) (x.eng.bag.take k).length cap ∧ W.ownsRow wz 69 3 (.slice (some ⟨g, 0, none⟩) (x.eng.bag.take k).length cap) (x.eng.bag.take k).length (mailsL (x.eng.bag.take k))
 | 10 => ∃ off mc, v = .slice (some ⟨x.bag.bb, off, none⟩) (x.bag.bn - j) mc ∧ (0 < x.bag.bn - j → off = x.bag.bo + j * 3)
 | 11 => b13 = false → ∃ g cap, v = .slice (some ⟨g, 0, none⟩) (x.eng.bag.eraseIdx k).length cap ∧ W.ownsRow wz 69 3 (.slice (some ⟨g, 0, none⟩) (x.eng.bag.eraseIdx k).length cap) (x.eng.bag.eraseIdx k).length (mailsL (x.eng.bag.eraseIdx k))
 | 13 => True
 | q => vs[q]? = some v
theorem woE_keep {vs : List Value} {x : EngM} {k j wz : Nat} {b5 b11 b13 : Bool} {q : Nat} {v : Value} {W W' : World} (hb : Below W.heap.size W W') (h : woE vs x k j wz b5 b11 b13 q v W) : woE vs x k j wz b5 b11 b13 q v W' := by
 unfold woE at h ⊢
 split at h
 ·intro h0; obtain ⟨g, h1, h2⟩ := h h0; exact ⟨g, h1, owns_below h2 hb⟩
 ·intro h0; obtain ⟨g, cap, h1, h2⟩ := h h0; exact ⟨g, cap, h1, owns_below h2 hb⟩
 ·exact h
 ·intro h0; obtain ⟨g, cap, h1, h2⟩ := h h0; exact ⟨g, cap, h1, owns_below h2 hb⟩
 ·trivial
 ·exact h
theorem woE_put {vs : List Value} {x : EngM} {k j wz : Nat} {b5 b11 b13 : Bool} {q : Nat} {v : Value} {W : World} (h0 : q ≠ 0) (h5 : q ≠ 5) (h10 : q ≠ 10) (h11 : q ≠ 11) (h13 : q ≠ 13) (h : vs[q]? = some v) : woE vs x k j wz b5 b11 b13 q v W := by
 unfold woE
 split <;> first | contradiction | exact h
theorem woE_get {vs : List Value} {x : EngM} {k j wz : Nat} {b5 b11 b13 : Bool} {q : Nat} {v u : Value} {W : World} (h : woE vs x k j wz b5 b11 b13 q v W) (h0 : q ≠ 0) (h5 : q ≠ 5) (h10 : q ≠ 10) (h11 : q ≠ 11) (h13 : q ≠ 13) (hu : vs[q]? = some u) : v = u := by
 unfold woE at h
 split at h <;> first | contradiction | (rw [hu] at h; exact (Option.some.inj h).symm)
theorem woE_five {vs : List Value} {x : EngM} {k j wz : Nat} {q : Nat} {v : Value} {W : World} (W' : World) (hq : q ≠ 5) (hq1 : q ≠ 11) (h : woE vs x k j wz false false false q v W) : woE vs x k j wz true false false q v W' := by
 unfold woE at h ⊢
 split at h
 ·intro h0; cases h0
 ·contradiction
 ·exact h
 ·contradiction
 ·trivial
 ·exact h
theorem woE_eleven {vs : List Value} {x : EngM} {k j wz : Nat} {q : Nat} {v : Value} {W : World} (W' : World) (hq : q ≠ 11) (h : woE vs x k j wz true false false q v W) : woE vs x k j wz true true false q v W' := by
 unfold woE at h ⊢
 split at h
 ·intro h0; cases h0
 ·intro h0; cases h0
 ·exact h
 ·contradiction
 ·trivial
 ·exact h
theorem woE_end {vs : List Value} {x : EngM} {k j wz : Nat} {q : Nat} {v : Value} {W : World} (W' : World) (h : woE vs x k j wz true true false q v W) : woE vs x k j wz true true true q v W' := by
 unfold woE at h ⊢
 split at h
 ·intro h0; cases h0
 ·intro h0; cases h0
 ·exact h
 ·intro h0; cases h0
 ·trivial
 ·exact h
theorem take_drop_erase {α : Type} (l : List α) (k : Nat) : l.take k ++ l.drop (k + 1) = l.eraseIdx k := (List.eraseIdx_eq_take_drop_succ l k).symm

set_option maxHeartbeats 8000000 in
theorem refWithout_any (x : EngM) (N k : Nat) (w : World) (h : x.In w.heap.size w) (hgn : x.rs.gn = N) (hN0 : 0 < N) (hN6 : N ≤ 6) (hbn : x.bag.bn ≤ 120) (hrl : ∀ i, i < N → (x.rs.r i).rl = N) (htl : ∀ i, i < N → (x.rs.r i).T.t.len = N) (hll : ∀ i, i < N → ∀ q, q < N → (x.rs.r i).T.t.L q = if x.eng.told i q = true then N else 0) (hk : k < x.bag.bn) (hcap : x.bag.bn ≤ x.bag.bc) :
  Calls Tryz.prog 33 #[x.val, .int .i64 k] w fun r w' => (∃ P Bv y, LiveR w.heap.size P N (x.eng.without k) Bv y w' ∧ r = .returned (.agg #[.slice (some ⟨y.G, 0, none⟩) N y.gc, Bv])) ∧ Below w.heap.size w w' := by
 obtain ⟨W0, hW0⟩ : ∃ W0, W0 = (w.alloc (.cells x.cells 31)).alloc (.cells #[.slice none 0 0, .slice none 0 0] 31) := ⟨_, rfl⟩
 have hB0 : Below w.heap.size w W0 := by rw [hW0]; exact ((Below.refl _ w).alloc (Nat.le_refl _) _).alloc (by simp) _
 have hsz0 : W0.heap.size = w.heap.size + 2 := by rw [hW0]; simp
 have b4 : Blk W0 w.heap.size x.cells 31 := by rw [hW0]; exact (Blk.new w _ _).alloc _
 have b6 : Blk W0 (w.heap.size + 1) #[.slice none 0 0, .slice none 0 0] 31 := by rw [hW0]; exact Blk.new' (by simp)
 have HCp := hide (refCopied_any x N W0 (h.grown hB0) hgn hN0 hN6 hbn hrl htl hll)
 have hba := h.bag.ba (by omega)
 have hlen : x.eng.bag.length = x.bag.bn := by show ((List.range x.bag.bn).map x.bag.M).length = _; simp
 obtain ⟨j, hj⟩ : ∃ j, j = k + 1 := ⟨_, rfl⟩
 have Hx := hide h
 have HB0 := hide hB0
 have Hb4 := hide b4
 have Hb6 := hide b6
 have Hsz0 := hide hsz0
 have Hba := hide hba
 have Hlen := hide hlen
 have hxc : x.cells = #[.slice x.rs.ga x.rs.gn x.rs.gc, .slice (some ⟨x.bag.bb, x.bag.bo, none⟩) x.bag.bn x.bag.bc] := by rw [← hba]; rfl
 have Hxc := hide hxc
 have z0 := b4.cell 0
 have z1 := b4.cell 1
 rw [hxc] at z0 z1
 simp at z0 z1
 rw [hxc] at hW0
 simp only [EngM.val, hxc] at HCp ⊢
 have HW0 := hide hW0
 have hki : (k : Int) < (x.bag.bn : Int) := by omega
 clear h hB0 b4 b6 hxc hsz0 hW0 hba hlen hrl htl hll hgn
 rw [HW0.out] at HCp z0 z1
 go_enter Tryz.func33, Tryz.ntmps33
 go_wp2_with fail
 go_at_call 35
 refine HCp.out.mono ?_
 rw [← HW0.out]
 rintro r W1 ⟨⟨P0, Bv, y, hL1, rfl⟩, hb1⟩
 obtain ⟨ba, bc, hBv⟩ := own_form hL1.live.bag
 obtain ⟨P, hP⟩ : ∃ P, P = W1.heap.size := ⟨_, rfl⟩
 obtain ⟨W2, hW2⟩ : ∃ W2, W2 = W1.alloc (.cells #[.slice (some ⟨y.G, 0, none⟩) N y.gc, Bv] 31) := ⟨_, rfl⟩
 have hb2 : Below W1.heap.size W1 W2 := by rw [hW2]; exact (Below.refl _ W1).alloc (Nat.le_refl _) _
 have hb12 := hb1.trans (hb2.mono hb1.size)
 have hL2 := hL1.rebox
 rw [← hW2, ← hP, Hsz0.out] at hL2
 have HL2 := hide hL2
 have HB2 := hide (HB0.out.trans (hb12.mono HB0.out.size))
 have He2 := hide (Hb4.out.below hb12 Hb4.out.lt)
 have Hr2 := hide (Hb6.out.below hb12 Hb6.out.lt)
 obtain ⟨wz, hwz⟩ : ∃ wz, wz = W2.heap.size := ⟨_, rfl⟩
 have Hwz := hide hwz
 rw [hBv] at hW2
 rw [hBv]
 have HW2 := hide hW2
 have HP := hide hP
 have Hj := hide hj
 have HGst : Hid (WoG w W2 x N k P y false W2) := hide ⟨fun _ => Below.refl _ _, fun h0 => by cases h0⟩
 have Hjn : Hid (j ≤ x.bag.bn) := hide (by omega)
 clear hL1 hb1 hb2 hb12 hL2 hW2 hP hBv HCp z0 z1 Hb4 Hb6 HB0 hwz hj
 go_wp2_with fail
 rw [← HW2.out, ← HP.out]
 refine wp_region_done (fun d W => WoG w W2 x N k P y (d 13) W) (fun d => woE [undef, .pointer (some ⟨w.heap.size, 1, none⟩), .slice (some ⟨x.bag.bb, x.bag.bo, none⟩) x.bag.bn x.bag.bc, .int .i64 (k : Int), .slice (some ⟨x.bag.bb, x.bag.bo, none⟩) k x.bag.bc, undef, .pointer (some ⟨w.heap.size, 1, none⟩), .slice (some ⟨x.bag.bb, x.bag.bo, none⟩) x.bag.bn x.bag.bc, .int .i64 (k : Int), .int .i64 (j : Int), undef, undef, .pointer (some ⟨P, 1, none⟩), undef] x k j wz (d 5) (d 11) (d 13)) (by kernel_rfl) (by kernel_rfl) (by kernel_rfl) ⟨fun _ => ⟨rfl, rfl, rfl, Nat.le_refl _, fun _ _ => rfl⟩, fun h0 => (by cases h0)⟩ ⟨?_, ?_, ?_, ?_, ?_, ?_, ?_, ?_, ?_, ?_, ?_, ?_, ?_, ?_, trivial⟩ ?_
 rotate_right
 ·intro d t W hall hG _
  obtain ⟨hBw, hrs, Bw, hLw⟩ := hG.new (hall 13 (by decide))
  obtain ⟨ca, cc, hBw'⟩ := own_form hLw.live.bag
  have p0 := hLw.live.head.cell 0
  have p1 := hLw.live.head.cell 1
  have s0 := hrs.cell 0
  have s1 := hrs.cell 1
  have f0 := hrs.frozen 0
  have f1 := hrs.frozen 1
  have c7 := (hrs.set 0 (.slice (some ⟨y.G, 0, none⟩) N y.gc)).set 1 Bw
  have e0 := c7.cell 0
  have e1 := c7.cell 1
  simp at p0 p1 s0 s1 e0 e1
  have hl9 := (hLw.setRes hN0 (by omega) hrs (.slice (some ⟨y.G, 0, none⟩) N y.gc) Bw).mono (lo := w.heap.size) (by omega)
  have HF : Hid ((∃ P Bv z, LiveR w.heap.size P N (x.eng.without k) Bv z ((W.setCell ⟨w.heap.size + 1, 0, none⟩ (.slice (some ⟨y.G, 0, none⟩) N y.gc)).setCell ⟨w.heap.size + 1, 1, none⟩ Bw) ∧ Ending.returned (.agg #[.slice (some ⟨y.G, 0, none⟩) N y.gc, Bw]) = .returned (.agg #[.slice (some ⟨z.G, 0, none⟩) N z.gc, Bv])) ∧ Below w.heap.size w ((W.setCell ⟨w.heap.size + 1, 0, none⟩ (.slice (some ⟨y.G, 0, none⟩) N y.gc)).setCell ⟨w.heap.size + 1, 1, none⟩ Bw)) := hide ⟨⟨_, _, _, hl9, rfl⟩, (hBw.setCell (p := ⟨w.heap.size + 1, 0, none⟩) (by show w.heap.size ≤ w.heap.size + 1; omega) _).setCell (p := ⟨w.heap.size + 1, 1, none⟩) (by show w.heap.size ≤ w.heap.size + 1; omega) _⟩
  rw [hBw'] at p1 e0 e1 HF
  generalize (x.eng.without k).bag.length = bl at *
  clear hG hall hrs hLw hBw hl9 c7 hBw' HGst HL2 HB2 He2 Hr2
  simp only [fill, Act.put, List.setIfInBounds_toArray, List.set_cons_zero, List.set_cons_succ]
  go_wp2
  exact bodyPost_ret (v := .agg #[.slice (some ⟨y.G, 0, none⟩) N y.gc, .slice ca bl cc]) (by simp [results, Tryz.results33, go_sem, e0, e1]) rfl HF.out
 all_goals intro d t W hs ho hd hw hG hp K hK
 all_goals simp only [fill, Act.put, List.setIfInBounds_toArray, List.set_cons_zero, List.set_cons_succ] at hK ⊢
 ·have h13 := not_yet (F := 14) (S := 13) hs hd (by kernel_rfl)
  have h5 := not_yet (F := 14) (S := 5) hs hd (by kernel_rfl)
  rw [if_pos (by rfl)]
  go_simp
  have hBn : Below W.heap.size W (W.alloc (.cells #[] 69)) := (Below.refl _ W).alloc (Nat.le_refl _) _
  have hown : World.ownsRow (W.alloc (.cells #[] 69)) wz 69 3 (.slice (some ⟨W.heap.size, 0, none⟩) 0 0) 0 [] := World.ownsRow_made W #[] 0 (base := wz) (e := 69) (size := 3) (by rw [Hwz.out]; exact (hG.old h13).size) (Nat.zero_le _) (by simp)
  exact hK _ _ ⟨fun _ => (hG.old h13).alloc (hG.old h13).size _, fun h0 => absurd (h13.symm.trans h0) (by decide)⟩ (fun _ => ⟨_, rfl, hown⟩) (fun j _ _ h => woE_keep hBn h)
 ·rw [if_pos (by rfl)]
  go_simp
  exact hK _ _ hG (woE_put (by decide) (by decide) (by decide) (by decide) (by decide) rfl) (fun j _ _ h => h)
 ·have e1 := woE_get (hp 1 (hw 1 (by decide))) (by decide) (by decide) (by decide) (by decide) (by decide) rfl
  have h13 := not_yet (F := 14) (S := 13) hs hd (by kernel_rfl)
  have cx := (He2.out.below (hG.old h13) He2.out.lt).cell 1
  rw [Hxc.out] at cx
  simp at cx
  simp only [e1] at hK ⊢
  rw [if_pos (by rfl)]
  go_simp
  exact hK _ _ hG (woE_put (by decide) (by decide) (by decide) (by decide) (by decide) rfl) (fun j _ _ h => h)
 ·rw [if_pos (by rfl)]
  go_simp
  exact hK _ _ hG (woE_put (by decide) (by decide) (by decide) (by decide) (by decide) rfl) (fun j _ _ h => h)
 ·have e2 := woE_get (hp 2 (hw 2 (by decide))) (by decide) (by decide) (by decide) (by decide) (by decide) rfl
  have e3 := woE_get (hp 3 (hw 3 (by decide))) (by decide) (by decide) (by decide) (by decide) (by decide) rfl
  have hkc : k ≤ x.bag.bc := by omega
  simp only [e2, e3] at hK ⊢
  rw [if_pos (by rfl)]
  go_simp
  exact hK _ _ hG (woE_put (by decide) (by decide) (by decide) (by decide) (by decide) rfl) (fun j _ _ h => h)
 ·have h13 := not_yet (F := 14) (S := 13) hs hd (by kernel_rfl)
  have h11 := not_yet (F := 14) (S := 11) hs hd (by kernel_rfl)
  obtain ⟨g, e0, hown⟩ := hp 0 (hw 0 (by decide)) hd
  have e4 := woE_get (hp 4 (hw 4 (by decide))) (by decide) (by decide) (by decide) (by decide) (by decide) rfl
  have hold := hG.old h13
  have hlk : (x.eng.bag.take k).length = k := by rw [List.length_take, Hlen.out]; omega
  obtain ⟨g5, c5, W5, hrun, hown5, hb5⟩ := append_mails W wz g 0 [] (x.eng.bag.take k) hown (by rw [hlk]; simp; omega) (by rw [Hwz.out]; exact hold.size) ⟨x.bag.bb, x.bag.bo, none⟩ x.bag.bc (fun _ t u hu => by
   rw [Go.WideShapes.add_plain]
   refine BagM.news ((Hx.out.below (HB2.out.trans (hold.mono HB2.out.size)) (Nat.le_refl _)).bag) t u ?_
   have ht : t < k * 3 := by have := (List.getElem?_eq_some_iff.1 hu).1; rw [mailsL_len, hlk] at this; exact this
   rw [← mailsL_take, List.getElem?_take, if_pos ht] at hu
   exact hu) 29
  rw [List.nil_append] at hrun hown5
  rw [hlk] at hrun
  simp only [e0] at hK ⊢
  simp only [e4] at hK ⊢
  rw [if_pos (by rfl)]
  refine wp_append_run (by rfl) _ _ 29 (by rfl) _ _ (by rfl) (by rfl) _ W5 hrun ?_
  refine hK _ W5 ⟨fun _ => hold.trans (by rw [← Hwz.out]; exact hb5), fun h0 => absurd (h13.symm.trans h0) (by decide)⟩ (fun _ => ⟨g5, c5, by rw [hlk], hown5⟩) (fun jj hj hdj h => ?_)
  have h' : woE [undef, .pointer (some ⟨w.heap.size, 1, none⟩), .slice (some ⟨x.bag.bb, x.bag.bo, none⟩) x.bag.bn x.bag.bc, .int .i64 (k : Int), .slice (some ⟨x.bag.bb, x.bag.bo, none⟩) k x.bag.bc, undef, .pointer (some ⟨w.heap.size, 1, none⟩), .slice (some ⟨x.bag.bb, x.bag.bo, none⟩) x.bag.bn x.bag.bc, .int .i64 (k : Int), .int .i64 (j : Int), undef, undef, .pointer (some ⟨P, 1, none⟩), undef] x k j wz false false false jj (t jj) W := by have h2 := h; rw [hd, h11, h13] at h2; exact h2
  show woE [undef, .pointer (some ⟨w.heap.size, 1, none⟩), .slice (some ⟨x.bag.bb, x.bag.bo, none⟩) x.bag.bn x.bag.bc, .int .i64 (k : Int), .slice (some ⟨x.bag.bb, x.bag.bo, none⟩) k x.bag.bc, undef, .pointer (some ⟨w.heap.size, 1, none⟩), .slice (some ⟨x.bag.bb, x.bag.bo, none⟩) x.bag.bn x.bag.bc, .int .i64 (k : Int), .int .i64 (j : Int), undef, undef, .pointer (some ⟨P, 1, none⟩), undef] x k j wz (updB d 5 5) (updB d 5 11) (updB d 5 13) jj (t jj) W5
  rw [show updB d 5 5 = true by simp [updB], show updB d 5 11 = false from h11, show updB d 5 13 = false from h13]
  exact woE_five W5 hj (fun hh => by rw [hh, h11] at hdj; cases hdj) h'
 ·rw [if_pos (by rfl)]
  go_simp
  exact hK _ _ hG (woE_put (by decide) (by decide) (by decide) (by decide) (by decide) rfl) (fun j _ _ h => h)
 ·have e6 := woE_get (hp 6 (hw 6 (by decide))) (by decide) (by decide) (by decide) (by decide) (by decide) rfl
  have h13 := not_yet (F := 14) (S := 13) hs hd (by kernel_rfl)
  have cx := (He2.out.below (hG.old h13) He2.out.lt).cell 1
  rw [Hxc.out] at cx
  simp at cx
  simp only [e6] at hK ⊢
  rw [if_pos (by rfl)]
  go_simp
  exact hK _ _ hG (woE_put (by decide) (by decide) (by decide) (by decide) (by decide) rfl) (fun j _ _ h => h)
 ·rw [if_pos (by rfl)]
  go_simp
  exact hK _ _ hG (woE_put (by decide) (by decide) (by decide) (by decide) (by decide) rfl) (fun j _ _ h => h)
 ·have e8 := woE_get (hp 8 (hw 8 (by decide))) (by decide) (by decide) (by decide) (by decide) (by decide) rfl
  simp only [e8] at hK ⊢
  rw [if_pos (by rfl)]
  go_simp
  exact hK _ _ hG (woE_put (by decide) (by decide) (by decide) (by decide) (by decide) (by rw [Hj.out, wrap_sm (by omega) (by omega)]; rfl)) (fun j _ _ h => h)
 ·have e7 := woE_get (hp 7 (hw 7 (by decide))) (by decide) (by decide) (by decide) (by decide) (by decide) rfl
  have e9 := woE_get (hp 9 (hw 9 (by decide))) (by decide) (by decide) (by decide) (by decide) (by decide) rfl
  have hjn := Hjn.out
  have hji : (j : Int) ≤ (x.bag.bn : Int) := by omega
  have hjc : j ≤ x.bag.bc := by omega
  obtain ⟨off, hA, hoff⟩ : ∃ off, (if x.bag.bc = j then some (⟨x.bag.bb, x.bag.bo, none⟩ : Addr) else some ⟨x.bag.bb, x.bag.bo + j * 3, none⟩) = some ⟨x.bag.bb, off, none⟩ ∧ (0 < x.bag.bn - j → off = x.bag.bo + j * 3) := by
   by_cases hcj : x.bag.bc = j
   ·exact ⟨_, by rw [if_pos hcj], fun h0 => by omega⟩
   ·exact ⟨_, by rw [if_neg hcj], fun _ => rfl⟩
  simp only [e7, e9] at hK ⊢
  rw [if_pos (by rfl)]
  go_simp
  exact hK _ _ hG ⟨off, _, rfl, hoff⟩ (fun j _ _ h => h)
 ·have h13 := not_yet (F := 14) (S := 13) hs hd (by kernel_rfl)
  have h5 := done_back (F := 14) hs ho hw (S := 5) (by kernel_rfl) (by decide)
  obtain ⟨g, cap, e5, hown⟩ := hp 5 (hw 5 (by decide)) hd
  obtain ⟨off, mc, e10, hoff⟩ := hp 10 (hw 10 (by decide))
  have hold := hG.old h13
  have hld : (x.eng.bag.drop j).length = x.bag.bn - j := by rw [List.length_drop, Hlen.out]
  have hlk : (x.eng.bag.take k).length = k := by rw [List.length_take, Hlen.out]; omega
  obtain ⟨g5, c5, W5, hrun, hown5, hb5⟩ := append_mails W wz g cap (x.eng.bag.take k) (x.eng.bag.drop j) hown (by rw [hlk, hld, Hj.out]; omega) (by rw [Hwz.out]; exact hold.size) ⟨x.bag.bb, off, none⟩ mc (fun h0 t u hu => by
   rw [Go.WideShapes.add_plain, hoff (by omega)]
   rw [← mailsL_drop, List.getElem?_drop] at hu
   have := BagM.news ((Hx.out.below (HB2.out.trans (hold.mono HB2.out.size)) (Nat.le_refl _)).bag) (j * 3 + t) u hu
   rw [show x.bag.bo + j * 3 + t = x.bag.bo + (j * 3 + t) by omega]; exact this) 29
  have her : x.eng.bag.take k ++ x.eng.bag.drop j = x.eng.bag.eraseIdx k := by rw [Hj.out]; exact take_drop_erase _ _
  rw [her] at hrun hown5
  rw [hld] at hrun
  simp only [e5] at hK ⊢
  simp only [e10] at hK ⊢
  rw [if_pos (by rfl)]
  refine wp_append_run (by rfl) _ _ 29 (by rfl) _ _ (by rfl) (by rfl) _ W5 hrun ?_
  refine hK _ W5 ⟨fun _ => hold.trans (by rw [← Hwz.out]; exact hb5), fun h0 => absurd (h13.symm.trans h0) (by decide)⟩ (fun _ => ⟨g5, c5, rfl, hown5⟩) (fun jj hj hdj h => ?_)
  have h' : woE [undef, .pointer (some ⟨w.heap.size, 1, none⟩), .slice (some ⟨x.bag.bb, x.bag.bo, none⟩) x.bag.bn x.bag.bc, .int .i64 (k : Int), .slice (some ⟨x.bag.bb, x.bag.bo, none⟩) k x.bag.bc, undef, .pointer (some ⟨w.heap.size, 1, none⟩), .slice (some ⟨x.bag.bb, x.bag.bo, none⟩) x.bag.bn x.bag.bc, .int .i64 (k : Int), .int .i64 (j : Int), undef, undef, .pointer (some ⟨P, 1, none⟩), undef] x k j wz true false false jj (t jj) W := by have h2 := h; rw [h5, hd, h13] at h2; exact h2
  show woE [undef, .pointer (some ⟨w.heap.size, 1, none⟩), .slice (some ⟨x.bag.bb, x.bag.bo, none⟩) x.bag.bn x.bag.bc, .int .i64 (k : Int), .slice (some ⟨x.bag.bb, x.bag.bo, none⟩) k x.bag.bc, undef, .pointer (some ⟨w.heap.size, 1, none⟩), .slice (some ⟨x.bag.bb, x.bag.bo, none⟩) x.bag.bn x.bag.bc, .int .i64 (k : Int), .int .i64 (j : Int), undef, undef, .pointer (some ⟨P, 1, none⟩), undef] x k j wz (updB d 11 5) (updB d 11 11) (updB d 11 13) jj (t jj) W5
  rw [show updB d 11 5 = true from h5, show updB d 11 11 = true by simp [updB], show updB d 11 13 = false from h13]
  exact woE_eleven W5 hj h'
 ·rw [if_pos (by rfl)]
  go_simp
  exact hK _ _ hG (woE_put (by decide) (by decide) (by decide) (by decide) (by decide) rfl) (fun j _ _ h => h)
 ·have h11 := done_back (F := 14) hs ho hw (S := 11) (by kernel_rfl) (by decide)
  have h5 := done_back (F := 14) hs ho hw (S := 5) (by kernel_rfl) (by decide)
  obtain ⟨g, cap, e11, hown⟩ := hp 11 (hw 11 (by decide)) hd
  have e12 := woE_get (hp 12 (hw 12 (by decide))) (by decide) (by decide) (by decide) (by decide) (by decide) rfl
  have hold := hG.old hd
  have hset := HL2.out.setBag hold (by rw [← Hwz.out]; exact hown)
  have hh := (HL2.out.live.head.below hold HL2.out.live.head.lt)
  have cq := hh.cell 1
  have fq := hh.frozen 1
  obtain ⟨ga, gc, hgf⟩ := own_form HL2.out.live.bag
  simp at cq
  rw [hgf] at cq
  have hlo := HL2.out.live.lp
  have hN : WoG w W2 x N k P y true (W.setCell ⟨P, 1, none⟩ (.slice (some ⟨g, 0, none⟩) (x.eng.bag.eraseIdx k).length cap)) := ⟨fun h0 => (by cases h0), fun _ => ⟨(HB2.out.trans (hold.mono HB2.out.size)).setCell (p := ⟨P, 1, none⟩) (by show w.heap.size ≤ P; omega) _, (Hr2.out.below hold Hr2.out.lt).other (by omega) _ _, _, hset⟩⟩
  have HN := hide hN
  have HKp : Hid (∀ jj, woE [undef, .pointer (some ⟨w.heap.size, 1, none⟩), .slice (some ⟨x.bag.bb, x.bag.bo, none⟩) x.bag.bn x.bag.bc, .int .i64 (k : Int), .slice (some ⟨x.bag.bb, x.bag.bo, none⟩) k x.bag.bc, undef, .pointer (some ⟨w.heap.size, 1, none⟩), .slice (some ⟨x.bag.bb, x.bag.bo, none⟩) x.bag.bn x.bag.bc, .int .i64 (k : Int), .int .i64 (j : Int), undef, undef, .pointer (some ⟨P, 1, none⟩), undef] x k j wz (d 5) (d 11) (d 13) jj (t jj) W → woE [undef, .pointer (some ⟨w.heap.size, 1, none⟩), .slice (some ⟨x.bag.bb, x.bag.bo, none⟩) x.bag.bn x.bag.bc, .int .i64 (k : Int), .slice (some ⟨x.bag.bb, x.bag.bo, none⟩) k x.bag.bc, undef, .pointer (some ⟨w.heap.size, 1, none⟩), .slice (some ⟨x.bag.bb, x.bag.bo, none⟩) x.bag.bn x.bag.bc, .int .i64 (k : Int), .int .i64 (j : Int), undef, undef, .pointer (some ⟨P, 1, none⟩), undef] x k j wz true true true jj (t jj) (W.setCell ⟨P, 1, none⟩ (.slice (some ⟨g, 0, none⟩) (x.eng.bag.eraseIdx k).length cap))) := hide (fun jj h => woE_end _ (by rw [h5, h11, hd] at h; exact h))
  have u5 : updB d 13 5 = true := h5
  have u11 : updB d 13 11 = true := h11
  have u13 : updB d 13 13 = true := by simp [updB]
  generalize (x.eng.bag.eraseIdx k).length = el at *
  clear hN hset hh hown
  simp only [e11] at hK ⊢
  simp only [e12] at hK ⊢
  rw [if_pos (by rfl)]
  go_simp
  exact hK undef _ (by show WoG w W2 x N k P y (updB d 13 13) _; rw [u13]; exact HN.out) trivial (fun jj _ hj h => by show woE _ x k j wz (updB d 13 5) (updB d 13 11) (updB d 13 13) jj (t jj) _; rw [u5, u11, u13]; exact HKp.out jj h)

end Go.Proofs.YtjhkadffaephmabGreat

/-
 signpostref.looked.
-/
namespace Go.Proofs.YtjhkadffaephmabGreat
set_option maxRecDepth 100000
open Go.RowKit

/-- The first so many routes are looked up. -/
def Eng.lookTo (n : Net) (e : Eng) (i j : Nat) : Eng := { e with R := fun r c => if r = i ∧ c < j then n.route i c (fun k => e.has n i k c) else e.R r c }
theorem Eng.lookTo_zero (n : Net) (e : Eng) (i : Nat) : e.lookTo n i 0 = e := by
 unfold Eng.lookTo
 have : (fun r c => if r = i ∧ c < 0 then n.route i c (fun k => e.has n i k c) else e.R r c) = e.R := by funext r c; rw [if_neg (by omega)]
 rw [this]
theorem Eng.lookTo_succ (n : Net) (e : Eng) (i j : Nat) : { e.lookTo n i j with R := fun r c => if r = i ∧ c = j then n.route i j (fun k => e.has n i k j) else (e.lookTo n i j).R r c } = e.lookTo n i (j + 1) := by
 have hf : (fun r c => if r = i ∧ c = j then n.route i j (fun k => e.has n i k j) else (e.lookTo n i j).R r c) = (e.lookTo n i (j + 1)).R := by
  funext r c
  show (if r = i ∧ c = j then n.route i j (fun k => e.has n i k j) else (if r = i ∧ c < j then n.route i c (fun k => e.has n i k c) else e.R r c)) = (if r = i ∧ c < j + 1 then n.route i c (fun k => e.has n i k c) else e.R r c)
  by_cases h1 : r = i ∧ c = j
  ·obtain ⟨rfl, rfl⟩ := h1
   rw [if_pos ⟨rfl, rfl⟩, if_pos ⟨rfl, by omega⟩]
  ·rw [if_neg h1]
   by_cases h2 : r = i ∧ c < j
   ·rw [if_pos h2, if_pos ⟨h2.1, by omega⟩]
   ·rw [if_neg h2, if_neg (by omega)]
 show Eng.mk (fun r c => if r = i ∧ c = j then n.route i j (fun k => e.has n i k j) else (e.lookTo n i j).R r c) e.told e.D e.bag = e.lookTo n i (j + 1)
 rw [hf]
 rfl

/-- While a router looks. -/
structure LkI (w : World) (n : NetM) (x : EngM) (N i P : Nat) (Bv : Value) (y : Lay) (j : Nat) (W : World) : Prop where
 below : Below w.heap.size w W
 nb : Blk W w.heap.size n.cells 27
 eb : Blk W (w.heap.size + 1) x.cells 31
 rs : Blk W (w.heap.size + 2) #[.slice none 0 0, .slice none 0 0] 31
 live : LiveR (w.heap.size + 3) P N (x.eng.lookTo n.net i j) Bv y W
theorem LkI.keep {w : World} {n : NetM} {x : EngM} {N i P : Nat} {Bv : Value} {y : Lay} {j : Nat} {W W' : World} (h : LkI w n x N i P Bv y j W) (hb : Below W.heap.size W W') : LkI w n x N i P Bv y j W' :=
 ⟨h.below.trans (hb.mono h.below.size), h.nb.below hb h.nb.lt, h.eb.below hb h.eb.lt, h.rs.below hb h.rs.lt, h.live.below hb⟩
theorem LkI.next {w : World} {n : NetM} {x : EngM} {N i P : Nat} {Bv : Value} {y : Lay} {j : Nat} {W : World} (h : LkI w n x N i P Bv y j W) (hi : i < N) (hj : j < N) : LkI w n x N i P Bv y (j + 1) (W.setCell ⟨y.rb i, j, none⟩ (.int .i64 (n.net.route i j (fun k => x.eng.has n.net i k j)))) := by
 have hl := h.live.lr i hi
 have hs := h.live.setRoute hi hj (n.net.route i j (fun k => x.eng.has n.net i k j))
 rw [Eng.lookTo_succ] at hs
 exact ⟨h.below.setCell (p := ⟨y.rb i, j, none⟩) (by show w.heap.size ≤ y.rb i; omega) _, h.nb.other (by omega) _ _, h.eb.other (by omega) _ _, h.rs.other (by omega) _ _, hs⟩

structure LkG (w : World) (n : NetM) (x : EngM) (N i P : Nat) (Bv : Value) (y : Lay) (j : Nat) (ha : Nat) (W : World) : Prop where
 inv : LkI w n x N i P Bv y j W
 row : Ints (some ⟨ha, 0, none⟩) N ha 0 (fun k => x.eng.has n.net i k j) W
 lt : ha < W.heap.size
theorem LkG.keep {w : World} {n : NetM} {x : EngM} {N i P : Nat} {Bv : Value} {y : Lay} {j ha : Nat} {W W' : World} (h : LkG w n x N i P Bv y j ha W) (hb : Below W.heap.size W W') : LkG w n x N i P Bv y j ha W' :=
 ⟨h.inv.keep hb, h.row.below hb (fun _ => h.lt), Nat.lt_of_lt_of_le h.lt hb.size⟩

set_option maxHeartbeats 8000000 in
theorem refLooked_any (n : NetM) (x : EngM) (N i : Nat) (w : World) (h : n.In w.heap.size w) (hx : x.In w.heap.size w) (hN : n.nodes = N) (hR : x.Right n.net N) (hi : i < N) :
  Calls Tryz.prog 31 #[n.val, x.val, .int .i64 i] w fun r w' => (∃ P Bv y, LiveR w.heap.size P N (x.eng.look n.net i) Bv y w' ∧ r = .returned (.agg #[.slice (some ⟨y.G, 0, none⟩) N y.gc, Bv])) ∧ Below w.heap.size w w' := by
 obtain ⟨hN0, hN6, hNN, hnn⟩ := nodes_six hR.check hN
 have g := Net.good_of_check hR.check
 have hs0 : 2 ≤ n.a.size := g.law.good.lo
 have hs1 : n.a.size ≤ 24 := g.law.good.hi
 obtain ⟨i1, hi1, hy0, hy1, hy2⟩ := info_parts Tryz.infoInt
 have hnc : n.cells = #[.int .i64 n.a.size, .slice n.a.B.ga n.a.B.t.len n.a.B.cap, .slice n.a.E.ga n.a.E.t.len n.a.E.cap, .int .i64 N, .slice n.la n.ln n.lc] := by simp only [NetM.cells, Mat.val, hN]
 have hxc : x.cells = #[.slice x.rs.ga N x.rs.gc, .slice x.bag.ba x.bag.bn x.bag.bc] := by rw [← hR.gn]; rfl
 obtain ⟨W0, hW0⟩ : ∃ W0, W0 = ((w.alloc (.cells n.cells 27)).alloc (.cells x.cells 31)).alloc (.cells #[.slice none 0 0, .slice none 0 0] 31) := ⟨_, rfl⟩
 have hB0 : Below w.heap.size w W0 := by rw [hW0]; exact (((Below.refl _ w).alloc (Nat.le_refl _) _).alloc (by simp) _).alloc (by simp; omega) _
 have hsz0 : W0.heap.size = w.heap.size + 3 := by rw [hW0]; simp
 have b3 : Blk W0 w.heap.size n.cells 27 := by rw [hW0]; exact ((Blk.new w _ _).alloc _).alloc _
 have b4 : Blk W0 (w.heap.size + 1) x.cells 31 := by rw [hW0]; exact (show Blk _ (w.heap.size + 1) _ _ from Blk.new' (by simp)).alloc _
 have b6 : Blk W0 (w.heap.size + 2) #[.slice none 0 0, .slice none 0 0] 31 := by rw [hW0]; exact Blk.new' (by simp)
 have HCp := hide (refCopied_any x N W0 (hx.grown hB0) hR.gn hN0 hN6 hR.bn hR.rl hR.tl hR.ll)
 have HRt := hide (fun (j : Nat) (W : World) (hb : Below w.heap.size w W) ga cap b o hf hbl hr => routeOf_any n i j ga cap b o (fun k => x.eng.has n.net i k j) W (h.grown hb) hR.check hf hbl hr)
 rw [hNN] at HRt
 have HRo : Hid (∀ j, j < N → n.net.Routes (fun k => x.eng.has n.net i k j)) := hide (fun j hj => hR.fit.has g (by omega) (by omega))
 have HR := hide hR
 have Hx := hide hx
 have HB0 := hide hB0
 have Hb3 := hide b3
 have Hb4 := hide b4
 have Hb6 := hide b6
 have Hnc := hide hnc
 have Hxc := hide hxc
 have Hsz0 := hide hsz0
 have z0 := b4.cell 0
 have z1 := b4.cell 1
 rw [hxc] at z0 z1
 simp at z0 z1
 rw [hnc, hxc] at hW0
 simp only [NetM.val, EngM.val, hnc, hxc] at HCp HRt ⊢
 have HW0 := hide hW0
 have Hga : Hid (x.rs.ga = some ⟨x.rs.gb, x.rs.go, none⟩) := hide (hx.rs.ga (by rw [hR.gn]; exact hN0))
 clear h hx hR hB0 b3 b4 b6 hnc hxc hsz0 hW0 hN hNN hnn g
 rw [HW0.out] at HCp z0 z1
 go_enter Tryz.func31, Tryz.ntmps31
 go_wp2_with fail
 go_at_call 35
 refine HCp.out.mono ?_
 rw [← HW0.out]
 rintro r W1 ⟨⟨P0, Bv, y, hL1, rfl⟩, hb1⟩
 obtain ⟨ba, bc, hBv⟩ := own_form hL1.live.bag
 obtain ⟨P, hP⟩ : ∃ P, P = W1.heap.size := ⟨_, rfl⟩
 obtain ⟨W2, hW2⟩ : ∃ W2, W2 = W1.alloc (.cells #[.slice (some ⟨y.G, 0, none⟩) N y.gc, Bv] 31) := ⟨_, rfl⟩
 have hb2 : Below W1.heap.size W1 W2 := by rw [hW2]; exact (Below.refl _ W1).alloc (Nat.le_refl _) _
 have hb12 := hb1.trans (hb2.mono hb1.size)
 have hL2 := hL1.rebox
 rw [← hW2, ← hP, Hsz0.out] at hL2
 have HI0 : Hid (LkI w n x N i P Bv y 0 W2) := hide ⟨HB0.out.trans (hb12.mono HB0.out.size), Hb3.out.below hb12 Hb3.out.lt, Hb4.out.below hb12 Hb4.out.lt, Hb6.out.below hb12 Hb6.out.lt, by rw [Eng.lookTo_zero]; exact hL2⟩
 rw [hBv] at hW2
 rw [hBv]
 have HW2 := hide hW2
 have HP := hide hP
 have HBv := hide hBv
 clear hL1 hb1 hb2 hb12 hL2 hW2 hP hBv HCp z0 z1 Hb3 Hb4 Hb6 HB0
 go_wp2_with fail
 rw [← HW2.out, ← HP.out]
 go_loopw [8, 9, 10] (fun q _ _ wr => ∃ j : Nat, j ≤ N ∧ q = .int .i64 j ∧ Hid (LkI w n x N i P Bv y j wr)) (fun q _ _ _ => N - (intOf q).toNat)
 case atStart => exact ⟨0, Nat.zero_le _, rfl, HI0⟩
 case round =>
  clear HI0
  obtain ⟨j, hj, rfl, HI⟩ := hrel
  have x3 := HI.out.nb.cell 3
  simp [Hnc.out] at x3
  by_cases hjl : j < N
  ·have hji : (j : Int) < (N : Int) := by omega
   obtain ⟨Wj, hWj⟩ : ∃ Wj, Wj = wr := ⟨wr, rfl⟩
   have HIj : Hid (LkI w n x N i P Bv y j Wj) := by rw [hWj]; exact HI
   go_wp2_with fail
   rw [← hWj]
   clear hWj HI x3
   go_loopw [9, 10] (fun s q wr => ∃ k : Nat, k ≤ N ∧ q = .int .i64 k ∧ Hid (Below Wj.heap.size Wj wr) ∧ Hid (wr.ownsRow Wj.heap.size 3 1 s k (intsL (fun k => x.eng.has n.net i k j) k))) (fun _ q _ => N - (intOf q).toNat)
   case atStart => exact ⟨0, Nat.zero_le _, rfl, hide (Below.refl _ _), hide (World.ownsRow_nil _ _ _ _)⟩
   case round =>
    obtain ⟨k, hk, rfl, HBk, HOk⟩ := hrel
    have hIk := HIj.out.keep HBk.out
    have x3 := hIk.nb.cell 3
    simp [Hnc.out] at x3
    by_cases hkl : k < N
    ·have hki : (k : Int) < (N : Int) := by omega
     have hii : (i : Int) < (N : Int) := by omega
     have hxI := Hx.out.below hIk.below (Nat.le_refl _)
     have hig : i < x.rs.gn := by rw [HR.out.gn]; exact hi
     have e0 := hIk.eb.cell 0
     simp [Hxc.out] at e0
     rw [Hga.out] at e0
     have c1 := hxI.rs.c1 i hig
     have htl := HR.out.tl i hi
     rw [htl] at c1
     have hTga := (hxI.rs.r i hig).T.ga (by rw [htl]; exact hN0)
     rw [hTga] at c1
     have hrow := (hxI.rs.r i hig).T.row k (by rw [htl]; exact hkl)
     have hLk := HR.out.ll i hi k hkl
     have x0 := hIk.nb.cell 0
     simp [Hnc.out] at x0
     have Hhas : Hid (x.eng.has n.net i k j = if x.eng.told i k = true then x.eng.D i k j else n.a.size - 1) := hide rfl
     by_cases ht : x.eng.told i k = true
     ·rw [if_pos ht] at hLk Hhas
      rw [hLk] at hrow
      obtain ⟨ha1, ha2⟩ := (hxI.rs.r i hig).T.addr k (by rw [htl]; exact hkl) (by rw [hLk]; exact hN0)
      rw [ha1] at hrow
      have hcell := (hxI.rs.r i hig).T.cell k (by rw [htl]; exact hkl) j (by rw [hLk]; exact hjl)
      have hz : (x.rs.r i).T.t.Z k j = x.eng.D i k j := rfl
      rw [hz] at hcell
      have hn0 : ((N : Int) == 0) = false := by simp; omega
      obtain ⟨dv, hdv⟩ : ∃ dv, dv = x.eng.D i k j := ⟨_, rfl⟩
      rw [← hdv] at hcell Hhas
      have Hha1 := hide ha1
      have HTga := hide hTga
      have HIk := hide hIk
      clear hIk hxI hLk ht ha1 ha2 hz hdv hTga htl
      go_wp2_with (at_builtin; refine wpList_append_lies _ rfl _ _ _ rfl Wj.heap.size 3 i1 _ 1 8 Tryz.underlying32 hi1 hy0 hy1 hy2 rfl (by decide) _ k _ rfl (HOk.out.alloc _) ⟨wr.heap.size, 0, none⟩ 1 1 [.int .i64 dv] rfl rfl ?c1 ?c2 (by decide) ?c3 ?c4 ?c5 _ rfl ?_)
      all_goals try (case c1 => exact World.news_of_block (Blk.new' (by simp)))
      all_goals try (case c2 => simp [Value.oneCell'])
      all_goals try (case c3 => unfold maxLen; omega)
      all_goals try (case c4 => omega)
      all_goals try (case c5 => have := HBk.out.size; simp; omega)
      intro g' cap' w4 hown2 hgrow hat2 hlt2
      have HB4 := hide ((HBk.out.alloc HBk.out.size (.cells #[.int .i64 dv] 3)).trans (grown_below hgrow (fun g hg => (HOk.out.lt g hg).1) (by have := HBk.out.size; simp; omega)))
      have HO4 : Hid (w4.ownsRow Wj.heap.size 3 1 (.slice (some ⟨g', 0, none⟩) (k + 1) cap') (k + 1) (intsL (fun k => x.eng.has n.net i k j) (k + 1))) := hide (by rw [intsL_succ, Hhas.out]; exact hown2)
      clear hown2 hgrow hat2 hlt2 HOk HBk HIk
      go_wp2
      go_roundw
      case rel =>
       first
       | exact ⟨k + 1, by omega, by go_num, HB4, HO4⟩
       | ((try rw [← Hha1.out]); (try rw [← HTga.out]); (try rw [← Hga.out]); (repeat apply Exists.intro); refine ⟨?_, rfl⟩; exact ⟨k + 1, by omega, by go_num, HB4, HO4⟩)
      case measure => simp [intOf]; omega
     ·rw [if_neg ht] at hLk Hhas
      rw [hLk] at hrow
      have HTga := hide hTga
      clear hIk hxI hLk ht hTga htl
      go_wp2_with (at_builtin; refine wpList_append_lies _ rfl _ _ _ rfl Wj.heap.size 3 i1 _ 1 8 Tryz.underlying32 hi1 hy0 hy1 hy2 rfl (by decide) _ k _ rfl (HOk.out.alloc _) ⟨wr.heap.size, 0, none⟩ 1 1 [.int .i64 (n.a.size - 1)] rfl rfl ?c1 ?c2 (by decide) ?c3 ?c4 ?c5 _ rfl ?_)
      all_goals try (case c1 => exact World.news_of_block (Blk.new' (by simp)))
      all_goals try (case c2 => simp [Value.oneCell'])
      all_goals try (case c3 => unfold maxLen; omega)
      all_goals try (case c4 => omega)
      all_goals try (case c5 => have := HBk.out.size; simp; omega)
      intro g' cap' w4 hown2 hgrow hat2 hlt2
      have HB4 := hide ((HBk.out.alloc HBk.out.size (.cells #[.int .i64 (n.a.size - 1)] 3)).trans (grown_below hgrow (fun g hg => (HOk.out.lt g hg).1) (by have := HBk.out.size; simp; omega)))
      have HO4 : Hid (w4.ownsRow Wj.heap.size 3 1 (.slice (some ⟨g', 0, none⟩) (k + 1) cap') (k + 1) (intsL (fun k => x.eng.has n.net i k j) (k + 1))) := hide (by rw [intsL_succ, Hhas.out]; exact hown2)
      clear hown2 hgrow hat2 hlt2 HOk HBk
      go_wp2
      go_roundw
      case rel =>
       first
       | exact ⟨k + 1, by omega, by go_num, HB4, HO4⟩
       | ((try rw [← HTga.out]); (try rw [← Hga.out]); (repeat apply Exists.intro); refine ⟨?_, rfl⟩; exact ⟨k + 1, by omega, by go_num, HB4, HO4⟩)
      case measure => simp [intOf]; omega
    ·have hkn : k = N := by omega
     subst hkn
     have hki : (k : Int) ≤ (k : Int) := Int.le_refl _
     obtain ⟨ha, hc, rfl, hrl, hrg⟩ := HOk.out.form hN0
     have HG0 : Hid (LkG w n x k i P Bv y j ha wr) := hide ⟨hIk, ⟨fun _ => rfl, fun q hq => by have := HOk.out.cellAt q (by omega); rw [intsL_get hq] at this; rw [Nat.zero_add]; exact this, by unfold maxLen; omega⟩, hrg⟩
     have HCr := hide (fun (W : World) (hG : LkG w n x k i P Bv y j ha W) => HRt.out j W hG.inv.below (some ⟨ha, 0, none⟩) hc ha 0 hG.row hG.lt (HRo.out j hjl))
     obtain ⟨rv, hrv⟩ : ∃ rv, rv = n.net.route i j (fun q => x.eng.has n.net i q j) := ⟨_, rfl⟩
     rw [← hrv] at HCr
     have Hrv := hide hrv
     have Hii : Hid (i < k) := hide hi
     clear hIk HOk HBk HIj hrl hrg hrv
     go_wp2_with fail
     clear x3
     refine wp_region_last 13 _ (LkG w n x k i P Bv y j ha) (valsE [.pointer (some ⟨P, 0, none⟩), .slice (some ⟨y.G, 0, none⟩) k y.gc, .int .i64 i, .pointer (some ⟨y.G, i * 2, none⟩), .pointer (some ⟨y.G, i * 2, none⟩), .slice (some ⟨y.rb i, 0, none⟩) k (y.rc i), .int .i64 j, .agg #[.int .i64 n.a.size, .slice n.a.B.ga n.a.B.t.len n.a.B.cap, .slice n.a.E.ga n.a.E.t.len n.a.E.cap, .int .i64 k, .slice n.la n.ln n.lc], .int .i64 i, .int .i64 j, .slice (some ⟨ha, 0, none⟩) k hc, .int .i64 rv, .pointer (some ⟨y.rb i, j, none⟩)]) (fun _ W => LkI w n x k i P Bv y (j + 1) W) (fun _ _ _ => True) (by kernel_rfl) (by kernel_rfl) (by kernel_rfl) (by kernel_rfl) (by kernel_rfl) rfl (HG0.out.keep ⟨rfl, rfl, rfl, Nat.le_refl _, fun _ _ => rfl⟩) ⟨?_, ?_, ?_, ?_, ?_, ?_, ?_, ?_, ?_, ?_, ?_, ?_, ?_, trivial⟩ ?_ trivial ?_
     rotate_right
     ·intro t W hG _
      simp only [fill, Act.put, List.setIfInBounds_toArray, List.set_cons_zero, List.set_cons_succ]
      have HN := hide hG
      clear hG HG0 HCr
      go_wp2
      go_roundw
      case rel =>
       first
       | exact ⟨j + 1, by omega, by go_num, HN⟩
       | ((try rw [← Hga.out]); (repeat apply Exists.intro); refine ⟨?_, rfl⟩; exact ⟨j + 1, by omega, by go_num, HN⟩)
      case measure => simp [intOf]; omega
     rotate_right
     ·intro t W hG hE _ K hK
      have e11 := valsE_get (hE 11 (by omega)) rfl
      have e12 := valsE_get (hE 12 (by omega)) rfl
      simp only [fill, Act.put, List.setIfInBounds_toArray, List.set_cons_zero, List.set_cons_succ, e11, e12] at hK ⊢
      rw [if_pos (by rfl)]
      have hnx := hG.inv.next Hii.out hjl
      rw [← Hrv.out] at hnx
      obtain ⟨cs, hcb⟩ := hG.inv.live.blk i Hii.out
      have cc := (hG.inv.live.live.routes i Hii.out).2 j hjl
      have fc := hcb.frozen j
      have HNX := hide hnx
      clear hnx hcb hE
      go_simp
      exact hK undef _ HNX.out
     all_goals intro t W hG hp ht K hK
     all_goals clear ht
     all_goals simp only [fill, Act.put, List.setIfInBounds_toArray, List.set_cons_zero, List.set_cons_succ] at hK ⊢
     ·rw [if_pos (by rfl)]
      go_simp
      exact hK _ _ hG rfl (fun _ _ _ h => h)
     ·have e0 := valsE_get (hp 0 (by decide)) rfl
      have cq := hG.inv.live.live.head.cell 0
      simp at cq
      simp only [e0] at hK ⊢
      rw [if_pos (by rfl)]
      go_simp
      exact hK _ _ hG rfl (fun _ _ _ h => h)
     ·rw [if_pos (by rfl)]
      go_simp
      exact hK _ _ hG rfl (fun _ _ _ h => h)
     ·have e1 := valsE_get (hp 1 (by decide)) rfl
      have e2 := valsE_get (hp 2 (by decide)) rfl
      have hii' : (i : Int) < (k : Int) := by have := Hii.out; omega
      simp only [e1, e2] at hK ⊢
      rw [if_pos (by rfl)]
      go_simp
      exact hK _ _ hG rfl (fun _ _ _ h => h)
     ·have e3 := valsE_get (hp 3 (by decide)) rfl
      simp only [e3] at hK ⊢
      rw [if_pos (by rfl)]
      go_simp
      exact hK _ _ hG rfl (fun _ _ _ h => h)
     ·have e4 := valsE_get (hp 4 (by decide)) rfl
      have cq := hG.inv.live.live.rtrs.cell (i * 2)
      rw [hG.inv.live.live.r0 i Hii.out] at cq
      simp only [e4] at hK ⊢
      rw [if_pos (by rfl)]
      go_simp
      exact hK _ _ hG rfl (fun _ _ _ h => h)
     ·rw [if_pos (by rfl)]
      go_simp
      exact hK _ _ hG rfl (fun _ _ _ h => h)
     ·have m0 := hG.inv.nb.cell 0
      have m1 := hG.inv.nb.cell 1
      have m2 := hG.inv.nb.cell 2
      have m3 := hG.inv.nb.cell 3
      have m4 := hG.inv.nb.cell 4
      simp [Hnc.out] at m0 m1 m2 m3 m4
      rw [if_pos (by rfl)]
      go_simp
      exact hK _ _ hG rfl (fun _ _ _ h => h)
     ·rw [if_pos (by rfl)]
      go_simp
      exact hK _ _ hG rfl (fun _ _ _ h => h)
     ·rw [if_pos (by rfl)]
      go_simp
      exact hK _ _ hG rfl (fun _ _ _ h => h)
     ·rw [if_pos (by rfl)]
      go_simp
      exact hK _ _ hG rfl (fun _ _ _ h => h)
     ·have e7 := valsE_get (hp 7 (by decide)) rfl
      have e8 := valsE_get (hp 8 (by decide)) rfl
      have e9 := valsE_get (hp 9 (by decide)) rfl
      have e10 := valsE_get (hp 10 (by decide)) rfl
      simp only [e7, e8, e9, e10] at hK ⊢
      rw [if_pos (by rfl)]
      have HC := hide (HCr.out W hG)
      go_simp
      go_at_call 65
      refine HC.out.mono ?_
      rintro r W1 ⟨rfl, hb1⟩
      go_simp
      exact hK _ _ (hG.keep hb1) rfl (fun _ _ _ h => h)
     ·have e5 := valsE_get (hp 5 (by decide)) rfl
      have e6 := valsE_get (hp 6 (by decide)) rfl
      simp only [e5, e6] at hK ⊢
      rw [if_pos (by rfl)]
      go_simp
      exact hK _ _ hG rfl (fun _ _ _ h => h)
  ·have hjn : j = N := by omega
   subst hjn
   have hji : (j : Int) ≤ (j : Int) := Int.le_refl _
   have hl := HI.out.live.congr (e' := x.eng.look n.net i) (fun r c hr hc => by
    show (if r = i ∧ c < j then n.net.route i c (fun k => x.eng.has n.net i k c) else x.eng.R r c) = (if r = i then n.net.route i c (fun k => x.eng.has n.net i k c) else x.eng.R r c)
    by_cases e1 : r = i
    ·rw [if_pos ⟨e1, hc⟩, if_pos e1]
    ·rw [if_neg (fun hh => e1 hh.1), if_neg e1]) (fun _ _ _ _ => rfl) (fun _ _ _ _ _ _ _ => rfl) rfl
   have c6 := HI.out.rs
   have p0 := HI.out.live.live.head.cell 0
   have p1 := HI.out.live.live.head.cell 1
   have s0 := c6.cell 0
   have s1 := c6.cell 1
   have f0 := c6.frozen 0
   have f1 := c6.frozen 1
   have c7 := (c6.set 0 (.slice (some ⟨y.G, 0, none⟩) j y.gc)).set 1 Bv
   have e0 := c7.cell 0
   have e1 := c7.cell 1
   simp at p0 p1 s0 s1 e0 e1
   have hl9 := (hl.setRes hN0 (by omega) c6 (.slice (some ⟨y.G, 0, none⟩) j y.gc) Bv).mono (lo := w.heap.size) (by omega)
   have HF : Hid ((∃ P Bw z, LiveR w.heap.size P j (x.eng.look n.net i) Bw z ((wr.setCell ⟨w.heap.size + 2, 0, none⟩ (.slice (some ⟨y.G, 0, none⟩) j y.gc)).setCell ⟨w.heap.size + 2, 1, none⟩ Bv) ∧ Ending.returned (.agg #[.slice (some ⟨y.G, 0, none⟩) j y.gc, Bv]) = .returned (.agg #[.slice (some ⟨z.G, 0, none⟩) j z.gc, Bw])) ∧ Below w.heap.size w ((wr.setCell ⟨w.heap.size + 2, 0, none⟩ (.slice (some ⟨y.G, 0, none⟩) j y.gc)).setCell ⟨w.heap.size + 2, 1, none⟩ Bv)) := hide ⟨⟨_, _, _, hl9, rfl⟩, (HI.out.below.setCell (p := ⟨w.heap.size + 2, 0, none⟩) (by show w.heap.size ≤ w.heap.size + 2; omega) _).setCell (p := ⟨w.heap.size + 2, 1, none⟩) (by show w.heap.size ≤ w.heap.size + 2; omega) _⟩
   rw [HBv.out] at p1 e0 e1 HF
   generalize x.eng.bag.length = bl at *
   clear hl hl9 c6 c7 HI
   go_wp2
   exact bodyPost_ret (v := .agg #[.slice (some ⟨y.G, 0, none⟩) j y.gc, .slice ba bl bc]) (by simp [results, Tryz.results31, go_sem, e0, e1]) rfl HF.out

end Go.Proofs.YtjhkadffaephmabGreat
