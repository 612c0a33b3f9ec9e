/-
  WireBack.
-/
import Derived.Test.YtjhkadffaephmabLawWireA
import Derived.Test.YtjhkadffaephmabLast
import Derived.Test.YtjhkadffaephmabBeginN
namespace Go.Proofs.Ytjhkadffaephmab
set_option maxRecDepth 100000
open Go.RowKit

theorem wrap_small {x : Int} (h0 : 0 ≤ x) (h1 : x < 1000) : IntKind.i64.wrap x = x := by
  simp [IntKind.wrap, IntKind.bits, IntKind.signed]; omega

/-- What the operations that lead to the last Read leave. -/
def turnE (vs : List Value) (c8 re : Int) (k : Nat) (v : Value) (W : World) : Prop :=
  if k = 4 then ∃ g : Nat, v = .slice (some ⟨g, 0, none⟩) 1 1 ∧ g < W.heap.size ∧ W.cell? ⟨g, 0, none⟩ = some (.int .u8 c8)
  else if k = 12 ∨ k = 13 then ∃ x, v = .tuple #[x, .int .i64 re]
  else if k = 14 then True
  else if k = 15 then v = .int .i64 re
  else vs[k]? = some v
theorem turnE_keep {vs : List Value} {c8 re : Int} {k : Nat} {v : Value} {W W' : World} (hb : Below W.heap.size W W') (h : turnE vs c8 re k v W) : turnE vs c8 re k v W' := by
  unfold turnE at h ⊢
  split
  · next e =>
    rw [if_pos e] at h
    obtain ⟨g, h1, h2, h3⟩ := h
    exact ⟨g, h1, Nat.lt_of_lt_of_le h2 hb.size, by rw [hb.cell (p := ⟨g, 0, none⟩) h2]; exact h3⟩
  · next e =>
    rw [if_neg e] at h
    exact h
theorem turnE_get {vs : List Value} {c8 re : Int} {k : Nat} {v u : Value} {W : World} (h : turnE vs c8 re k v W) (hk : k ≠ 4 ∧ k < 12) (hu : vs[k]? = some u) : v = u := by
  unfold turnE at h
  rw [if_neg hk.1, if_neg (by omega), if_neg (by omega), if_neg (by omega), hu] at h
  exact (Option.some.inj h).symm

set_option maxHeartbeats 8000000 in
theorem wireBack_any (p : PktM) (l : List UInt8) (at_ by_ : Int) (w : World) (h : p.In w.heap.size w) (hl : l.length ≤ maxLen) (a0 : -9223372036854775808 ≤ at_) (a1 : at_ ≤ 9223372036854775807) (b0 : -9223372036854775808 ≤ by_) (b1 : by_ ≤ 9223372036854775807) :
    Calls Try.prog 4 #[p.val, txt l, .int .i64 at_, .int .i64 by_] w fun e w' => e = .returned (.bool true) ∧ Below w.heap.size w w' := by
  have H := hide h
  have hB0 : Below w.heap.size w (w.alloc (.cells p.cells 24)) := (Below.refl _ w).alloc (Nat.le_refl _) _
  have HB0 := hide hB0
  have Hb := hide (Blk.new w p.cells 24)
  have HR := hide (fun W => read_any l W hl)
  unfold ReadAns at HR
  have Hgood : Hid (readErr l = 0 → (readOf l).err = 0 ∧ (readOf l).text = l) := hide (fun hr => by
    have h1 := readErr_sealed hr
    unfold readOf
    rw [if_pos hr]
    exact ⟨h1.2.2.2.1, by unfold Pkt.text; rw [if_pos h1.2.2.2.1]; exact h1.2.2.2.2⟩)
  clear h hB0
  simp only [PktM.val, PktM.cells, txt] at *
  have hst : (ByteArray.mk l.toArray).toList = l := by simp
  generalize hs : ByteArray.mk l.toArray = s at *
  clear hs
  go_enter Try.func4, Try.ntmps4
  go_wp2_with fail
  go_at_call 15
  refine (wireBegun_any _).mono ?_
  rintro e w1 ⟨rfl, hb1⟩
  have HB1 := hide (HB0.out.trans (hb1.mono HB0.out.size))
  have Hb1 := hide (Hb.out.below hb1 Hb.out.lt)
  clear hb1 HB0 Hb
  have HR1 := hide (HR.out w1)
  go_wp2_with fail
  go_at_call 13
  refine HR1.out.mono ?_
  rintro e w2 ⟨⟨q, rfl, hqs, hqi, _⟩, hb2⟩
  obtain ⟨W3, hW3⟩ : ∃ W3, W3 = w2.alloc (.cells #[.int .i64 q.F, .int .i64 q.T, .slice q.ra q.n q.rc] 24) := ⟨_, rfl⟩
  have hB3 : Below w2.heap.size w2 W3 := by rw [hW3]; exact (Below.refl _ _).alloc (Nat.le_refl _) _
  have q3 : Blk W3 w2.heap.size #[.int .i64 q.F, .int .i64 q.T, .slice q.ra q.n q.rc] 24 := by rw [hW3]; exact Blk.new w2 _ _
  have HB3 := hide ((HB1.out.trans (hb2.mono HB1.out.size)).trans (hB3.mono (by have := HB1.out.size; have := hb2.size; omega)))
  have Hb3 := hide ((Hb1.out.below hb2 Hb1.out.lt).below hB3 (by have := Hb1.out.lt; have := hb2.size; omega))
  have HW := hide (write_any q W3 (hqi.grown hB3))
  simp only [PktM.val, PktM.cells, txt] at HW
  rw [Pkt.same_err hqs, Pkt.same_text hqs] at HW
  rw [hW3] at HW
  have HW3 := hide hW3
  have hb3 := Hb3.out
  rw [hW3] at hb3
  clear hb2 hB3 HB1 Hb1 HR HR1 hqs hqi q3 hW3
  have hbr : ∃ er : Int, er = readErr l := ⟨_, rfl⟩
  obtain ⟨er, her⟩ := hbr
  rw [← her] at Hgood ⊢
  by_cases hr : er = 0
  · obtain ⟨e1, e2⟩ := Hgood.out hr
    rw [e1, e2] at HW
    subst hr
    have hne : (l == l) = true := beq_self_eq_true l
    clear e1 e2 Hgood hb3 her
    go_wp2_with fail
    first
    | go_at_call 17
    | skip
    refine HW.out.mono ?_
    rintro e w5 ⟨rfl, hb5⟩
    rw [← HW3.out] at hb5
    have HB5 := hide (HB3.out.trans (hb5.mono HB3.out.size))
    have Hb5 := hide (Hb3.out.below hb5 Hb3.out.lt)
    have x0 := Hb5.out.cell 0
    have x1 := Hb5.out.cell 1
    have x2 := Hb5.out.cell 2
    simp at x0 x1 x2
    clear hb5 HB3 Hb3 HW HW3
    go_wp2_with fail
    have HP := hide (write_any p w5 (H.out.grown HB5.out))
    simp only [PktM.val, PktM.cells] at HP
    first
    | go_at_call 17
    | skip
    refine HP.out.mono ?_
    rintro e w6 ⟨rfl, hb6⟩
    have HB6 := hide (HB5.out.trans (hb6.mono HB5.out.size))
    have Hb6 := hide (Hb5.out.below hb6 Hb5.out.lt)
    have y0 := Hb6.out.cell 0
    have y1 := Hb6.out.cell 1
    have y2 := Hb6.out.cell 2
    simp at y0 y1 y2
    clear hb6 HB5 Hb5 HP
    by_cases hpe : p.pkt.err = 0
    · have hrd := readErr_bytes hpe
      have htx : p.pkt.text = p.pkt.bytes := by unfold Pkt.text; rw [if_pos hpe]
      have hpl := p.pkt.bytes_length
      have hpn := (Pkt.err_ok hpe).2
      have Hturn := hide (fun (i : Nat) (c : UInt8) (hi : i < p.pkt.bytes.length) (hc : c ≠ p.pkt.bytes[i]) => turned_ne hpe hi hc)
      rw [hpe, htx]
      obtain ⟨tl, htl⟩ : ∃ tl, tl = p.pkt.bytes := ⟨_, rfl⟩
      rw [← htl] at hrd hpl Hturn ⊢
      have HR7 := hide (read_any tl w6 (by unfold maxLen; omega))
      unfold ReadAns at HR7
      rw [hrd.1] at HR7
      have Hro : Hid ((readOf tl).same p.pkt) := hide (by unfold readOf; rw [if_pos hrd.1]; exact hrd.2)
      have hpn2 : p.pkt.n = p.n := rfl
      rw [hpn2] at hpn hpl
      have htsz : (ByteArray.mk tl.toArray).size = p.n + 6 := by rw [← hpl]; simp [ByteArray.size]
      have HG : Hid (∀ (i : Nat) (h : i < (ByteArray.mk tl.toArray).size), ((ByteArray.mk tl.toArray)[i]) = tl.getD i 0) := hide (fun i h => read_idx h)
      simp only [PktM.val, PktM.cells, txt] at HR7 ⊢
      generalize hts : ByteArray.mk tl.toArray = ts at *
      have Hts := hide hts
      clear hpe hrd htx htl hts hpn2
      go_wp2_with fail
      go_at_call 13
      refine HR7.out.mono ?_
      rintro e w7 ⟨⟨q2, rfl, hqs, hqi, _⟩, hb7⟩
      obtain ⟨W8, hW8⟩ : ∃ W8, W8 = w7.alloc (.cells #[.int .i64 q2.F, .int .i64 q2.T, .slice q2.ra q2.n q2.rc] 24) := ⟨_, rfl⟩
      have hB8 : Below w7.heap.size w7 W8 := by rw [hW8]; exact (Below.refl _ _).alloc (Nat.le_refl _) _
      have HB8 := hide ((HB6.out.trans (hb7.mono HB6.out.size)).trans (hB8.mono (by have := HB6.out.size; have := hb7.size; omega)))
      have hb8 := (Hb6.out.below hb7 Hb6.out.lt).below hB8 (by have := Hb6.out.lt; have := hb7.size; omega)
      have HSP := hide (samePacket_yes p q2 W8 (H.out.grown HB8.out) (hqi.grown hB8) (by
        have h1 := Hro.out
        exact ⟨(hqs.1.trans h1.1).symm, (hqs.2.1.trans h1.2.1).symm, (hqs.2.2.1.trans h1.2.2.1).symm, fun i hi => ((hqs.2.2.2 i (by have := hqs.2.2.1; have := h1.2.2.1; omega)).trans (h1.2.2.2 i (by have := h1.2.2.1; omega))).symm⟩))
      simp only [PktM.val, PktM.cells] at HSP
      rw [hW8] at hb8 HSP
      have v0 := hb8.cell 0
      have v1 := hb8.cell 1
      have v2 := hb8.cell 2
      simp at v0 v1 v2
      have HW8 := hide hW8
      clear hW8 hb7 hB8 hqs hqi Hro HB6 Hb6 HR7 hb8
      go_wp2_with fail
      first
      | go_at_call 16
      | skip
      refine HSP.out.mono ?_
      rintro e w9 ⟨rfl, hb9⟩
      rw [← HW8.out] at hb9
      have HB9 := hide (HB8.out.trans (hb9.mono HB8.out.size))
      clear hb9 HB8 HSP HW8 v0 v1 v2
      have HC1 := hide (choose_any at_ ((p.n : Int) + 6) w9 (by omega) (by omega) a0 a1)
      have hcv := chooseV_in (c := at_) (n := (p.n : Int) + 6) (by omega)
      have hdv := chooseV_in (c := by_) (n := 255) (by omega)
      have HC2 := hide (fun W => choose_any by_ 255 W (by omega) (by omega) b0 b1)
      generalize chooseV at_ ((p.n : Int) + 6) = cv at *
      generalize chooseV by_ 255 = dv at *
      obtain ⟨ca, hca⟩ : ∃ ca : Nat, cv = ca := ⟨cv.toNat, by omega⟩
      subst hca
      go_wp2_with fail
      first
      | go_at_call 18
      | skip
      refine HC1.out.mono ?_
      rintro e w10 ⟨rfl, hm10⟩
      have HB10 : Hid (Below w.heap.size w w10) := hide (by obtain ⟨m, rfl⟩ := hm10; exact below_drewN HB9.out m)
      clear hm10 HB9
      have hci : (ca : Int) < (ts.size : Int) := by omega
      have gct : ∀ h : ca < ts.size, (ts[ca]'h).toNat = (tl.getD ca 0).toNat := fun h => by rw [HG.out ca h]
      have hbt := (tl.getD ca 0).toNat_lt
      obtain ⟨bt, hbt'⟩ : ∃ bt, bt = (tl.getD ca 0).toNat := ⟨_, rfl⟩
      rw [← hbt'] at gct hbt
      have Hbt := hide hbt'
      clear hbt' HC1
      go_wp2_with fail
      go_quiet ((go_at_call 18; refine Calls.quiet_of (HC2.out _)))
      go_wp2
      obtain ⟨c8, hc8⟩ : ∃ c8 : Int, c8 = ((bt : Int) + (1 + dv)) % 256 := ⟨_, rfl⟩
      rw [← hc8]
      have hc0 : 0 ≤ c8 := by omega
      have hc1 : c8 < 256 := by omega
      have hcn : c8 ≠ bt := by omega
      have hcu := u8_toNat hc0 hc1
      obtain ⟨A, hA⟩ : ∃ A, A = ts.extract 0 ca := ⟨_, rfl⟩
      obtain ⟨D, hD⟩ : ∃ D, D = ts.extract (ca + 1) ts.size := ⟨_, rfl⟩
      obtain ⟨C1, hC1⟩ : ∃ C1, C1 = ByteArray.mk [u8 c8].toArray := ⟨_, rfl⟩
      have hcal : ca < tl.length := by omega
      have hAl : A = ByteArray.mk (tl.take ca).toArray := by rw [hA, ← Hts.out, ByteArray.extract_mk]; simp
      have hDl : D = ByteArray.mk (tl.drop (ca + 1)).toArray := by
        rw [hD, ← Hts.out, ByteArray.extract_mk]
        congr 2
        rw [List.take_of_length_le]
        simp [ByteArray.size]
      have hset : A ++ C1 ++ D = ByteArray.mk (tl.set ca (u8 c8)).toArray := by
        rw [hAl, hDl, hC1, ByteArray.mk_append_mk, ByteArray.mk_append_mk, List.set_eq_take_append_cons_drop, if_pos hcal]
        simp
      have hAs : A.size ≤ 60 := by rw [hAl]; simp [ByteArray.size]; omega
      have hDs : D.size ≤ 60 := by rw [hDl]; simp [ByteArray.size]; omega
      have hCs : C1.size = 1 := by rw [hC1]; simp [ByteArray.size]
      have HRT := hide (fun W => read_any (tl.set ca (u8 c8)) W (by rw [List.length_set]; unfold maxLen; omega))
      unfold ReadAns at HRT
      have Hne : Hid (readErr (tl.set ca (u8 c8)) ≠ 0) := hide (Hturn.out ca (u8 c8) hcal (fun e => by
        have e1 := Hbt.out
        rw [List.getD_eq_getElem?_getD, List.getElem?_eq_getElem hcal] at e1
        have e2 : (u8 c8).toNat = bt := by rw [e, e1]; rfl
        omega))
      simp only [txt, PktM.val, PktM.cells] at HRT
      rw [← hset] at HRT
      generalize readErr (tl.set ca (u8 c8)) = re at *
      have HcA := hide hA
      have HcD := hide hD
      have HcC := hide hC1
      have Hcu := hide hcu
      have hce : (ca : Int) ≤ (ts.size : Int) := by omega
      have hce1 : (ca : Int) + 1 ≤ (ts.size : Int) := by omega
      have hca60 : ca ≤ 60 := by omega
      have hca60i : (ca : Int) ≤ 60 := by omega
      clear hA hD hC1 hAl hDl hset Hturn Hbt hcu HG Hts hc8 htsz
      refine wp_region_last 16 _ (fun W => Below w.heap.size w W) (turnE [.string ts, .int .i64 ca, .string A, .int .u8 c8, undef, .string C1, .string (A ++ C1), .string ts, .int .i64 ca, .int .i64 ((ca : Int) + 1), .string D, .string (A ++ C1 ++ D)] c8 re) (fun v W => v = .int .i64 re ∧ Below w.heap.size w W) (fun _ _ _ => True)
        (by kernel_rfl) (by kernel_rfl) (by kernel_rfl) (by kernel_rfl) (by kernel_rfl) rfl (below_drewN HB10.out nq |>.trans ⟨rfl, rfl, rfl, Nat.le_refl _, fun _ _ => rfl⟩) ⟨?_, ?_, ?_, ?_, ?_, ?_, ?_, ?_, ?_, ?_, ?_, ?_, ?_, ?_, ?_, ?_, trivial⟩ ?_ trivial ?_
      have hre : (re != 0) = true := by simpa using Hne.out
      rotate_right
      · intro t W hG _
        obtain ⟨hv, hBW⟩ := hG
        have HBW := hide hBW
        clear hBW
        simp only [fill, Act.put, List.setIfInBounds_toArray, List.set_cons_zero, List.set_cons_succ, hv]
        go_wp2
        go_ret
        exact ⟨by first | rfl | (simp; exact Hne.out) | simp [Hne.out], HBW.out⟩
      rotate_right
      · intro t W hG hE _ K hK
        have e15 : t 15 = .int .i64 re := hE 15 (by omega)
        simp only [fill, Act.put, List.setIfInBounds_toArray, List.set_cons_zero, List.set_cons_succ, e15] at hK ⊢
        rw [if_pos (by rfl)]
        go_simp
        exact hK _ W ⟨rfl, hG⟩
      all_goals intro t W hG hp ht K hK
      all_goals clear ht
      all_goals simp only [fill, Act.put, List.setIfInBounds_toArray, List.set_cons_zero, List.set_cons_succ] at hK ⊢
      all_goals rw [if_pos (by rfl)]
      · go_simp
        exact hK _ W hG rfl (fun _ _ _ h => h)
      · go_simp
        exact hK _ W hG rfl (fun _ _ _ h => h)
      · have e0 := turnE_get (hp 0 (by decide)) (by decide) rfl
        have e1 := turnE_get (hp 1 (by decide)) (by decide) rfl
        simp only [e0, e1] at hK ⊢
        go_simp
        refine hK _ W hG ?_ (fun _ _ _ h => h)
        show some (Value.string A) = some _
        rw [HcA.out]
      · go_simp
        exact hK _ W hG rfl (fun _ _ _ h => h)
      · have e3 := turnE_get (hp 3 (by decide)) (by decide) rfl
        simp only [e3] at hK ⊢
        go_simp
        exact hK _ _ (hG.alloc hG.size _) ⟨W.heap.size, rfl, by simp, (Blk.new W #[.int .u8 c8] 5).cell 0⟩ (fun _ _ _ h => turnE_keep ((Below.refl _ W).alloc (Nat.le_refl _) _) h)
      · obtain ⟨g, e4, hg, hc⟩ : ∃ g : Nat, t 4 = .slice (some ⟨g, 0, none⟩) 1 1 ∧ g < W.heap.size ∧ W.cell? ⟨g, 0, none⟩ = some (.int .u8 c8) := hp 4 (by decide)
        have hcv := run_convert_bytes_back (P := Try.prog) W 34 9 5 ⟨g, 0, none⟩ 1 [u8 c8] Try.underlying34 Try.underlying5 Try.underlying9 (fun j hj => by
          obtain rfl : j = 0 := by simpa using hj
          rw [Go.WideShapes.add_plain]
          show W.cell? ⟨g, 0, none⟩ = some (.int .u8 ((u8 c8).toNat : Int))
          rw [Hcu.out]; exact hc)
        rw [← HcC.out] at hcv
        simp only [List.length_cons, List.length_nil, Nat.zero_add] at hcv
        simp only [e4] at hK ⊢
        go_simp
        exact hK _ W hG rfl (fun _ _ _ h => h)
      · have e2 := turnE_get (hp 2 (by decide)) (by decide) rfl
        have e5 := turnE_get (hp 5 (by decide)) (by decide) rfl
        simp only [e2, e5] at hK ⊢
        have hno : ¬ 9223372036854775807 < A.size + C1.size := by omega
        have hno1 : ¬ 9223372036854775807 < A.size + 1 := by omega
        go_simp
        exact hK _ W hG rfl (fun _ _ _ h => h)
      · go_simp
        exact hK _ W hG rfl (fun _ _ _ h => h)
      · go_simp
        exact hK _ W hG rfl (fun _ _ _ h => h)
      · have e8 := turnE_get (hp 8 (by decide)) (by decide) rfl
        simp only [e8] at hK ⊢
        go_simp
        refine hK _ W hG ?_ (fun _ _ _ h => h)
        show some (Value.int .i64 ((ca : Int) + 1)) = some (Value.int .i64 (IntKind.i64.wrap ((ca : Int) + 1)))
        rw [wrap_small (by omega) (by omega)]
      · have e7 := turnE_get (hp 7 (by decide)) (by decide) rfl
        have e9 := turnE_get (hp 9 (by decide)) (by decide) rfl
        simp only [e7, e9] at hK ⊢
        go_simp
        refine hK _ W hG ?_ (fun _ _ _ h => h)
        show some (Value.string D) = some _
        rw [HcD.out]
      · have e6 := turnE_get (hp 6 (by decide)) (by decide) rfl
        have e10 := turnE_get (hp 10 (by decide)) (by decide) rfl
        simp only [e6, e10] at hK ⊢
        have hsz : (A ++ C1).size = A.size + C1.size := ByteArray.size_append
        have hno : ¬ 9223372036854775807 < A.size + C1.size + D.size := by omega
        have hno' : ¬ 9223372036854775807 < (A ++ C1).size + D.size := by omega
        have hno1 : ¬ 9223372036854775807 < A.size + 1 + D.size := by omega
        go_simp
        exact hK _ W hG rfl (fun _ _ _ h => h)
      · have e11 := turnE_get (hp 11 (by decide)) (by decide) rfl
        simp only [e11] at hK ⊢
        go_simp
        go_at_call 13
        refine (HRT.out W).mono ?_
        rintro e W' ⟨⟨q3, rfl, _, _, _⟩, hb⟩
        go_simp
        exact hK _ W' (hG.trans (hb.mono hG.size)) ⟨_, rfl⟩ (fun _ _ _ h => turnE_keep hb h)
      · obtain ⟨x12, e12⟩ : ∃ x, t 12 = .tuple #[x, .int .i64 re] := hp 12 (by decide)
        simp only [e12] at hK ⊢
        go_simp
        exact hK _ W hG ⟨_, rfl⟩ (fun _ _ _ h => h)
      · obtain ⟨x13, e13⟩ : ∃ x, t 13 = .tuple #[x, .int .i64 re] := hp 13 (by decide)
        simp only [e13] at hK ⊢
        go_simp
        exact hK _ W hG trivial (fun _ _ _ h => h)
      · obtain ⟨x13, e13⟩ : ∃ x, t 13 = .tuple #[x, .int .i64 re] := hp 13 (by decide)
        simp only [e13] at hK ⊢
        go_simp
        exact hK _ W hG rfl (fun _ _ _ h => h)
    · have hpe' : (p.pkt.err != 0) = true := by simpa using hpe
      have htx : p.pkt.text = [] := by unfold Pkt.text; rw [if_neg hpe]
      rw [htx]
      generalize p.pkt.err = pe at *
      simp only [txt]
      clear hpe htx
      go_wp2
      go_ret
      exact ⟨rfl, HB6.out⟩
  · have hr' : (er == 0) = false := by simpa using hr
    have x0 := hb3.cell 0
    have x1 := hb3.cell 1
    have x2 := hb3.cell 2
    simp at x0 x1 x2
    clear hr hb3 her Hgood HW hst
    go_wp2_with fail
    rw [← HW3.out]
    obtain ⟨w5, hw5⟩ : ∃ w5, w5 = W3 := ⟨_, rfl⟩
    rw [← hw5] at HB3 Hb3 ⊢
    have HB5 := HB3
    have Hb5 := Hb3
    clear hw5 HB3 Hb3 HW3 x0 x1 x2
    have HP := hide (write_any p w5 (H.out.grown HB5.out))
    simp only [PktM.val, PktM.cells] at HP
    first
    | go_at_call 17
    | skip
    refine HP.out.mono ?_
    rintro e w6 ⟨rfl, hb6⟩
    have HB6 := hide (HB5.out.trans (hb6.mono HB5.out.size))
    have Hb6 := hide (Hb5.out.below hb6 Hb5.out.lt)
    have y0 := Hb6.out.cell 0
    have y1 := Hb6.out.cell 1
    have y2 := Hb6.out.cell 2
    simp at y0 y1 y2
    clear hb6 HB5 Hb5 HP
    by_cases hpe : p.pkt.err = 0
    · have hrd := readErr_bytes hpe
      have htx : p.pkt.text = p.pkt.bytes := by unfold Pkt.text; rw [if_pos hpe]
      have hpl := p.pkt.bytes_length
      have hpn := (Pkt.err_ok hpe).2
      have Hturn := hide (fun (i : Nat) (c : UInt8) (hi : i < p.pkt.bytes.length) (hc : c ≠ p.pkt.bytes[i]) => turned_ne hpe hi hc)
      rw [hpe, htx]
      obtain ⟨tl, htl⟩ : ∃ tl, tl = p.pkt.bytes := ⟨_, rfl⟩
      rw [← htl] at hrd hpl Hturn ⊢
      have HR7 := hide (read_any tl w6 (by unfold maxLen; omega))
      unfold ReadAns at HR7
      rw [hrd.1] at HR7
      have Hro : Hid ((readOf tl).same p.pkt) := hide (by unfold readOf; rw [if_pos hrd.1]; exact hrd.2)
      have hpn2 : p.pkt.n = p.n := rfl
      rw [hpn2] at hpn hpl
      have htsz : (ByteArray.mk tl.toArray).size = p.n + 6 := by rw [← hpl]; simp [ByteArray.size]
      have HG : Hid (∀ (i : Nat) (h : i < (ByteArray.mk tl.toArray).size), ((ByteArray.mk tl.toArray)[i]) = tl.getD i 0) := hide (fun i h => read_idx h)
      simp only [PktM.val, PktM.cells, txt] at HR7 ⊢
      generalize hts : ByteArray.mk tl.toArray = ts at *
      have Hts := hide hts
      clear hpe hrd htx htl hts hpn2
      go_wp2_with fail
      go_at_call 13
      refine HR7.out.mono ?_
      rintro e w7 ⟨⟨q2, rfl, hqs, hqi, _⟩, hb7⟩
      obtain ⟨W8, hW8⟩ : ∃ W8, W8 = w7.alloc (.cells #[.int .i64 q2.F, .int .i64 q2.T, .slice q2.ra q2.n q2.rc] 24) := ⟨_, rfl⟩
      have hB8 : Below w7.heap.size w7 W8 := by rw [hW8]; exact (Below.refl _ _).alloc (Nat.le_refl _) _
      have HB8 := hide ((HB6.out.trans (hb7.mono HB6.out.size)).trans (hB8.mono (by have := HB6.out.size; have := hb7.size; omega)))
      have hb8 := (Hb6.out.below hb7 Hb6.out.lt).below hB8 (by have := Hb6.out.lt; have := hb7.size; omega)
      have HSP := hide (samePacket_yes p q2 W8 (H.out.grown HB8.out) (hqi.grown hB8) (by
        have h1 := Hro.out
        exact ⟨(hqs.1.trans h1.1).symm, (hqs.2.1.trans h1.2.1).symm, (hqs.2.2.1.trans h1.2.2.1).symm, fun i hi => ((hqs.2.2.2 i (by have := hqs.2.2.1; have := h1.2.2.1; omega)).trans (h1.2.2.2 i (by have := h1.2.2.1; omega))).symm⟩))
      simp only [PktM.val, PktM.cells] at HSP
      rw [hW8] at hb8 HSP
      have v0 := hb8.cell 0
      have v1 := hb8.cell 1
      have v2 := hb8.cell 2
      simp at v0 v1 v2
      have HW8 := hide hW8
      clear hW8 hb7 hB8 hqs hqi Hro HB6 Hb6 HR7 hb8
      go_wp2_with fail
      first
      | go_at_call 16
      | skip
      refine HSP.out.mono ?_
      rintro e w9 ⟨rfl, hb9⟩
      rw [← HW8.out] at hb9
      have HB9 := hide (HB8.out.trans (hb9.mono HB8.out.size))
      clear hb9 HB8 HSP HW8 v0 v1 v2
      have HC1 := hide (choose_any at_ ((p.n : Int) + 6) w9 (by omega) (by omega) a0 a1)
      have hcv := chooseV_in (c := at_) (n := (p.n : Int) + 6) (by omega)
      have hdv := chooseV_in (c := by_) (n := 255) (by omega)
      have HC2 := hide (fun W => choose_any by_ 255 W (by omega) (by omega) b0 b1)
      generalize chooseV at_ ((p.n : Int) + 6) = cv at *
      generalize chooseV by_ 255 = dv at *
      obtain ⟨ca, hca⟩ : ∃ ca : Nat, cv = ca := ⟨cv.toNat, by omega⟩
      subst hca
      go_wp2_with fail
      first
      | go_at_call 18
      | skip
      refine HC1.out.mono ?_
      rintro e w10 ⟨rfl, hm10⟩
      have HB10 : Hid (Below w.heap.size w w10) := hide (by obtain ⟨m, rfl⟩ := hm10; exact below_drewN HB9.out m)
      clear hm10 HB9
      have hci : (ca : Int) < (ts.size : Int) := by omega
      have gct : ∀ h : ca < ts.size, (ts[ca]'h).toNat = (tl.getD ca 0).toNat := fun h => by rw [HG.out ca h]
      have hbt := (tl.getD ca 0).toNat_lt
      obtain ⟨bt, hbt'⟩ : ∃ bt, bt = (tl.getD ca 0).toNat := ⟨_, rfl⟩
      rw [← hbt'] at gct hbt
      have Hbt := hide hbt'
      clear hbt' HC1
      go_wp2_with fail
      go_quiet ((go_at_call 18; refine Calls.quiet_of (HC2.out _)))
      go_wp2
      obtain ⟨c8, hc8⟩ : ∃ c8 : Int, c8 = ((bt : Int) + (1 + dv)) % 256 := ⟨_, rfl⟩
      rw [← hc8]
      have hc0 : 0 ≤ c8 := by omega
      have hc1 : c8 < 256 := by omega
      have hcn : c8 ≠ bt := by omega
      have hcu := u8_toNat hc0 hc1
      obtain ⟨A, hA⟩ : ∃ A, A = ts.extract 0 ca := ⟨_, rfl⟩
      obtain ⟨D, hD⟩ : ∃ D, D = ts.extract (ca + 1) ts.size := ⟨_, rfl⟩
      obtain ⟨C1, hC1⟩ : ∃ C1, C1 = ByteArray.mk [u8 c8].toArray := ⟨_, rfl⟩
      have hcal : ca < tl.length := by omega
      have hAl : A = ByteArray.mk (tl.take ca).toArray := by rw [hA, ← Hts.out, ByteArray.extract_mk]; simp
      have hDl : D = ByteArray.mk (tl.drop (ca + 1)).toArray := by
        rw [hD, ← Hts.out, ByteArray.extract_mk]
        congr 2
        rw [List.take_of_length_le]
        simp [ByteArray.size]
      have hset : A ++ C1 ++ D = ByteArray.mk (tl.set ca (u8 c8)).toArray := by
        rw [hAl, hDl, hC1, ByteArray.mk_append_mk, ByteArray.mk_append_mk, List.set_eq_take_append_cons_drop, if_pos hcal]
        simp
      have hAs : A.size ≤ 60 := by rw [hAl]; simp [ByteArray.size]; omega
      have hDs : D.size ≤ 60 := by rw [hDl]; simp [ByteArray.size]; omega
      have hCs : C1.size = 1 := by rw [hC1]; simp [ByteArray.size]
      have HRT := hide (fun W => read_any (tl.set ca (u8 c8)) W (by rw [List.length_set]; unfold maxLen; omega))
      unfold ReadAns at HRT
      have Hne : Hid (readErr (tl.set ca (u8 c8)) ≠ 0) := hide (Hturn.out ca (u8 c8) hcal (fun e => by
        have e1 := Hbt.out
        rw [List.getD_eq_getElem?_getD, List.getElem?_eq_getElem hcal] at e1
        have e2 : (u8 c8).toNat = bt := by rw [e, e1]; rfl
        omega))
      simp only [txt, PktM.val, PktM.cells] at HRT
      rw [← hset] at HRT
      generalize readErr (tl.set ca (u8 c8)) = re at *
      have HcA := hide hA
      have HcD := hide hD
      have HcC := hide hC1
      have Hcu := hide hcu
      have hce : (ca : Int) ≤ (ts.size : Int) := by omega
      have hce1 : (ca : Int) + 1 ≤ (ts.size : Int) := by omega
      have hca60 : ca ≤ 60 := by omega
      have hca60i : (ca : Int) ≤ 60 := by omega
      clear hA hD hC1 hAl hDl hset Hturn Hbt hcu HG Hts hc8 htsz
      refine wp_region_last 16 _ (fun W => Below w.heap.size w W) (turnE [.string ts, .int .i64 ca, .string A, .int .u8 c8, undef, .string C1, .string (A ++ C1), .string ts, .int .i64 ca, .int .i64 ((ca : Int) + 1), .string D, .string (A ++ C1 ++ D)] c8 re) (fun v W => v = .int .i64 re ∧ Below w.heap.size w W) (fun _ _ _ => True)
        (by kernel_rfl) (by kernel_rfl) (by kernel_rfl) (by kernel_rfl) (by kernel_rfl) rfl (below_drewN HB10.out nq |>.trans ⟨rfl, rfl, rfl, Nat.le_refl _, fun _ _ => rfl⟩) ⟨?_, ?_, ?_, ?_, ?_, ?_, ?_, ?_, ?_, ?_, ?_, ?_, ?_, ?_, ?_, ?_, trivial⟩ ?_ trivial ?_
      have hre : (re != 0) = true := by simpa using Hne.out
      rotate_right
      · intro t W hG _
        obtain ⟨hv, hBW⟩ := hG
        have HBW := hide hBW
        clear hBW
        simp only [fill, Act.put, List.setIfInBounds_toArray, List.set_cons_zero, List.set_cons_succ, hv]
        go_wp2
        go_ret
        exact ⟨by first | rfl | (simp; exact Hne.out) | simp [Hne.out], HBW.out⟩
      rotate_right
      · intro t W hG hE _ K hK
        have e15 : t 15 = .int .i64 re := hE 15 (by omega)
        simp only [fill, Act.put, List.setIfInBounds_toArray, List.set_cons_zero, List.set_cons_succ, e15] at hK ⊢
        rw [if_pos (by rfl)]
        go_simp
        exact hK _ W ⟨rfl, hG⟩
      all_goals intro t W hG hp ht K hK
      all_goals clear ht
      all_goals simp only [fill, Act.put, List.setIfInBounds_toArray, List.set_cons_zero, List.set_cons_succ] at hK ⊢
      all_goals rw [if_pos (by rfl)]
      · go_simp
        exact hK _ W hG rfl (fun _ _ _ h => h)
      · go_simp
        exact hK _ W hG rfl (fun _ _ _ h => h)
      · have e0 := turnE_get (hp 0 (by decide)) (by decide) rfl
        have e1 := turnE_get (hp 1 (by decide)) (by decide) rfl
        simp only [e0, e1] at hK ⊢
        go_simp
        refine hK _ W hG ?_ (fun _ _ _ h => h)
        show some (Value.string A) = some _
        rw [HcA.out]
      · go_simp
        exact hK _ W hG rfl (fun _ _ _ h => h)
      · have e3 := turnE_get (hp 3 (by decide)) (by decide) rfl
        simp only [e3] at hK ⊢
        go_simp
        exact hK _ _ (hG.alloc hG.size _) ⟨W.heap.size, rfl, by simp, (Blk.new W #[.int .u8 c8] 5).cell 0⟩ (fun _ _ _ h => turnE_keep ((Below.refl _ W).alloc (Nat.le_refl _) _) h)
      · obtain ⟨g, e4, hg, hc⟩ : ∃ g : Nat, t 4 = .slice (some ⟨g, 0, none⟩) 1 1 ∧ g < W.heap.size ∧ W.cell? ⟨g, 0, none⟩ = some (.int .u8 c8) := hp 4 (by decide)
        have hcv := run_convert_bytes_back (P := Try.prog) W 34 9 5 ⟨g, 0, none⟩ 1 [u8 c8] Try.underlying34 Try.underlying5 Try.underlying9 (fun j hj => by
          obtain rfl : j = 0 := by simpa using hj
          rw [Go.WideShapes.add_plain]
          show W.cell? ⟨g, 0, none⟩ = some (.int .u8 ((u8 c8).toNat : Int))
          rw [Hcu.out]; exact hc)
        rw [← HcC.out] at hcv
        simp only [List.length_cons, List.length_nil, Nat.zero_add] at hcv
        simp only [e4] at hK ⊢
        go_simp
        exact hK _ W hG rfl (fun _ _ _ h => h)
      · have e2 := turnE_get (hp 2 (by decide)) (by decide) rfl
        have e5 := turnE_get (hp 5 (by decide)) (by decide) rfl
        simp only [e2, e5] at hK ⊢
        have hno : ¬ 9223372036854775807 < A.size + C1.size := by omega
        have hno1 : ¬ 9223372036854775807 < A.size + 1 := by omega
        go_simp
        exact hK _ W hG rfl (fun _ _ _ h => h)
      · go_simp
        exact hK _ W hG rfl (fun _ _ _ h => h)
      · go_simp
        exact hK _ W hG rfl (fun _ _ _ h => h)
      · have e8 := turnE_get (hp 8 (by decide)) (by decide) rfl
        simp only [e8] at hK ⊢
        go_simp
        refine hK _ W hG ?_ (fun _ _ _ h => h)
        show some (Value.int .i64 ((ca : Int) + 1)) = some (Value.int .i64 (IntKind.i64.wrap ((ca : Int) + 1)))
        rw [wrap_small (by omega) (by omega)]
      · have e7 := turnE_get (hp 7 (by decide)) (by decide) rfl
        have e9 := turnE_get (hp 9 (by decide)) (by decide) rfl
        simp only [e7, e9] at hK ⊢
        go_simp
        refine hK _ W hG ?_ (fun _ _ _ h => h)
        show some (Value.string D) = some _
        rw [HcD.out]
      · have e6 := turnE_get (hp 6 (by decide)) (by decide) rfl
        have e10 := turnE_get (hp 10 (by decide)) (by decide) rfl
        simp only [e6, e10] at hK ⊢
        have hsz : (A ++ C1).size = A.size + C1.size := ByteArray.size_append
        have hno : ¬ 9223372036854775807 < A.size + C1.size + D.size := by omega
        have hno' : ¬ 9223372036854775807 < (A ++ C1).size + D.size := by omega
        have hno1 : ¬ 9223372036854775807 < A.size + 1 + D.size := by omega
        go_simp
        exact hK _ W hG rfl (fun _ _ _ h => h)
      · have e11 := turnE_get (hp 11 (by decide)) (by decide) rfl
        simp only [e11] at hK ⊢
        go_simp
        go_at_call 13
        refine (HRT.out W).mono ?_
        rintro e W' ⟨⟨q3, rfl, _, _, _⟩, hb⟩
        go_simp
        exact hK _ W' (hG.trans (hb.mono hG.size)) ⟨_, rfl⟩ (fun _ _ _ h => turnE_keep hb h)
      · obtain ⟨x12, e12⟩ : ∃ x, t 12 = .tuple #[x, .int .i64 re] := hp 12 (by decide)
        simp only [e12] at hK ⊢
        go_simp
        exact hK _ W hG ⟨_, rfl⟩ (fun _ _ _ h => h)
      · obtain ⟨x13, e13⟩ : ∃ x, t 13 = .tuple #[x, .int .i64 re] := hp 13 (by decide)
        simp only [e13] at hK ⊢
        go_simp
        exact hK _ W hG trivial (fun _ _ _ h => h)
      · obtain ⟨x13, e13⟩ : ∃ x, t 13 = .tuple #[x, .int .i64 re] := hp 13 (by decide)
        simp only [e13] at hK ⊢
        go_simp
        exact hK _ W hG rfl (fun _ _ _ h => h)
    · have hpe' : (p.pkt.err != 0) = true := by simpa using hpe
      have htx : p.pkt.text = [] := by unfold Pkt.text; rw [if_neg hpe]
      rw [htx]
      generalize p.pkt.err = pe at *
      simp only [txt]
      clear hpe htx
      go_wp2
      go_ret
      exact ⟨rfl, HB6.out⟩

end Go.Proofs.Ytjhkadffaephmab
