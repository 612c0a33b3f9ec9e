/-
  The document's reckoning of packets: SumOf, WriteOf.
-/
import Derived.Test.YtjhkadffaephmaaWireR
namespace Go.Proofs.Ytjhkadffaephmaa
set_option maxRecDepth 100000
open Go.RowKit

set_option maxHeartbeats 1000000 in
theorem sumOf_any (l : List UInt8) (w : World) (hl : l.length ≤ 100) :
    Calls Try.prog 98 #[txt l] w fun e w' => e = .returned (.int .i64 ((sumOf l : Nat) : Int)) ∧ ∃ m, w' = w.drewN m := by
  have hsz : (ByteArray.mk l.toArray).size = l.length := by simp [ByteArray.size]
  have HG : Hid (∀ (k : Nat) (h : k < (ByteArray.mk l.toArray).size), (ByteArray.mk l.toArray)[k] = l.getD k 0) := hide (fun k h => read_idx h)
  have HE : Hid (sumOf (l.take l.length) = sumOf l) := hide (by rw [List.take_length])
  unfold txt
  generalize ByteArray.mk l.toArray = s at *
  go_enter Try.func98, Try.ntmps98
  go_wp2
  go_loop [3, 4] (fun s i => ∃ k : Nat, k ≤ l.length ∧ i = .int .i64 k ∧ s = .int .i64 ((sumOf (l.take k) : Nat) : Int)) (fun _ i => l.length - (intOf i).toNat)
  case atStart => exact ⟨0, Nat.zero_le _, rfl, rfl⟩
  case round =>
    obtain ⟨k, hk, rfl, rfl⟩ := hrel
    by_cases hlt : k < l.length
    · have hs := sumOf_lt (l.take k)
      have hb := (l[k]).toNat_lt
      have hg : ∀ h : k < s.size, (s[k]'h).toNat = (l[k]).toNat := fun h => by
        rw [HG.out k h, List.getD_eq_getElem?_getD, List.getElem?_eq_getElem hlt]; rfl
      have Hn : Hid (sumOf (l.take (k + 1)) = (31 * sumOf (l.take k) + (l[k]).toNat) % 65521) := hide (by rw [List.take_succ_eq_append_getElem hlt, sumOf_snoc]; rfl)
      generalize sumOf (l.take k) = sv at *
      generalize (l[k]).toNat = bv at *
      have hki : (k : Int) < (l.length : Int) := by omega
      go_wp2
      go_round
      case rel => exact ⟨k + 1, by omega, by go_num, by rw [Hn.out]; go_num⟩
      case measure => simp [intOf]; omega
    · have hkn : k = l.length := by omega
      subst hkn
      rw [HE.out]
      go_wp2
      go_ret
      exact ⟨rfl, 0, rfl⟩

/-- A slice of bytes that was just built, as a string. -/
theorem conv_lit (W : World) (l : List UInt8) (vs : Array Value) (hv : vs = (bytesL l).toArray) (n : Nat) (hn : n = l.length) :
    (convert 131 9 (.slice (some ⟨W.heap.size, 0, none⟩) n n)).run Try.prog (W.alloc (.cells vs 5)) = .ok (.string ⟨l.toArray⟩) (W.alloc (.cells vs 5)) := by
  subst hn hv
  refine run_convert_bytes_back (P := Try.prog) (W.alloc (.cells (bytesL l).toArray 5)) 131 9 5 ⟨W.heap.size, 0, none⟩ l.length l Try.underlying131 Try.underlying5 Try.underlying9 (fun j hj => ?_)
  rw [Go.WideShapes.add_plain, (Blk.new W (bytesL l).toArray 5).cell (0 + j)]
  simp [bytesL_get hj]

set_option maxHeartbeats 4000000 in
theorem writeOf_any (p : PktM) (w : World) (h : p.In w.heap.size w) :
    Calls Try.prog 53 #[p.val] w fun e w' => e = .returned (.tuple #[txt p.pkt.text, .int .i64 p.pkt.err]) ∧ Below w.heap.size w w' := by
  obtain ⟨W0, hW0⟩ : ∃ W0, W0 = w.alloc (.cells p.cells 79) := ⟨_, rfl⟩
  have hB0 : Below w.heap.size w W0 := by rw [hW0]; exact (Below.refl _ w).alloc (Nat.le_refl _) _
  have b0 : Blk W0 w.heap.size p.cells 79 := by rw [hW0]; exact Blk.new w _ _
  have hlen := h.small
  have H := hide (h.grown hB0)
  have HF : Hid (p.pkt.inRange = (inB p.F && inB p.T && p.pkt.routesIn)) := hide rfl
  have Hbad : Hid (p.pkt.inRange = false → p.pkt.err = 3 ∧ p.pkt.text = []) := hide (fun e => by
    have : p.pkt.err = 3 := by unfold Pkt.err; rw [if_pos e]
    exact ⟨this, by unfold Pkt.text; rw [this]; rfl⟩)
  have HB0 := hide hB0
  have Hb0 := hide b0
  have x0 := b0.cell 0
  have x1 := b0.cell 1
  have x2 := b0.cell 2
  clear h hB0 b0
  simp only [PktM.val, PktM.cells] at *
  simp at x0 x1 x2
  go_enter Try.func53, Try.ntmps53
  go_wp2_with fail
  rw [← hW0]
  clear hW0
  go_at_call 56
  refine (between_any _ _ _ _).mono ?_
  rintro e w1 ⟨rfl, rfl⟩
  rw [show (decide (0 ≤ p.F) && decide (p.F ≤ 250)) = inB p.F from rfl]
  by_cases hF : inB p.F = true
  · rw [hF]
    go_wp2_with fail
    go_at_call 56
    refine (between_any _ _ _ _).mono ?_
    rintro e w1 ⟨rfl, rfl⟩
    rw [show (decide (0 ≤ p.T) && decide (p.T ≤ 250)) = inB p.T from rfl]
    by_cases hT : inB p.T = true
    · rw [hT]
      go_wp2
      go_loop [4] (fun i => ∃ k : Nat, k ≤ p.n ∧ i = .int .i64 k ∧ Hid (∀ r, r < k → 0 ≤ p.R r ∧ p.R r ≤ 250)) (fun i => p.n - (intOf i).toNat)
      case atStart => exact ⟨0, Nat.zero_le _, rfl, hide (fun r hr => absurd hr (Nat.not_lt_zero _))⟩
      case round =>
        obtain ⟨k, hk, rfl, Hall⟩ := hrel
        by_cases hlt : k < p.n
        · have ha := H.out.ints.addr (by omega)
          have hc := H.out.ints.cell k hlt
          have hki : (k : Int) < (p.n : Int) := by omega
          go_wp2_with fail
          go_at_call 56
          refine (between_any _ _ _ _).mono ?_
          rintro e w1 ⟨rfl, rfl⟩
          by_cases hR : 0 ≤ p.R k ∧ p.R k ≤ 250
          · have hb : (decide (0 ≤ p.R k) && decide (p.R k ≤ 250)) = true := by simp [hR]
            rw [hb]
            have HN : Hid (∀ r, r < k + 1 → 0 ≤ p.R r ∧ p.R r ≤ 250) := hide (fun r hr => by
              by_cases e : r = k
              · subst e; exact hR
              · exact Hall.out r (by omega))
            clear hR hb
            go_wp2
            go_round
            case rel =>
              (try rw [← ha]); (try refine ⟨trivial, ?_⟩); (repeat apply Exists.intro); refine ⟨?_, rfl⟩; exact ⟨k + 1, by omega, by go_num, HN⟩
            case measure => simp [intOf]; omega
          · have hb : (decide (0 ≤ p.R k) && decide (p.R k ≤ 250)) = false := by simp; omega
            have Hfin := hide (Hbad.out (by rw [HF.out, Pkt.routesIn_false (p := p.pkt) hlt hR, Bool.and_false]))
            rw [hb]
            clear hR hb
            go_wp2
            go_ret2
            exact ⟨by rw [Hfin.out.1, Hfin.out.2]; rfl, HB0.out⟩
        · have hin : p.pkt.inRange = true := by
            have : p.pkt.routesIn = true := Pkt.routesIn_iff.2 (fun r hr => Hall.out r (by have : p.pkt.n = p.n := rfl; omega))
            rw [HF.out, hF, hT, this]; rfl
          by_cases hn : 60 < p.n + 6
          · have Hfin : Hid (p.pkt.err = 2 ∧ p.pkt.text = []) := hide (by
              have : p.pkt.err = 2 := by unfold Pkt.err; rw [if_neg (by simp [hin]), if_pos (show 60 < p.pkt.n + 6 from hn)]
              exact ⟨this, by unfold Pkt.text; rw [this]; rfl⟩)
            have hni : (60 : Int) < 6 + (p.n : Int) := by omega
            clear hn hin hF hT HF Hbad
            go_wp2
            go_ret2
            exact ⟨by rw [Hfin.out.1, Hfin.out.2]; rfl, HB0.out⟩
          · have Hok : Hid (p.pkt.err = 0) := hide (Pkt.err_of hin (show p.pkt.n + 6 ≤ 60 by show p.n + 6 ≤ 60; omega))
            have hni : ¬ (60 : Int) < 6 + (p.n : Int) := by omega
            have hFb : 0 ≤ p.F ∧ p.F ≤ 250 := by unfold inB at hF; simpa using hF
            have hTb : 0 ≤ p.T ∧ p.T ≤ 250 := by unfold inB at hT; simpa using hT
            have hn54 : p.n ≤ 54 := by omega
            have hn54i : (p.n : Int) ≤ 54 := by omega
            have hp0 : bytesL (p.pkt.part 0) = [.int .u8 83, .int .u8 p.F, .int .u8 p.T, .int .u8 (p.n : Int)] := by
              show [Value.int .u8 83, .int .u8 ((u8 p.F).toNat : Int), .int .u8 ((u8 p.T).toNat : Int), .int .u8 ((u8 (p.n : Int)).toNat : Int)] = _
              rw [u8_toNat hFb.1 (by omega), u8_toNat hTb.1 (by omega), u8_toNat (by omega) (by omega)]
            have hcv := conv_lit w1 (p.pkt.part 0) #[.int .u8 83, .int .u8 p.F, .int .u8 p.T, .int .u8 (p.n : Int)] (by rw [hp0]) 4 (by rw [Pkt.part_len])
            have Hall2 : Hid (∀ r, r < p.n → 0 ≤ p.R r ∧ p.R r ≤ 250) := hide (fun r hr => Hall.out r (by omega))
            clear hn hin hF hT HF Hbad hp0 Hall
            go_wp2
            go_loopw [5, 6] (fun v i wr => ∃ k : Nat, k ≤ p.n ∧ i = .int .i64 k ∧ v = .string ⟨(p.pkt.part k).toArray⟩ ∧ Hid (Below w1.heap.size w1 wr)) (fun _ i _ => p.n - (intOf i).toNat)
            case atStart => exact ⟨0, Nat.zero_le _, rfl, rfl, hide ((Below.refl _ _).alloc (Nat.le_refl _) _)⟩
            case round =>
              obtain ⟨k, hk, rfl, rfl, HB⟩ := hrel
              have hI := H.out.below HB.out (Nat.le_refl _)
              have bb := Hb0.out.below HB.out Hb0.out.lt
              have x2' := bb.cell 2
              simp at x2'
              have hpl := p.pkt.part_len k
              have hsz : (ByteArray.mk (p.pkt.part k).toArray).size = 4 + k := by simp [ByteArray.size, hpl]
              by_cases hlt : k < p.n
              · have ha := hI.ints.addr (by omega)
                have hc : ∀ o, (wr.alloc o).cell? ⟨p.rb, p.ro + k, none⟩ = some (.int .i64 (p.R k)) := fun o => by
                  exact (hI.below ((Below.refl _ wr).alloc HB.out.size o) (Nat.le_refl _)).ints.cell k hlt
                have hc' := hI.ints.cell k hlt
                have hki : (k : Int) < (p.n : Int) := by omega
                have hR := Hall2.out k hlt
                have hR1 := hR.1
                have hR2 := hR.2
                have hcv2 := conv_lit wr [u8 (p.R k)] #[.int .u8 (p.R k)] (by
                  show _ = #[Value.int .u8 ((u8 (p.R k)).toNat : Int)]
                  rw [u8_toNat hR.1 (by omega)]) 1 rfl
                have Happ : Hid (ByteArray.mk (p.pkt.part k).toArray ++ ByteArray.mk [u8 (p.R k)].toArray = ByteArray.mk (p.pkt.part (k + 1)).toArray) := hide (by
                  rw [ByteArray.mk_append_mk, Pkt.part_succ]; rfl)
                have hs1 : (ByteArray.mk [u8 (p.R k)].toArray).size = 1 := by simp [ByteArray.size]
                have HB2 := hide (HB.out.alloc HB.out.size (.cells #[.int .u8 (p.R k)] 5))
                generalize ByteArray.mk (p.pkt.part k).toArray = sa at *
                generalize ByteArray.mk [u8 (p.R k)].toArray = sb at *
                clear hI hR hpl bb HB hcv
                go_wp2
                go_roundw
                case rel =>
                  first
                  | exact ⟨k + 1, by omega, by go_num, by rw [Happ.out], HB2⟩
                  | ((try rw [← ha]); (repeat apply Exists.intro); refine ⟨?_, rfl⟩; exact ⟨k + 1, by omega, by go_num, by rw [Happ.out], HB2⟩)
                case measure => simp [intOf]; omega
              · have hkn : k = p.n := by omega
                subst hkn
                have HS := hide (sumOf_any (p.pkt.part p.n) wr (by omega))
                have hbt : p.pkt.bytes = p.pkt.part p.n ++ tailOf (sumOf (p.pkt.part p.n)) := rfl
                have hs := sumOf_lt (p.pkt.part p.n)
                generalize sumOf (p.pkt.part p.n) = s at *
                have hcv2 := fun m => conv_lit (wr.drewN m) [UInt8.ofNat (s / 256), UInt8.ofNat (s % 256)] #[.int .u8 ((s : Int) / 256), .int .u8 ((s : Int) % 256)] (by
                  show _ = #[Value.int .u8 ((UInt8.ofNat (s / 256)).toNat : Int), .int .u8 ((UInt8.ofNat (s % 256)).toNat : Int)]
                  rw [UInt8.toNat_ofNat', UInt8.toNat_ofNat', Nat.mod_eq_of_lt (by omega), Nat.mod_eq_of_lt (by omega)]
                  rfl) 2 rfl
                have Happ : Hid (ByteArray.mk (p.pkt.part p.n).toArray ++ ByteArray.mk [UInt8.ofNat (s / 256), UInt8.ofNat (s % 256)].toArray = ByteArray.mk p.pkt.bytes.toArray) := hide (by
                  rw [ByteArray.mk_append_mk, hbt]; rfl)
                have hs1 : (ByteArray.mk [UInt8.ofNat (s / 256), UInt8.ofNat (s % 256)].toArray).size = 2 := by simp [ByteArray.size]
                have Hfin : Hid (p.pkt.err = 0 ∧ p.pkt.text = p.pkt.bytes) := hide ⟨Hok.out, by unfold Pkt.text; rw [if_pos Hok.out]⟩
                simp only [txt] at HS ⊢
                generalize ByteArray.mk (p.pkt.part p.n).toArray = sa at *
                generalize ByteArray.mk [UInt8.ofNat (s / 256), UInt8.ofNat (s % 256)].toArray = sb at *
                have hs256 : (s : Int) / 256 < 256 := by omega
                have hs0 : 0 ≤ (s : Int) / 256 := by omega
                have hcv3 : ∀ m, (convert 131 9 (.slice (some ⟨wr.heap.size, 0, none⟩) 2 2)).run Try.prog ((wr.drewN m).alloc (.cells #[.int .u8 ((s : Int) / 256), .int .u8 ((s : Int) % 256)] 5)) = .ok (.string sb) ((wr.drewN m).alloc (.cells #[.int .u8 ((s : Int) / 256), .int .u8 ((s : Int) % 256)] 5)) := fun m => hcv2 m
                have HBw := hide (HB0.out.trans (HB.out.mono HB0.out.size))
                clear hI hpl bb HB hcv hbt
                go_wp2_with fail
                go_at_call 98
                refine HS.out.mono ?_
                rintro e w3 ⟨rfl, m, rfl⟩
                go_wp2
                go_ret2
                exact ⟨by rw [Hfin.out.1, Hfin.out.2]; unfold txt; rw [← Happ.out]; rfl, (below_drewN HBw.out m).alloc (below_drewN HBw.out m).size _⟩
    · have hT' : inB p.T = false := by simpa using hT
      have Hfin := hide (Hbad.out (by rw [HF.out, hT', Bool.and_false, Bool.false_and]))
      rw [hT']
      clear hF hT hT' HF Hbad
      go_wp2
      go_ret2
      exact ⟨by rw [Hfin.out.1, Hfin.out.2]; rfl, HB0.out⟩
  · have hF' : inB p.F = false := by simpa using hF
    have Hfin := hide (Hbad.out (by rw [HF.out, hF', Bool.false_and, Bool.false_and]))
    rw [hF']
    clear hF hF' HF Hbad
    go_wp2
    go_ret2
    exact ⟨by rw [Hfin.out.1, Hfin.out.2]; rfl, HB0.out⟩

end Go.Proofs.Ytjhkadffaephmaa
