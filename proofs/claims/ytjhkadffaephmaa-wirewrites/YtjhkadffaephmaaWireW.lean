/-
  wire.Write.
-/
import Derived.Test.YtjhkadffaephmaaWireM
namespace Go.Proofs.Ytjhkadffaephmaa
set_option maxRecDepth 100000
open Go.RowKit

theorem bytes_of_row {w : World} {base : Nat} {l : List UInt8} {g cap n : Nat} (h : w.ownsRow base 5 1 (.slice (some ⟨g, 0, none⟩) n cap) n (bytesL l)) : Bytes (some ⟨g, 0, none⟩) l g 0 w where
  addr := fun _ => rfl
  cell := fun i hi => by
    have hl := h.1
    rw [bytesL_len] at hl
    have := h.cellAt i (by omega)
    rw [bytesL_get hi] at this
    simpa using this

def Pkt.part (p : Pkt) (k : Nat) : List UInt8 := [83, u8 p.F, u8 p.T, u8 p.n] ++ (List.range k).map fun i => u8 (p.R i)
theorem Pkt.part_succ (p : Pkt) (k : Nat) : p.part (k + 1) = p.part k ++ [u8 (p.R k)] := by
  simp [Pkt.part, List.range_succ]
theorem Pkt.part_end (p : Pkt) : p.part p.n = p.body := rfl
theorem Pkt.part_len (p : Pkt) (k : Nat) : (p.part k).length = 4 + k := by simp [Pkt.part]; omega

set_option maxHeartbeats 4000000 in
theorem write_any (p : PktM) (w : World) (h : p.In w.heap.size w) :
    Calls Try.prog 52 #[p.val] w fun e w' => e = .returned (.tuple #[txt p.pkt.text, .int .i64 p.pkt.err]) ∧ Below w.heap.size w w' := by
  have hB0 : Below w.heap.size w (w.alloc (.cells p.cells 79)) := (Below.refl _ w).alloc (Nat.le_refl _) _
  have b0 := Blk.new w p.cells 79
  have hcf := calls_write1
  have HC := hide (containsFunc_ints 95 #[] p.ra p.n p.rc p.rb p.ro p.R (fun i => !inB (p.R i)) _ (h.grown hB0).ints (h.grown hB0).lt calls_write1 (fun i W hi hB => by
    refine (write1_any (p.R i) W).mono ?_
    rintro e w' ⟨rfl, rfl⟩
    exact ⟨rfl, Below.refl _ _⟩))
  have hany := p.pkt.routes_any
  have e1 : p.pkt.n = p.n := rfl
  have e2 : p.pkt.R = p.R := rfl
  rw [e1, e2] at hany
  rw [hany] at HC
  have hlen := h.small
  have H := hide h
  have HF : Hid (p.pkt.inRange = (inB p.F && inB p.T && p.pkt.routesIn)) := hide rfl
  have Hbad : Hid (p.pkt.inRange = false → p.pkt.err = 3 ∧ p.pkt.text = []) := hide (fun e => by
    have : p.pkt.err = 3 := by unfold Pkt.err; rw [if_pos e]
    exact ⟨this, by unfold Pkt.text; rw [this]; rfl⟩)
  have HB0 := hide hB0
  clear h hany e1 e2 hB0
  simp only [PktM.val, PktM.cells] at *
  go_enter Try.func52, Try.ntmps52
  go_wp2_with fail
  refine (write1_any _ _).mono ?_
  rintro e w1 ⟨rfl, rfl⟩
  by_cases hF : inB p.F = true
  · rw [hF]
    go_wp2_with fail
    refine (write1_any _ _).mono ?_
    rintro e w1 ⟨rfl, rfl⟩
    by_cases hT : inB p.T = true
    · rw [hT]
      go_wp2_with fail
      go_at_call 96
      refine HC.out.mono ?_
      rintro e w2 ⟨rfl, hb2⟩
      have hB2 := HB0.out.trans (hb2.mono HB0.out.size)
      have b2 := b0.below hb2 b0.lt
      have x0 := b2.cell 0
      have x1 := b2.cell 1
      have x2 := b2.cell 2
      simp at x0 x1 x2
      by_cases hR : p.pkt.routesIn = true
      · rw [hR]
        have hin : p.pkt.inRange = true := by rw [HF.out, hF, hT, hR]; rfl
        by_cases hn : 60 < p.n + 6
        · have Hfin : Hid (p.pkt.err = 2 ∧ p.pkt.text = []) := hide (by
            have : p.pkt.err = 2 := by unfold Pkt.err; rw [if_neg (by simp [hin]), if_pos (show 60 < p.pkt.n + 6 from hn)]
            exact ⟨this, by unfold Pkt.text; rw [this]; rfl⟩)
          have hni : (60 : Int) < 4 + (p.n : Int) + 2 := by omega
          have HB2 := hide hB2
          clear hn hin hF hT hR hB2 hb2 HC HF Hbad b0 b2
          go_wp2
          go_ret2
          exact ⟨by rw [Hfin.out.1, Hfin.out.2]; rfl, HB2.out⟩
        · have Hok : Hid (p.pkt.err = 0) := hide (Pkt.err_of hin (show p.pkt.n + 6 ≤ 60 by show p.n + 6 ≤ 60; omega))
          have hni : ¬ (60 : Int) < 4 + (p.n : Int) + 2 := by omega
          have hFb : 0 ≤ p.F ∧ p.F ≤ 250 := by unfold inB at hF; simpa using hF
          have hTb : 0 ≤ p.T ∧ p.T ≤ 250 := by unfold inB at hT; simpa using hT
          have HRb := hide (Pkt.routesIn_iff.1 hR)
          have Hpart : Hid (bytesL (p.pkt.part 0) = [.int .u8 83, .int .u8 p.F, .int .u8 p.T, .int .u8 (p.n : Int)]) := hide (by
            show [Value.int .u8 83, .int .u8 ((u8 p.F).toNat : Int), .int .u8 ((u8 p.T).toNat : Int), .int .u8 ((u8 (p.n : Int)).toNat : Int)] = _
            rw [u8_toNat hFb.1 (by omega), u8_toNat hTb.1 (by omega), u8_toNat (by omega) (by omega)])
          have hn54 : p.n ≤ 54 := by omega
          have hn54i : (p.n : Int) ≤ 54 := by omega
          have y2 : ∀ o, (w2.alloc o).cell? ⟨w.heap.size, 2, none⟩ = some (.slice p.ra p.n p.rc) := fun o => (b2.alloc o).cell 2
          obtain ⟨i0, hi0, hz0, hz1, hz2⟩ := info_parts Try.infoByte
          have HB2 := hide hB2
          have HI := hide (H.out.grown hB2)
          clear hF hT hR hin hB2 hb2 HC HF Hbad b0 HB0 H
          go_wp2
          go_loopw [5, 7, 45] (fun v _ q wr => ∃ k : Nat, k ≤ p.n ∧ q = .int .i64 k ∧ Hid (wr.ownsRow w2.heap.size 5 1 v (4 + k) (bytesL (p.pkt.part k))) ∧ Hid (Below w2.heap.size w2 wr)) (fun _ _ q _ => p.n - (intOf q).toNat)
          case atStart =>
            refine ⟨0, Nat.zero_le _, rfl, hide ⟨by rw [bytesL_len, Pkt.part_len], Or.inr ⟨w2.heap.size, 4, _, rfl, Nat.le_refl _, heap_alloc_new _ _, Nat.le_refl _, by decide, rfl, ?_⟩⟩, hide ((Below.refl _ _).alloc (Nat.le_refl _) _)⟩
            rw [Hpart.out]; rfl
          case round =>
            obtain ⟨k, hk, rfl, Hown, HB⟩ := hrel
            by_cases hlt : k < p.n
            · have hI := HI.out.below HB.out (Nat.le_refl _)
              have ha := hI.ints.addr (by omega)
              have hc := hI.ints.cell k hlt
              have hrb := HRb.out k hlt
              have hrb1 : 0 ≤ p.R k := hrb.1
              have hrb2 : p.R k ≤ 250 := hrb.2
              have Hv : Hid (bytesL [u8 (p.R k)] = [.int .u8 (p.R k)]) := hide (by
                show [Value.int .u8 ((u8 (p.R k)).toNat : Int)] = _
                rw [u8_toNat hrb1 (by omega)])
              have hki : (k : Int) < (p.n : Int) := by omega
              clear hI hrb
              go_wp2_with (at_builtin; refine wpList_append_lies _ rfl _ _ _ rfl w2.heap.size 5 i0 _ 1 1 Try.underlying131 hi0 hz0 hz1 hz2 rfl (by decide) _ (4 + k) _ rfl (Hown.out.alloc _) ⟨wr.heap.size, 0, none⟩ 1 1 [.int .u8 (p.R k)] rfl rfl ?c1 ?c2 (by decide) ?c3 ?c4 ?c5 _ rfl ?_)
              all_goals try (case c1 => exact World.news_of_block (Blk.new' (by simp)))
              all_goals try (case c2 => simp [Value.oneCell'])
              all_goals try (case c3 => unfold maxLen; omega)
              all_goals try (case c4 => omega)
              all_goals try (case c5 => have := HB.out.size; simp; omega)
              intro g' cap w4 hown2 hgrow hat2 hlt2
              have HB4 := hide ((HB.out.alloc HB.out.size (.cells #[.int .u8 (p.R k)] 5)).trans (grown_below hgrow (fun g hg => (Hown.out.lt g hg).1) (by have := HB.out.size; simp; omega)))
              have Hown4 : Hid (w4.ownsRow w2.heap.size 5 1 (.slice (some ⟨g', 0, none⟩) (4 + k + 1) cap) (4 + (k + 1)) (bytesL (p.pkt.part (k + 1)))) := hide (by
                rw [Pkt.part_succ, bytesL_append, show p.pkt.R k = p.R k from rfl, Hv.out]; exact hown2)
              clear hown2 hgrow hat2 hlt2 HB Hown
              go_wp2
              go_roundw
              case rel =>
                first
                | exact ⟨k + 1, by omega, by go_num, Hown4, HB4⟩
                | ((try rw [← ha]); (repeat apply Exists.intro); refine ⟨?_, rfl⟩; exact ⟨k + 1, by omega, by go_num, Hown4, HB4⟩)
              case measure => simp [intOf]; omega
            · have hkn : k = p.n := by omega
              subst hkn
              rw [show p.pkt.part p.n = p.pkt.body from rfl] at Hown
              rcases Go.Joins.ownsRow_forms Hown.out with ⟨rfl, e0⟩ | ⟨gb, cap, rfl⟩
              · omega
              have hbl : p.pkt.body.length = 4 + p.n := by rw [Pkt.body_length, Nat.add_comm]; rfl
              have HS := hide (sum_any (some ⟨gb, 0, none⟩) p.pkt.body cap gb 0 wr (bytes_of_row Hown.out) (by omega))
              rw [hbl] at HS
              have hs := sumOf_lt p.pkt.body
              have Hbytes : Hid (p.pkt.bytes = p.pkt.body ++ [UInt8.ofNat (sumOf p.pkt.body / 256), UInt8.ofNat (sumOf p.pkt.body % 256)]) := hide rfl
              generalize sumOf p.pkt.body = s at *
              go_wp2_with fail
              go_at_call 97
              refine HS.out.mono ?_
              rintro e w3 ⟨rfl, rfl⟩
              have hs256 : (s : Int) / 256 < 256 := by omega
              have hs0 : 0 ≤ (s : Int) / 256 := by omega
              go_wp2_with (at_builtin; refine wpList_append_lies _ rfl _ _ _ rfl w2.heap.size 5 i0 _ 1 1 Try.underlying131 hi0 hz0 hz1 hz2 rfl (by decide) _ (4 + p.n) _ rfl (Hown.out.alloc _) ⟨w3.heap.size, 0, none⟩ 2 2 [.int .u8 ((s : Int) / 256), .int .u8 ((s : Int) % 256)] rfl rfl ?c1 ?c2 (by decide) ?c3 ?c4 ?c5 _ rfl ?_)
              all_goals try (case c1 => exact World.news_of_block (Blk.new' (by simp)))
              all_goals try (case c2 => simp [Value.oneCell'])
              all_goals try (case c3 => unfold maxLen; omega)
              all_goals try (case c4 => omega)
              all_goals try (case c5 => have := HB.out.size; simp; omega)
              intro g' cap' w4 hown2 hgrow hat2 hlt2
              have HB4 := hide ((HB.out.alloc HB.out.size (.cells #[.int .u8 ((s : Int) / 256), .int .u8 ((s : Int) % 256)] 5)).trans (grown_below hgrow (fun g hg => (Hown.out.lt g hg).1) (by have := HB.out.size; simp; omega)))
              have HB5 := hide (HB2.out.trans (HB4.out.mono HB2.out.size))
              have hown3 : w4.ownsRow w2.heap.size 5 1 (.slice (some ⟨g', 0, none⟩) (4 + p.n + 2) cap') (4 + p.n + 2) (bytesL p.pkt.bytes) := by
                have e2 : bytesL [UInt8.ofNat (s / 256), UInt8.ofNat (s % 256)] = [.int .u8 ((s : Int) / 256), .int .u8 ((s : Int) % 256)] := by
                  show [Value.int .u8 ((UInt8.ofNat (s / 256)).toNat : Int), .int .u8 ((UInt8.ofNat (s % 256)).toNat : Int)] = _
                  rw [UInt8.toNat_ofNat', UInt8.toNat_ofNat', Nat.mod_eq_of_lt (by omega), Nat.mod_eq_of_lt (by omega)]
                  rfl
                rw [Hbytes.out, bytesL_append, e2]; exact hown2
              have hlb : p.pkt.bytes.length = 4 + p.n + 2 := by rw [Pkt.bytes_length]; show p.n + 6 = _; omega
              have hconv := run_convert_bytes_back (P := Try.prog) w4 131 9 5 ⟨g', 0, none⟩ cap' p.pkt.bytes Try.underlying131 Try.underlying5 Try.underlying9 (fun j hj => by rw [Go.WideShapes.add_plain]; exact (bytes_of_row hown3).cell j hj)
              rw [hlb] at hconv
              have Hfin : Hid (p.pkt.err = 0 ∧ p.pkt.text = p.pkt.bytes) := hide ⟨Hok.out, by unfold Pkt.text; rw [if_pos Hok.out]⟩
              clear hown2 hgrow hat2 hlt2 HB Hown hown3 HB4 HB2 HI HRb Hpart Hbytes hlb
              go_wp2
              go_ret2
              exact ⟨by rw [Hfin.out.1, Hfin.out.2]; rfl, HB5.out⟩
      · have hR' : p.pkt.routesIn = false := by simpa using hR
        have Hfin := hide (Hbad.out (by rw [HF.out, hR', Bool.and_false]))
        rw [hR']
        have HB2 := hide hB2
        clear hF hT hR hR' hB2 hb2 HC HF Hbad b0 b2
        go_wp2
        go_ret2
        exact ⟨by rw [Hfin.out.1, Hfin.out.2]; rfl, HB2.out⟩
    · have hT' : inB p.T = false := by simpa using hT
      have Hfin := hide (Hbad.out (by rw [HF.out, hT', Bool.and_false, Bool.false_and]))
      rw [hT']
      clear hF hT hT' HC HF Hbad
      go_wp2
      go_ret2
      exact ⟨by rw [Hfin.out.1, Hfin.out.2]; rfl, HB0.out⟩
  · have hF' : inB p.F = false := by simpa using hF
    have Hfin := hide (Hbad.out (by rw [HF.out, hF', Bool.false_and, Bool.false_and]))
    rw [hF']
    clear hF hF' HC HF Hbad
    go_wp2
    go_ret2
    exact ⟨by rw [Hfin.out.1, Hfin.out.2]; rfl, HB0.out⟩

end Go.Proofs.Ytjhkadffaephmaa
