/-
  Our own texts, bundled: a claim holds few files.
-/
import Derived.Test.YtjhkadffaephmabGreatCutEnginePlaysAE
import Derived.Test.YtjhkadffaephmabGreatCutEnginePlaysAI
import Derived.Test.YtjhkadffaephmabGreatCutEnginePlaysAJ
import Derived.Laws.BitsAllLaws
import Derived.Test.YtjhkadffaephmabGreatCutEnginePlaysBC
import Derived.Test.YtjhkadffaephmabGreatCutEnginePlaysAH
/-
  wire.Write.
-/
namespace Go.Proofs.YtjhkadffaephmabGreat
set_option maxRecDepth 100000
open Go.RowKit

theorem bytes_of_row {w : World} {base : Nat} {l : List UInt8} {g cap n : Nat} (h : w.ownsRow base 5 1 (.slice (some ⟨g, 0, none⟩) n cap) n (bytesL l)) : Bytes (some ⟨g, 0, none⟩) l g 0 w where
  addr := fun _ => rfl
  cell := fun i hi => by
    have hl := h.1
    rw [bytesL_len] at hl
    have := h.cellAt i (by omega)
    rw [bytesL_get hi] at this
    simpa using this

def Pkt.part (p : Pkt) (k : Nat) : List UInt8 := [83, u8 p.F, u8 p.T, u8 p.n] ++ (List.range k).map fun i => u8 (p.R i)
theorem Pkt.part_succ (p : Pkt) (k : Nat) : p.part (k + 1) = p.part k ++ [u8 (p.R k)] := by
  simp [Pkt.part, List.range_succ]
theorem Pkt.part_len (p : Pkt) (k : Nat) : (p.part k).length = 4 + k := by simp [Pkt.part]; omega

set_option maxHeartbeats 4000000 in
theorem write_any (p : PktM) (w : World) (h : p.In w.heap.size w) :
    Calls Tryz.prog 72 #[p.val] w fun e w' => e = .returned (.tuple #[txt p.pkt.text, .int .i64 p.pkt.err]) ∧ Below w.heap.size w w' := by
  have hB0 : Below w.heap.size w (w.alloc (.cells p.cells 76)) := (Below.refl _ w).alloc (Nat.le_refl _) _
  have b0 := Blk.new w p.cells 76
  have hcf := calls_write1
  have HC := hide (containsFunc_ints 91 #[] p.ra p.n p.rc p.rb p.ro p.R (fun i => !inB (p.R i)) _ (h.grown hB0).ints (h.grown hB0).lt calls_write1 (fun i W hi hB => by
    refine (write1_any (p.R i) W).mono ?_
    rintro e w' ⟨rfl, rfl⟩
    exact ⟨rfl, Below.refl _ _⟩))
  have hany := p.pkt.routes_any
  have e1 : p.pkt.n = p.n := rfl
  have e2 : p.pkt.R = p.R := rfl
  rw [e1, e2] at hany
  rw [hany] at HC
  have hlen := h.small
  have H := hide h
  have HF : Hid (p.pkt.inRange = (inB p.F && inB p.T && p.pkt.routesIn)) := hide rfl
  have Hbad : Hid (p.pkt.inRange = false → p.pkt.err = 3 ∧ p.pkt.text = []) := hide (fun e => by
    have : p.pkt.err = 3 := by unfold Pkt.err; rw [if_pos e]
    exact ⟨this, by unfold Pkt.text; rw [this]; rfl⟩)
  have HB0 := hide hB0
  clear h hany e1 e2 hB0
  simp only [PktM.val, PktM.cells] at *
  go_enter Tryz.func72, Tryz.ntmps72
  go_wp2_with fail
  refine (write1_any _ _).mono ?_
  rintro e w1 ⟨rfl, rfl⟩
  by_cases hF : inB p.F = true
  · rw [hF]
    go_wp2_with fail
    refine (write1_any _ _).mono ?_
    rintro e w1 ⟨rfl, rfl⟩
    by_cases hT : inB p.T = true
    · rw [hT]
      go_wp2_with fail
      go_at_call 83
      refine HC.out.mono ?_
      rintro e w2 ⟨rfl, hb2⟩
      have hB2 := HB0.out.trans (hb2.mono HB0.out.size)
      have b2 := b0.below hb2 b0.lt
      have x0 := b2.cell 0
      have x1 := b2.cell 1
      have x2 := b2.cell 2
      simp at x0 x1 x2
      by_cases hR : p.pkt.routesIn = true
      · rw [hR]
        have hin : p.pkt.inRange = true := by rw [HF.out, hF, hT, hR]; rfl
        by_cases hn : 60 < p.n + 6
        · have Hfin : Hid (p.pkt.err = 2 ∧ p.pkt.text = []) := hide (by
            have : p.pkt.err = 2 := by unfold Pkt.err; rw [if_neg (by simp [hin]), if_pos (show 60 < p.pkt.n + 6 from hn)]
            exact ⟨this, by unfold Pkt.text; rw [this]; rfl⟩)
          have hni : (60 : Int) < 4 + (p.n : Int) + 2 := by omega
          have HB2 := hide hB2
          clear hn hin hF hT hR hB2 hb2 HC HF Hbad b0 b2
          go_wp2
          go_ret2
          exact ⟨by rw [Hfin.out.1, Hfin.out.2]; rfl, HB2.out⟩
        · have Hok : Hid (p.pkt.err = 0) := hide (Pkt.err_of hin (show p.pkt.n + 6 ≤ 60 by show p.n + 6 ≤ 60; omega))
          have hni : ¬ (60 : Int) < 4 + (p.n : Int) + 2 := by omega
          have hFb : 0 ≤ p.F ∧ p.F ≤ 250 := by unfold inB at hF; simpa using hF
          have hTb : 0 ≤ p.T ∧ p.T ≤ 250 := by unfold inB at hT; simpa using hT
          have HRb := hide (Pkt.routesIn_iff.1 hR)
          have Hpart : Hid (bytesL (p.pkt.part 0) = [.int .u8 83, .int .u8 p.F, .int .u8 p.T, .int .u8 (p.n : Int)]) := hide (by
            show [Value.int .u8 83, .int .u8 ((u8 p.F).toNat : Int), .int .u8 ((u8 p.T).toNat : Int), .int .u8 ((u8 (p.n : Int)).toNat : Int)] = _
            rw [u8_toNat hFb.1 (by omega), u8_toNat hTb.1 (by omega), u8_toNat (by omega) (by omega)])
          have hn54 : p.n ≤ 54 := by omega
          have hn54i : (p.n : Int) ≤ 54 := by omega
          have y2 : ∀ o, (w2.alloc o).cell? ⟨w.heap.size, 2, none⟩ = some (.slice p.ra p.n p.rc) := fun o => (b2.alloc o).cell 2
          obtain ⟨i0, hi0, hz0, hz1, hz2⟩ := info_parts Tryz.infoByte
          have HB2 := hide hB2
          have HI := hide (H.out.grown hB2)
          clear hF hT hR hin hB2 hb2 HC HF Hbad b0 HB0 H
          go_wp2
          go_loopw [5, 7, 45] (fun v _ q wr => ∃ k : Nat, k ≤ p.n ∧ q = .int .i64 k ∧ Hid (wr.ownsRow w2.heap.size 5 1 v (4 + k) (bytesL (p.pkt.part k))) ∧ Hid (Below w2.heap.size w2 wr)) (fun _ _ q _ => p.n - (intOf q).toNat)
          case atStart =>
            refine ⟨0, Nat.zero_le _, rfl, hide ⟨by rw [bytesL_len, Pkt.part_len], Or.inr ⟨w2.heap.size, 4, _, rfl, Nat.le_refl _, heap_alloc_new _ _, Nat.le_refl _, by decide, rfl, ?_⟩⟩, hide ((Below.refl _ _).alloc (Nat.le_refl _) _)⟩
            rw [Hpart.out]; rfl
          case round =>
            obtain ⟨k, hk, rfl, Hown, HB⟩ := hrel
            by_cases hlt : k < p.n
            · have hI := HI.out.below HB.out (Nat.le_refl _)
              have ha := hI.ints.addr (by omega)
              have hc := hI.ints.cell k hlt
              have hrb := HRb.out k hlt
              have hrb1 : 0 ≤ p.R k := hrb.1
              have hrb2 : p.R k ≤ 250 := hrb.2
              have Hv : Hid (bytesL [u8 (p.R k)] = [.int .u8 (p.R k)]) := hide (by
                show [Value.int .u8 ((u8 (p.R k)).toNat : Int)] = _
                rw [u8_toNat hrb1 (by omega)])
              have hki : (k : Int) < (p.n : Int) := by omega
              clear hI hrb
              go_wp2_with (at_builtin; refine wpList_append_lies _ rfl _ _ _ rfl w2.heap.size 5 i0 _ 1 1 Tryz.underlying80 hi0 hz0 hz1 hz2 rfl (by decide) _ (4 + k) _ rfl (Hown.out.alloc _) ⟨wr.heap.size, 0, none⟩ 1 1 [.int .u8 (p.R k)] rfl rfl ?c1 ?c2 (by decide) ?c3 ?c4 ?c5 _ rfl ?_)
              all_goals try (case c1 => exact World.news_of_block (Blk.new' (by simp)))
              all_goals try (case c2 => simp [Value.oneCell'])
              all_goals try (case c3 => unfold maxLen; omega)
              all_goals try (case c4 => omega)
              all_goals try (case c5 => have := HB.out.size; simp; omega)
              intro g' cap w4 hown2 hgrow hat2 hlt2
              have HB4 := hide ((HB.out.alloc HB.out.size (.cells #[.int .u8 (p.R k)] 5)).trans (grown_below hgrow (fun g hg => (Hown.out.lt g hg).1) (by have := HB.out.size; simp; omega)))
              have Hown4 : Hid (w4.ownsRow w2.heap.size 5 1 (.slice (some ⟨g', 0, none⟩) (4 + k + 1) cap) (4 + (k + 1)) (bytesL (p.pkt.part (k + 1)))) := hide (by
                rw [Pkt.part_succ, bytesL_append, show p.pkt.R k = p.R k from rfl, Hv.out]; exact hown2)
              clear hown2 hgrow hat2 hlt2 HB Hown
              go_wp2
              go_roundw
              case rel =>
                first
                | exact ⟨k + 1, by omega, by go_num, Hown4, HB4⟩
                | ((try rw [← ha]); (repeat apply Exists.intro); refine ⟨?_, rfl⟩; exact ⟨k + 1, by omega, by go_num, Hown4, HB4⟩)
              case measure => simp [intOf]; omega
            · have hkn : k = p.n := by omega
              subst hkn
              rw [show p.pkt.part p.n = p.pkt.body from rfl] at Hown
              rcases Go.Joins.ownsRow_forms Hown.out with ⟨rfl, e0⟩ | ⟨gb, cap, rfl⟩
              · omega
              have hbl : p.pkt.body.length = 4 + p.n := by rw [Pkt.body_length, Nat.add_comm]; rfl
              have HS := hide (sum_any (some ⟨gb, 0, none⟩) p.pkt.body cap gb 0 wr (bytes_of_row Hown.out) (by omega))
              rw [hbl] at HS
              have hs := sumOf_lt p.pkt.body
              have Hbytes : Hid (p.pkt.bytes = p.pkt.body ++ [UInt8.ofNat (sumOf p.pkt.body / 256), UInt8.ofNat (sumOf p.pkt.body % 256)]) := hide rfl
              generalize sumOf p.pkt.body = s at *
              go_wp2_with fail
              go_at_call 92
              refine HS.out.mono ?_
              rintro e w3 ⟨rfl, rfl⟩
              have hs256 : (s : Int) / 256 < 256 := by omega
              have hs0 : 0 ≤ (s : Int) / 256 := by omega
              go_wp2_with (at_builtin; refine wpList_append_lies _ rfl _ _ _ rfl w2.heap.size 5 i0 _ 1 1 Tryz.underlying80 hi0 hz0 hz1 hz2 rfl (by decide) _ (4 + p.n) _ rfl (Hown.out.alloc _) ⟨w3.heap.size, 0, none⟩ 2 2 [.int .u8 ((s : Int) / 256), .int .u8 ((s : Int) % 256)] rfl rfl ?c1 ?c2 (by decide) ?c3 ?c4 ?c5 _ rfl ?_)
              all_goals try (case c1 => exact World.news_of_block (Blk.new' (by simp)))
              all_goals try (case c2 => simp [Value.oneCell'])
              all_goals try (case c3 => unfold maxLen; omega)
              all_goals try (case c4 => omega)
              all_goals try (case c5 => have := HB.out.size; simp; omega)
              intro g' cap' w4 hown2 hgrow hat2 hlt2
              have HB4 := hide ((HB.out.alloc HB.out.size (.cells #[.int .u8 ((s : Int) / 256), .int .u8 ((s : Int) % 256)] 5)).trans (grown_below hgrow (fun g hg => (Hown.out.lt g hg).1) (by have := HB.out.size; simp; omega)))
              have HB5 := hide (HB2.out.trans (HB4.out.mono HB2.out.size))
              have hown3 : w4.ownsRow w2.heap.size 5 1 (.slice (some ⟨g', 0, none⟩) (4 + p.n + 2) cap') (4 + p.n + 2) (bytesL p.pkt.bytes) := by
                have e2 : bytesL [UInt8.ofNat (s / 256), UInt8.ofNat (s % 256)] = [.int .u8 ((s : Int) / 256), .int .u8 ((s : Int) % 256)] := by
                  show [Value.int .u8 ((UInt8.ofNat (s / 256)).toNat : Int), .int .u8 ((UInt8.ofNat (s % 256)).toNat : Int)] = _
                  rw [UInt8.toNat_ofNat', UInt8.toNat_ofNat', Nat.mod_eq_of_lt (by omega), Nat.mod_eq_of_lt (by omega)]
                  rfl
                rw [Hbytes.out, bytesL_append, e2]; exact hown2
              have hlb : p.pkt.bytes.length = 4 + p.n + 2 := by rw [Pkt.bytes_length]; show p.n + 6 = _; omega
              have hconv := run_convert_bytes_back (P := Tryz.prog) w4 80 9 5 ⟨g', 0, none⟩ cap' p.pkt.bytes Tryz.underlying80 Tryz.underlying5 Tryz.underlying9 (fun j hj => by rw [Go.WideShapes.add_plain]; exact (bytes_of_row hown3).cell j hj)
              rw [hlb] at hconv
              have Hfin : Hid (p.pkt.err = 0 ∧ p.pkt.text = p.pkt.bytes) := hide ⟨Hok.out, by unfold Pkt.text; rw [if_pos Hok.out]⟩
              clear hown2 hgrow hat2 hlt2 HB Hown hown3 HB4 HB2 HI HRb Hpart Hbytes hlb
              go_wp2
              go_ret2
              exact ⟨by rw [Hfin.out.1, Hfin.out.2]; rfl, HB5.out⟩
      · have hR' : p.pkt.routesIn = false := by simpa using hR
        have Hfin := hide (Hbad.out (by rw [HF.out, hR', Bool.and_false]))
        rw [hR']
        have HB2 := hide hB2
        clear hF hT hR hR' hB2 hb2 HC HF Hbad b0 b2
        go_wp2
        go_ret2
        exact ⟨by rw [Hfin.out.1, Hfin.out.2]; rfl, HB2.out⟩
    · have hT' : inB p.T = false := by simpa using hT
      have Hfin := hide (Hbad.out (by rw [HF.out, hT', Bool.and_false, Bool.false_and]))
      rw [hT']
      clear hF hT hT' HC HF Hbad
      go_wp2
      go_ret2
      exact ⟨by rw [Hfin.out.1, Hfin.out.2]; rfl, HB0.out⟩
  · have hF' : inB p.F = false := by simpa using hF
    have Hfin := hide (Hbad.out (by rw [HF.out, hF', Bool.false_and, Bool.false_and]))
    rw [hF']
    clear hF hF' HC HF Hbad
    go_wp2
    go_ret2
    exact ⟨by rw [Hfin.out.1, Hfin.out.2]; rfl, HB0.out⟩

end Go.Proofs.YtjhkadffaephmabGreat

/-
 engine.spoil.
-/
namespace Go.Proofs.YtjhkadffaephmabGreat
set_option maxRecDepth 100000
open Go.RowKit

theorem mailsL_set : ∀ (l : List Mail) (i : Nat) (b : List UInt8), i < l.length → mailsL (l.set i { l.getD i noMail with b := b }) = (mailsL l).set (i * 3 + 2) (.string ⟨b.toArray⟩)
 | [], i, b, h => absurd h (Nat.not_lt_zero _)
 | m :: l, 0, b, _ => rfl
 | m :: l, i + 1, b, h => by
  have ih := mailsL_set l i b (by simpa using h)
  have e : mailsL (m :: l) = .int .i64 m.F :: .int .i64 m.T :: .string ⟨m.b.toArray⟩ :: mailsL l := rfl
  have e2 : mailsL ((m :: l).set (i + 1) { (m :: l).getD (i + 1) noMail with b := b }) = .int .i64 m.F :: .int .i64 m.T :: .string ⟨m.b.toArray⟩ :: mailsL (l.set i { l.getD i noMail with b := b }) := rfl
  rw [e, e2, ih, show (i + 1) * 3 + 2 = (i * 3 + 2) + 1 + 1 + 1 by omega]
  rfl

/-- The bytes of one mail are others. -/
theorem Live.setMail {base P N : Nat} {e : Eng} {Bv : Value} {y : Lay} {W : World} (h : Live base P N e Bv y W) {i g cap : Nat} (hi : i < e.bag.length) (hBv : Bv = .slice (some ⟨g, 0, none⟩) e.bag.length cap) (b : List UInt8) :
  Live base P N { e with bag := e.bag.set i { e.bag.getD i noMail with b := b } } Bv y (W.setCell ⟨g, i * 3 + 2, none⟩ (.string ⟨b.toArray⟩)) := by
 have hown : Bv.ownBlock = some g := by rw [hBv]; rfl
 obtain ⟨hgP, hgG, hgT⟩ := h.bv g hown
 have hws : (W.setCell ⟨g, i * 3 + 2, none⟩ (.string ⟨b.toArray⟩)).heap.size = W.heap.size := by simp
 have hoff : ∀ q, y.Off P N Bv W q → y.Off P N Bv (W.setCell ⟨g, i * 3 + 2, none⟩ (.string ⟨b.toArray⟩)) q := fun q hq => ⟨hq.p, hq.g, hq.t, hq.v, by rw [hws]; exact hq.lt, hq.lo⟩
 have hne : ∀ q, y.Off P N Bv W q → q ≠ g := fun q hq e1 => hq.v (by rw [e1]; exact hown)
 refine ⟨h.head.other (Ne.symm hgP) _ _, h.rtrs.other (Ne.symm hgG) _ _, h.r0, h.r1, fun r hr => (h.tolds r hr).other (Ne.symm (hgT r hr)) _ _, h.t0, fun r hr => ?_, fun r hr k hk ht => ?_, ?_, h.lp, h.lg, h.lt, h.pg, h.pt, h.gt, h.tt, h.bv, h.ylo⟩
 ·obtain ⟨h1, h2⟩ := h.routes r hr
  exact ⟨hoff _ h1, fun j hj => by rw [cell_other (hne _ h1)]; exact h2 j hj⟩
 ·obtain ⟨h1, h2, h3⟩ := h.rows r hr k hk ht
  exact ⟨h1, hoff _ h2, fun j hj => by rw [cell_other (hne _ h2)]; exact h3 j hj⟩
 ·show World.ownsRow _ base 69 3 Bv (e.bag.set i _).length (mailsL (e.bag.set i _))
  rw [mailsL_set e.bag i b hi, List.length_set]
  obtain ⟨hxl, ho2⟩ := h.bag
  rcases ho2 with ⟨h0, _⟩ | ⟨g', cap', cur, e1, hbase, hb, hn, hm, hcs, htk⟩
  ·rw [hBv] at h0; cases h0
  ·rw [hBv] at e1
   obtain ⟨rfl, rfl⟩ : g = g' ∧ cap = cap' := by simpa using e1
   refine ⟨by rw [List.length_set]; exact hxl, Or.inr ⟨g, cap, _, by rw [hBv], hbase, Blk.set hb (i * 3 + 2) (.string ⟨b.toArray⟩), hn, hm, by simpa using hcs, ?_⟩⟩
   rw [Array.toList_setIfInBounds, List.take_set, htk]

/-- Bytes that were made of a string. -/
theorem bytes_made (w : World) (l : List UInt8) : ∃ (cb : Nat) (W1 : World), (∀ u, u = w → (convert 9 80 (.string ⟨l.toArray⟩)).run Tryz.prog u = .ok (.slice (some ⟨w.heap.size, 0, none⟩) l.length cb) W1) ∧ Below w.heap.size w W1 ∧ W1.heap.size = w.heap.size + 1 ∧
  (∀ j (hj : j < l.length), W1.cell? ⟨w.heap.size, j, none⟩ = some (.int .u8 (l[j].toNat : Int)) ∧ W1.frozen? ⟨w.heap.size, j, none⟩ = false) := by
 have hsz : (ByteArray.mk l.toArray).size = l.length := by simp [ByteArray.size]
 have hr := run_bytes_of_string (P := Tryz.prog) w 9 80 5 ⟨l.toArray⟩ Tryz.underlying9 Tryz.underlying80 Tryz.underlying5
 rw [hsz] at hr
 refine ⟨_, _, fun u hu => by rw [hu]; exact hr, (show Below w.heap.size w w.drew from ⟨rfl, rfl, rfl, Nat.le_refl _, fun _ _ => rfl⟩).trans ((Below.refl _ w.drew).alloc (Nat.le_refl _) _), by show (w.heap.push _).size = _; simp, fun j hj => ⟨?_, ?_⟩⟩
 ·have := World.cell?_alloc_mark w.drew (bytesRow ⟨l.toArray⟩ (grownCap w l.length 0 5)) 5 ((bytesRow ⟨l.toArray⟩ (grownCap w l.length 0 5)).size, (bytesRow ⟨l.toArray⟩ (grownCap w l.length 0 5)).size + 1) j
  refine this.trans ?_
  rw [bytesRow_at ⟨l.toArray⟩ _ j (by simpa using hj)]
  simp
 ·have := World.frozen?_alloc_mark w.drew (bytesRow ⟨l.toArray⟩ (grownCap w l.length 0 5)) 5 (bytesRow ⟨l.toArray⟩ (grownCap w l.length 0 5)).size ((bytesRow ⟨l.toArray⟩ (grownCap w l.length 0 5)).size + 1) j
  refine this.trans ?_
  have h2 : l.length ≤ (bytesRow ⟨l.toArray⟩ (grownCap w l.length 0 5)).size := by
   unfold bytesRow; simp
  simp; omega

theorem spoil_byte (x : UInt8) {c : Int} (h1 : 1 ≤ c) (h2 : c ≤ 255) : bits .xor .u8 (x.toNat : Int) c = ((x ^^^ u8 c).toNat : Int) := by
 obtain ⟨k, rfl⟩ : ∃ k : Nat, c = k := ⟨c.toNat, by omega⟩
 rw [u8_xor_nat x.toNat k x.toNat_lt (by omega), UInt8.toNat_xor]
 have := u8_toNat (x := (k : Int)) (by omega) (by omega)
 have : (u8 (k : Int)).toNat = k := by omega
 rw [this]

set_option maxHeartbeats 4000000 in
theorem spoil_bad (base P N i : Nat) (b c : Int) (e : Eng) (Bv : Value) (y : Lay) (w : World) (hL : Live base P N e Bv y w) (hi : i < e.bag.length) (_hlen : (e.bag.getD i noMail).b.length ≤ 60) (_hm : e.bag.length ≤ 200)
  (hbad : (b < 0 ∨ ((e.bag.getD i noMail).b.length : Int) ≤ b) ∨ (c < 1 ∨ 255 < c)) :
  Calls Tryz.prog 77 #[.pointer (some ⟨P, 0, none⟩), .int .i64 i, .int .i64 b, .int .i64 c] w fun r w' => r = .returned (.int .i64 3) ∧ Live base P N e Bv y w' ∧ Below base w w' := by
 have hbw : base ≤ w.heap.size := Nat.le_of_lt (Nat.lt_of_le_of_lt hL.lp hL.head.lt)
 obtain ⟨g, cap, hBv, m0, m1, m2⟩ := hL.mail hi
 obtain ⟨cb, W1, hcv, hB1, hs1, hc1⟩ := bytes_made w (e.bag.getD i noMail).b
 have HF := hide (And.intro (hL.below hB1) (hB1.mono hbw))
 have p1 := hL.head.cell 1
 simp at p1
 rw [hBv] at p1
 have HS := hide (fun W => sbelow_any b ((e.bag.getD i noMail).b.length : Int) W)
 generalize (e.bag.getD i noMail).b = l at *
 generalize e.bag.length = len at *
 have hii : (i : Int) < (len : Int) := by omega
 have hcw := hcv w rfl
 obtain ⟨L, hL'⟩ : ∃ L, L = l.length := ⟨_, rfl⟩
 rw [← hL'] at hcw HS hbad _hlen
 clear hL hBv hbw hB1 hc1 hcv hL' m0 m1
 go_enter Tryz.func77, Tryz.ntmps77
 go_wp2_with fail
 go_at_call 62
 refine (HS.out _).mono ?_
 rintro r w2 ⟨rfl, rfl⟩
 by_cases h1 : b < 0 ∨ (L : Int) ≤ b
 ·have hv : (decide (0 ≤ b) && decide (b < (L : Int))) = false := by simp; omega
  rw [hv]
  clear hbad h1 hv HS
  go_wp2
  go_ret
  exact ⟨rfl, HF.out⟩
 have hv : (decide (0 ≤ b) && decide (b < (L : Int))) = true := by simp; omega
 rw [hv]
 by_cases h2 : c < 1
 ·clear hbad h1 hv HS
  go_wp2
  go_ret
  exact ⟨rfl, HF.out⟩
 have h3 : 255 < c := by omega
 have h2' : ¬ c < 1 := h2
 clear hbad h1 hv HS
 go_wp2
 go_ret
 exact ⟨rfl, HF.out⟩

set_option maxHeartbeats 4000000 in
theorem spoil_ok (base P N i pl : Nat) (c : Int) (e : Eng) (Bv : Value) (y : Lay) (w : World) (hL : Live base P N e Bv y w) (hi : i < e.bag.length) (_hlen : (e.bag.getD i noMail).b.length ≤ 60) (_hm : e.bag.length ≤ 200) (hpl : pl < (e.bag.getD i noMail).b.length) (hc1 : 1 ≤ c) (hc2 : c ≤ 255) :
  Calls Tryz.prog 77 #[.pointer (some ⟨P, 0, none⟩), .int .i64 i, .int .i64 pl, .int .i64 c] w fun r w' => r = .returned (.int .i64 0) ∧ Live base P N (e.spoil i pl (u8 c)) Bv y w' ∧ Below base w w' := by
 have hbw : base ≤ w.heap.size := Nat.le_of_lt (Nat.lt_of_le_of_lt hL.lp hL.head.lt)
 obtain ⟨g, cap, hBv, m0, m1, m2⟩ := hL.mail hi
 obtain ⟨cb, W1, hcv, hB1, hs1, hcs⟩ := bytes_made w (e.bag.getD i noMail).b
 obtain ⟨l, hl⟩ : ∃ l, l = (e.bag.getD i noMail).b := ⟨_, rfl⟩
 rw [← hl] at hcv hcs hpl _hlen m2
 obtain ⟨x, hx⟩ : ∃ x : UInt8, x = l[pl] := ⟨_, rfl⟩
 obtain ⟨xx, hxx⟩ : ∃ xx, xx = x ^^^ u8 c := ⟨_, rfl⟩
 obtain ⟨b2, hb2⟩ : ∃ b2, b2 = l.set pl xx := ⟨_, rfl⟩
 obtain ⟨W2, hW2⟩ : ∃ W2, W2 = W1.setCell ⟨w.heap.size, pl, none⟩ (.int .u8 (xx.toNat : Int)) := ⟨_, rfl⟩
 have hB2 : Below w.heap.size w W2 := by rw [hW2]; exact hB1.setCell (p := ⟨w.heap.size, pl, none⟩) (Nat.le_refl _) _
 have hB2d : Below w.heap.size w W2.drew := ⟨hB2.os, hB2.tape, hB2.output, hB2.size, hB2.block⟩
 have hL2 := hL.below hB2d
 have hl2 : b2.length = l.length := by rw [hb2, List.length_set]
 have hconv := run_convert_bytes_back (P := Tryz.prog) W2.drew 80 9 5 ⟨w.heap.size, 0, none⟩ cb b2 Tryz.underlying80 Tryz.underlying5 Tryz.underlying9 (fun j hj => by
  rw [Go.WideShapes.add_plain, Nat.zero_add]
  show W2.cell? ⟨w.heap.size, j, none⟩ = _
  rw [hW2]
  by_cases ej : j = pl
  ·subst ej
   rw [World.cell?_setCell_same _ _ _ (hcs j (by omega)).1]
   simp [hb2]
  ·rw [World.cell?_setCell_other _ _ _ _ (fun e3 => ej (by cases e3; rfl))]
   rw [(hcs j (by omega)).1]
   simp only [hb2, List.getElem_set_ne (Ne.symm ej)])
 rw [hl2] at hconv
 have hset := hL2.setMail hi hBv b2
 have he : ({ e with bag := e.bag.set i { e.bag.getD i noMail with b := b2 } } : Eng) = e.spoil i pl (u8 c) := by
  unfold Eng.spoil Mail.spoil
  have hgx : l.getD pl 0 = x := by rw [hx, List.getD_eq_getElem?_getD, List.getElem?_eq_getElem hpl]; rfl
  rw [← hl, hb2, hgx, hxx]
 rw [he] at hset
 obtain ⟨W3, hW3⟩ : ∃ W3, W3 = W2.drew.setCell ⟨g, i * 3 + 2, none⟩ (.string ⟨b2.toArray⟩) := ⟨_, rfl⟩
 rw [← hW3] at hset
 have hgb := (hL.bag.lt g (by rw [hBv]; rfl))
 have HF := hide (And.intro hset (show Below base w W3 by rw [hW3]; exact (hB2d.mono hbw).setCell (p := ⟨g, i * 3 + 2, none⟩) hgb.1 _))
 have p1 := hL.head.cell 1
 have z1 := hL2.head.cell 1
 simp at p1 z1
 rw [hBv] at p1 z1
 have y1 := hL.mail hi
 obtain ⟨_, _, hq, _, _, k2⟩ := hL2.mail hi
 rw [hBv] at hq
 obtain ⟨rfl, rfl⟩ : g = _ ∧ cap = _ := by simpa using hq
 have kf : W2.drew.frozen? ⟨g, i * 3 + 2, none⟩ = false := by
  obtain ⟨_, ho2⟩ := hL2.bag
  rcases ho2 with ⟨h0, _⟩ | ⟨g', cap', cur, e1, hbase, hb, _⟩
  ·rw [hBv] at h0; cases h0
  ·rw [hBv] at e1
   obtain ⟨rfl, rfl⟩ : g = g' ∧ cap = cap' := by simpa using e1
   exact Blk.frozen hb _
 have HS := hide (fun W => sbelow_any (pl : Int) (l.length : Int) W)
 have hv : (decide (0 ≤ (pl : Int)) && decide ((pl : Int) < (l.length : Int))) = true := by simp; omega
 rw [hv] at HS
 have hbx := (spoil_byte x hc1 hc2)
 rw [← hxx] at hbx
 have hwr : IntKind.u8.wrap c = c := wrap_u8 (by omega) (by omega)
 have hcell := (hcs pl hpl).1
 have hfro := (hcs pl hpl).2
 rw [← hx] at hcell
 have hxl := x.toNat_lt
 have hcw := hcv w rfl
 have HW2 := hide hW2
 have HW3 := hide hW3
 generalize e.bag.length = len at *
 have hii : (i : Int) < (len : Int) := by omega
 obtain ⟨L, hL'⟩ : ∃ L, L = l.length := ⟨_, rfl⟩
 rw [← hL'] at hcw HS hpl _hlen hconv
 have hpi : (pl : Int) < (L : Int) := by omega
 have h1c : ¬ c < 1 := by omega
 have h2c : ¬ 255 < c := by omega
 have HB := hide hbx
 clear hL hBv hbw hB1 hcv hcs hL' m0 m1 hl hx hxx hb2 hW2 hB2 hB2d hL2 hl2 hset he hW3 hgb y1 hq hv hbx hs1
 go_enter Tryz.func77, Tryz.ntmps77
 go_wp2_with fail
 go_at_call 62
 refine (HS.out _).mono ?_
 rintro r w2 ⟨rfl, rfl⟩
 have hbx := HB.out
 have hxp := xx.toNat_lt
 go_wp2
 rw [← HW2.out]
 refine wp_region_last 9 _ (fun W => W = W2.drew) (valsE [.pointer (some ⟨P, 0, none⟩), .pointer (some ⟨P, 0, none⟩), .pointer (some ⟨P, 1, none⟩), .slice (some ⟨g, 0, none⟩) len cap, .int .i64 (i : Int), .slice (some ⟨w.heap.size, 0, none⟩) L cb, .string ⟨b2.toArray⟩, .pointer (some ⟨g, i * 3, none⟩), .pointer (some ⟨g, i * 3 + 2, none⟩)]) (fun _ W => W = W3) (fun _ _ _ => True) (by kernel_rfl) (by kernel_rfl) (by kernel_rfl) (by kernel_rfl) (by kernel_rfl) rfl rfl ⟨?_, ?_, ?_, ?_, ?_, ?_, ?_, ?_, ?_, trivial⟩ ?_ trivial ?_
 rotate_right
 ·intro t W hG _
  simp only [fill, Act.put, List.setIfInBounds_toArray, List.set_cons_zero, List.set_cons_succ]
  subst hG
  go_wp2
  go_ret
  exact ⟨rfl, HF.out⟩
 rotate_right
 ·intro t W hG hE _ K hK
  have e6 := valsE_get (hE 6 (by omega)) rfl
  have e8 := valsE_get (hE 8 (by omega)) rfl
  subst hG
  simp only [fill, Act.put, List.setIfInBounds_toArray, List.set_cons_zero, List.set_cons_succ, e6, e8] at hK ⊢
  rw [if_pos (by rfl)]
  go_simp
  exact hK undef _ HW3.out.symm
 all_goals intro t W hG hp ht K hK
 all_goals clear ht
 all_goals subst hG
 all_goals simp only [fill, Act.put, List.setIfInBounds_toArray, List.set_cons_zero, List.set_cons_succ] at hK ⊢
 ·rw [if_pos (by rfl)]
  go_simp
  exact hK _ _ rfl rfl (fun _ _ _ h => h)
 ·have e0 := valsE_get (hp 0 (by decide)) rfl
  simp only [e0] at hK ⊢
  rw [if_pos (by rfl)]
  go_simp
  exact hK _ _ rfl rfl (fun _ _ _ h => h)
 ·have e1 := valsE_get (hp 1 (by decide)) rfl
  simp only [e1] at hK ⊢
  rw [if_pos (by rfl)]
  go_simp
  exact hK _ _ rfl rfl (fun _ _ _ h => h)
 ·have e2 := valsE_get (hp 2 (by decide)) rfl
  simp only [e2] at hK ⊢
  rw [if_pos (by rfl)]
  go_simp
  exact hK _ _ rfl rfl (fun _ _ _ h => h)
 ·rw [if_pos (by rfl)]
  go_simp
  exact hK _ _ rfl rfl (fun _ _ _ h => h)
 ·rw [if_pos (by rfl)]
  go_simp
  exact hK _ _ rfl rfl (fun _ _ _ h => h)
 ·have e5 := valsE_get (hp 5 (by decide)) rfl
  simp only [e5] at hK ⊢
  rw [if_pos (by rfl)]
  go_simp
  exact hK _ _ rfl rfl (fun _ _ _ h => h)
 ·have e3 := valsE_get (hp 3 (by decide)) rfl
  have e4 := valsE_get (hp 4 (by decide)) rfl
  simp only [e3, e4] at hK ⊢
  rw [if_pos (by rfl)]
  go_simp
  exact hK _ _ rfl rfl (fun _ _ _ h => h)
 ·have e7 := valsE_get (hp 7 (by decide)) rfl
  simp only [e7] at hK ⊢
  rw [if_pos (by rfl)]
  go_simp
  exact hK _ _ rfl rfl (fun _ _ _ h => h)

end Go.Proofs.YtjhkadffaephmabGreat

/-
  engine.tick.
-/
namespace Go.Proofs.YtjhkadffaephmabGreat
set_option maxRecDepth 100000
open Go.RowKit

/-- Numbers in a row of one's own. -/
theorem own_nats {W : World} {b : Nat} {v : Value} {K : List Nat} (h : W.ownsRow b 3 1 v K.length (natsL K)) :
    ∃ (ta : Option Addr) (tc gt : Nat), v = .slice ta K.length tc ∧ (0 < K.length → ta = some ⟨gt, 0, none⟩ ∧ b ≤ gt ∧ gt < W.heap.size ∧ ∀ k, k < K.length → W.cell? ⟨gt, k, none⟩ = some (.int .i64 ((K.getD k 0 : Nat) : Int))) := by
  rcases Go.Joins.ownsRow_forms h with ⟨e0, e1⟩ | ⟨g, cap, e1⟩
  · exact ⟨none, 0, 0, by rw [e0, e1], fun h0 => by omega⟩
  · refine ⟨some ⟨g, 0, none⟩, cap, g, e1, fun h0 => ⟨rfl, (h.lt g (by rw [e1]; rfl)).1, (h.lt g (by rw [e1]; rfl)).2, fun k hk => ?_⟩⟩
    rw [e1] at h
    rw [h.cellAt k (by omega)]
    simp [natsL, List.getD_eq_getElem?_getD, List.getElem?_eq_getElem hk]

set_option maxHeartbeats 2000000 in
theorem tick_many (n : NetM) (base P N i : Nat) (e : Eng) (Bv : Value) (y : Lay) (w : World) (h : n.In base w) (hck : n.net.check = 0) (hN : n.nodes = N) (hL : Live base P N e Bv y w) (hm : e.bag.length ≤ 120) (hK : 120 < e.bag.length + (n.net.hearers i).length) :
    Calls Tryz.prog 41 #[n.val, .pointer (some ⟨P, 0, none⟩), .int .i64 i] w fun r w' => r = .returned (.int .i64 2) ∧ Live base P N e Bv y w' ∧ Below base w w' := by
  have hbw : base ≤ w.heap.size := Nat.le_of_lt (Nat.lt_of_le_of_lt hL.lp hL.head.lt)
  have hk6 : (n.net.hearers i).length ≤ 6 := by
    have := n.net.hearers_le i
    have g := Net.good_of_check hck
    have := g.hi
    have := Net.nodes_N g
    omega
  obtain ⟨W1, hW1⟩ : ∃ W1, W1 = w.alloc (.cells n.cells 27) := ⟨_, rfl⟩
  have hB1 : Below w.heap.size w W1 := by rw [hW1]; exact (Below.refl _ w).alloc (Nat.le_refl _) _
  have b3 : Blk W1 w.heap.size n.cells 27 := by rw [hW1]; exact Blk.new w _ _
  have HH := hide (hearers_any n i W1 ((h.below (hB1.mono hbw) (Nat.le_refl _)).mono (Nat.le_trans hbw hB1.size)) hck)
  have HX : Hid (∀ W, Below W1.heap.size W1 W → Live base P N e Bv y W ∧ Below base w W) := hide (fun W hb => ⟨(hL.below hB1).below hb, (hB1.mono hbw).trans (hb.mono (Nat.le_trans hbw hB1.size))⟩)
  obtain ⟨bl, hbl⟩ : ∃ bl bc, Bv = .slice bl e.bag.length bc := by
    rcases Go.Joins.ownsRow_forms hL.bag with ⟨e0, e1⟩ | ⟨g, cap, e1⟩
    · exact ⟨none, 0, by rw [e0, e1]⟩
    · exact ⟨_, _, e1⟩
  obtain ⟨bc, hbl⟩ := hbl
  have HL := hide (hL.below hB1)
  have Hbl := hide hbl
  have hcells : n.cells = #[.int .i64 n.a.size, .slice n.a.B.ga n.a.B.t.len n.a.B.cap, .slice n.a.E.ga n.a.E.t.len n.a.E.cap, .int .i64 N, .slice n.la n.ln n.lc] := by simp only [NetM.cells, Mat.val, hN]
  rw [hcells] at hW1
  rw [NetM.val, hcells, hW1] at HH
  rw [NetM.val, hcells]
  generalize n.net.hearers i = K at *
  generalize e.bag.length = len at *
  have HW1 := hide hW1
  clear h hck hN hL hbw hB1 b3 hbl hcells hW1
  go_enter Tryz.func41, Tryz.ntmps41
  go_wp2_with fail
  go_at_call 70
  refine HH.out.mono ?_
  rw [← HW1.out]
  rintro r W2 ⟨⟨v, rfl, hv⟩, hb2⟩
  obtain ⟨ta, tc, gt, rfl, _⟩ := own_nats hv
  have HF := hide (HX.out W2 hb2)
  have p1 := HF.out.1.head.cell 1
  simp at p1
  rw [Hbl.out] at p1
  have hki : (120 : Int) < (len : Int) + (K.length : Int) := by omega
  generalize K.length = kl at *
  clear hb2 hv HX HH
  go_wp2
  go_ret
  exact ⟨rfl, HF.out⟩

/-- Behind so many tellings. -/
structure TickI (base P N : Nat) (n : Net) (e1 : Eng) (i : Nat) (K : List Nat) (y3 : Lay) (gt k : Nat) (wr : World) : Prop where
  live : ∃ Bvk, Live base P N { e1 with bag := e1.bag ++ (K.take k).map fun q => e1.mail n i q } Bvk y3 wr ∧ (0 < K.length → Bvk.ownBlock ≠ some gt)
  lt : 0 < K.length → gt < wr.heap.size ∧ gt ≠ P
  cell : ∀ j, j < K.length → wr.cell? ⟨gt, j, none⟩ = some (.int .i64 ((K.getD j 0 : Nat) : Int))

theorem take_snoc (K : List Nat) (f : Nat → Mail) (k : Nat) (hk : k < K.length) : (K.take (k + 1)).map f = (K.take k).map f ++ [f (K.getD k 0)] := by
  rw [List.take_add_one, List.getElem?_eq_getElem hk, List.map_append, List.getD_eq_getElem?_getD, List.getElem?_eq_getElem hk]
  rfl

set_option maxHeartbeats 4000000 in
theorem tick_ok (n : NetM) (base P N i : Nat) (e : Eng) (Bv : Value) (y : Lay) (w : World) (h : n.In base w) (hck : n.net.check = 0) (hN : n.nodes = N) (hL : Live base P N e Bv y w) (hfit : e.Fit n.net) (hi : i < N) (hK : e.bag.length + (n.net.hearers i).length ≤ 120) :
    Calls Tryz.prog 41 #[n.val, .pointer (some ⟨P, 0, none⟩), .int .i64 i] w fun r w' => r = .returned (.int .i64 0) ∧ (∃ Bv' y', Live base P N (e.tick n.net i) Bv' y' w') ∧ Below base w w' := by
  have hbw : base ≤ w.heap.size := Nat.le_of_lt (Nat.lt_of_le_of_lt hL.lp hL.head.lt)
  have g := Net.good_of_check hck
  have hi6 := g.hi
  have hNN : n.net.N = N := by show n.nodes.toNat = N; omega
  have hN6 : N ≤ 6 := by have : n.net.nodes = n.nodes := rfl; omega
  obtain ⟨i0, hi0, hq⟩ : ∃ i, Tryz.prog.info? 69 = some i ∧ (i.zero.map (fun z => z.cells.size), i.size, i.bytes) = (some 3, 3, 32) := Option.map_eq_some_iff.1 Tryz.infoMail
  obtain ⟨z, hz, hzs⟩ : ∃ z, i0.zero = some z ∧ z.cells.size = 3 := by
    have := congrArg Prod.fst hq
    simpa [Option.map_eq_some_iff] using this
  have hsz : i0.size = 3 := congrArg (fun x => x.2.1) hq
  have hby : i0.bytes = 32 := congrArg (fun x => x.2.2) hq
  obtain ⟨W1, hW1⟩ : ∃ W1, W1 = w.alloc (.cells n.cells 27) := ⟨_, rfl⟩
  have hB1 : Below w.heap.size w W1 := by rw [hW1]; exact (Below.refl _ w).alloc (Nat.le_refl _) _
  have b3 : Blk W1 w.heap.size n.cells 27 := by rw [hW1]; exact Blk.new w _ _
  have HH := hide (hearers_any n i W1 ((h.below (hB1.mono hbw) (Nat.le_refl _)).mono (Nat.le_trans hbw hB1.size)) hck)
  obtain ⟨bl, hbl⟩ : ∃ bl bc, Bv = .slice bl e.bag.length bc := by
    rcases Go.Joins.ownsRow_forms hL.bag with ⟨e0, e1⟩ | ⟨g, cap, e1⟩
    · exact ⟨none, 0, by rw [e0, e1]⟩
    · exact ⟨_, _, e1⟩
  obtain ⟨bc, hbl⟩ := hbl
  have hL1 := hL.below hB1
  have HL := hide hL1
  have Hbl := hide hbl
  have hcells : n.cells = #[.int .i64 n.a.size, .slice n.a.B.ga n.a.B.t.len n.a.B.cap, .slice n.a.E.ga n.a.E.t.len n.a.E.cap, .int .i64 N, .slice n.la n.ln n.lc] := by simp only [NetM.cells, Mat.val, hN]
  have HLk := hide (fun W (hb : Below W1.heap.size W1 W) => engLook_all n base P N i e Bv y W (h.below ((hB1.mono hbw).trans (hb.mono (Nat.le_trans hbw hB1.size))) (Nat.le_refl _)) hck hN (hL1.below hb) hfit hi)
  have HBw : Hid (∀ W, Below W1.heap.size W1 W → Below base w W) := hide (fun W hb => (hB1.mono hbw).trans (hb.mono (Nat.le_trans hbw hB1.size)))
  have Hb3 := hide b3
  rw [hcells] at hW1
  rw [NetM.val, hcells, hW1] at HH
  rw [NetM.val, hcells] at HLk
  have HW1 := hide hW1
  obtain ⟨K, hKe⟩ : ∃ K, K = n.net.hearers i := ⟨_, rfl⟩
  rw [← hKe] at HH hK
  have Het : Hid (e.tick n.net i = { e.look n.net i with bag := e.bag ++ K.map fun k => (e.look n.net i).mail n.net i k }) := hide (by rw [hKe]; rfl)
  have Hcells := hide hcells
  have hbwH := hide hbw
  rw [NetM.val, hcells]
  obtain ⟨len, hlen⟩ : ∃ len, len = e.bag.length := ⟨_, rfl⟩
  rw [← hlen] at hK Hbl
  have Hlen := hide hlen
  have hbw1 : base ≤ W1.heap.size := Nat.le_trans hbw hB1.size
  clear h hck hN hL hL1 hbw hB1 b3 hbl hcells hW1 hfit hq hKe hlen
  go_enter Tryz.func41, Tryz.ntmps41
  go_wp2_with fail
  go_at_call 70
  refine HH.out.mono ?_
  rw [← HW1.out]
  rintro r W2 ⟨⟨v, rfl, hv⟩, hb2⟩
  obtain ⟨ta, tc, gt, rfl, hto⟩ := own_nats hv
  have hL2 := HL.out.below hb2
  have p1 := hL2.head.cell 1
  have q3 := Hb3.out.below hb2 Hb3.out.lt
  have x0 := q3.cell 0
  have x1 := q3.cell 1
  have x2 := q3.cell 2
  have x3 := q3.cell 3
  have x4 := q3.cell 4
  simp only [Hcells.out] at x0 x1 x2 x3 x4
  simp at p1 x0 x1 x2 x3 x4
  rw [Hbl.out] at p1
  have hki : ¬ (120 : Int) < (len : Int) + (K.length : Int) := by omega
  have Hto := hide hto
  have hgt : 0 < K.length → y.Off P N Bv W2 gt := fun h0 => by
    obtain ⟨_, h1, h2, _⟩ := hto h0
    have hl1 := HL.out
    exact ⟨by have := hl1.head.lt; omega, by have := hl1.rtrs.lt; omega, fun k hk => by have := (hl1.tolds k hk).lt; omega, fun hv => by have := (hl1.bag.lt _ hv).2; omega, h2, by have := hl1.ylo; have := hl1.head.lt; omega⟩
  have Hgt := hide hgt
  have HC := hide (HLk.out W2 hb2)
  have HB2 := hide (HBw.out W2 hb2)
  obtain ⟨kl, hkl⟩ : ∃ kl, kl = K.length := ⟨_, rfl⟩
  rw [← hkl] at hki Hto Hgt hK
  rw [← hkl]
  have Hkl := hide hkl
  clear hb2 hv HH HL hL2 q3 hto hgt HLk HBw hkl
  go_wp2_with fail
  go_at_call 71
  refine HC.out.mono ?_
  rintro r W3 ⟨rfl, ⟨y3, hl3, hyG, hyT⟩, hb3, hk3⟩
  have Hto3 : Hid (0 < kl → ta = some ⟨gt, 0, none⟩ ∧ gt < W3.heap.size ∧ y3.Off P N Bv W3 gt ∧ ∀ k, k < kl → W3.cell? ⟨gt, k, none⟩ = some (.int .i64 ((K.getD k 0 : Nat) : Int))) := hide (fun h0 => by
    obtain ⟨h1, h2, h3, h4⟩ := Hto.out h0
    have ho := Hgt.out h0
    have hlt : gt < W3.heap.size := Nat.lt_of_lt_of_le h3 hb3.size
    exact ⟨h1, hlt, ⟨ho.p, by rw [hyG]; exact ho.g, by rw [hyT.1]; exact ho.t, ho.v, hlt, by rw [hyT.2]; exact ho.lo⟩, fun k hk => by rw [World.cell?_of_block (hk3 gt ho)]; exact h4 k hk⟩)
  have hlb : ({ e.look n.net i with bag := (e.look n.net i).bag ++ (K.take 0).map fun q => (e.look n.net i).mail n.net i q } : Eng) = e.look n.net i := by simp
  have HI0 : Hid (TickI base P N n.net (e.look n.net i) i K y3 gt 0 W3) := hide ⟨⟨Bv, by rw [hlb]; exact hl3, fun h0 => (Hto3.out (by rw [Hkl.out]; exact h0)).2.2.1.v⟩, fun h0 => ⟨(Hto3.out (by rw [Hkl.out]; exact h0)).2.1, (Hto3.out (by rw [Hkl.out]; exact h0)).2.2.1.p⟩, fun j hj => (Hto3.out (by rw [Hkl.out]; omega)).2.2.2 j (by rw [Hkl.out]; exact hj)⟩
  have HB3 := hide (HB2.out.trans hb3)
  have Hta : Hid (0 < kl → ta = some ⟨gt, 0, none⟩) := hide (fun h0 => (Hto3.out h0).1)
  obtain ⟨e1, he1⟩ : ∃ e1, e1 = e.look n.net i := ⟨_, rfl⟩
  have Hebag : Hid (e1.bag.length = len) := hide (by rw [he1, Hlen.out]; rfl)
  have Het2 : Hid (e.tick n.net i = { e1 with bag := e1.bag ++ (K.take kl).map fun q => e1.mail n.net i q }) := hide (by rw [Het.out, he1, Hkl.out, List.take_length]; rfl)
  rw [← he1] at HI0
  have Hst : Hid (∀ k, k < K.length → K.getD k 0 < N → (Pkt.mk i (K.getD k 0) n.net.N (e1.R i)).text = (e1.mail n.net i (K.getD k 0)).b) := hide (fun k _ _ => rfl)
  clear hl3 hyG hyT hb3 hk3 hlb HC Hto Hgt HB2 Hto3 Het he1 x0 x1 x2 x3 x4 p1 Hbl HW1 Hcells Hb3
  go_wp2
  go_loopw [9, 10, 11, 30] (fun _ _ _ q wr => ∃ k : Nat, k ≤ kl ∧ q = .int .i64 k ∧ Hid (TickI base P N n.net e1 i K y3 gt k wr) ∧ Hid (Below base w wr)) (fun _ _ _ q _ => kl - (intOf q).toNat)
  case atStart => exact ⟨0, Nat.zero_le _, rfl, HI0, HB3⟩
  case round =>
    obtain ⟨k, hk, rfl, HI, HBr⟩ := hrel
    by_cases hlt : k < kl
    · have hki' : (k : Int) < (kl : Int) := by omega
      have hkK : k < K.length := by rw [← Hkl.out]; exact hlt
      obtain rfl := Hta.out (by omega)
      obtain ⟨⟨Bvk, hl, hne⟩, hgl, hgc⟩ := HI.out
      have c0 := hgc k hkK
      obtain ⟨ba, bc2, hBvk⟩ : ∃ ba bc2, Bvk = .slice ba (len + k) bc2 := by
        have hln : (e1.bag ++ (K.take k).map fun q => e1.mail n.net i q).length = len + k := by
          rw [List.length_append, List.length_map, List.length_take, Hebag.out]; omega
        rcases Go.Joins.ownsRow_forms hl.bag with ⟨e0, e1'⟩ | ⟨g, cap, e1'⟩
        · have h00 : len + k = 0 := by rw [← hln]; exact e1'
          exact ⟨none, 0, by rw [e0, h00]⟩
        · exact ⟨_, _, by rw [e1']; show Value.slice _ (List.length _) _ = _; rw [hln]⟩
      obtain ⟨q, hq⟩ : ∃ q, q = K.getD k 0 := ⟨_, rfl⟩
      rw [← hq] at c0
      have h0 := hl.head.cell 0
      have r0 := hl.rtrs.cell (i * 2)
      rw [hl.r0 i hi] at r0
      simp at h0
      obtain ⟨hro, hrc⟩ := hl.routes i hi
      have HWr := hide (write_any ⟨i, q, some ⟨y3.rb i, 0, none⟩, N, y3.rc i, y3.rb i, 0, e1.R i⟩ wr ⟨⟨fun _ => rfl, fun j hj => by rw [Nat.zero_add]; exact hrc j hj, by show N ≤ _; unfold maxLen; omega⟩, fun _ => hro.lt, by show N ≤ _; omega⟩)
      simp only [PktM.val, PktM.cells, PktM.pkt, txt] at HWr
      have hii : (i : Int) < (N : Int) := by omega
      have HLv := hide hl
      have Hne := hide hne
      have Hgl := hide hgl
      have Hgc := hide hgc
      have HBvk := hide hBvk
      have Hq := hide hq
      clear hl hne hgl hgc hro hrc hBvk hq HI HI0
      go_wp2_with fail
      go_at_call 72
      refine HWr.out.mono ?_
      rintro r w2 ⟨rfl, hb2⟩
      have hl2 := HLv.out.below hb2
      obtain ⟨tx, htx⟩ : ∃ tx, tx = (Pkt.mk i q N (e1.R i)).text := ⟨_, rfl⟩
      obtain ⟨er, her⟩ : ∃ er, er = (Pkt.mk i q N (e1.R i)).err := ⟨_, rfl⟩
      rw [← htx, ← her]
      obtain ⟨W5, hW5⟩ : ∃ W5, W5 = w2.alloc (.cells #[.int .i64 (i : Int), .int .i64 (q : Int), .string ⟨tx.toArray⟩] 69) := ⟨_, rfl⟩
      have hb5 : Below w2.heap.size w2 W5 := by rw [hW5]; exact (Below.refl _ w2).alloc (Nat.le_refl _) _
      have hl5 := hl2.below hb5
      have HL5 := hide hl5
      have p2 := hl2.head.cell 1
      have hln : (e1.bag ++ (K.take k).map fun q => e1.mail n.net i q).length = len + k := by
        rw [List.length_append, List.length_map, List.length_take, Hebag.out]; omega
      have hbag5 := hl5.bag
      have hbag5' : W5.ownsRow base 69 3 Bvk (len + k) (mailsL (e1.bag ++ (K.take k).map fun q => e1.mail n.net i q)) := by rw [← hln]; exact hbag5
      rw [HBvk.out] at hbag5'
      have HO5 := hide hbag5'
      have hn5 : W5.heap[w2.heap.size]? = some (.cells #[.int .i64 (i : Int), .int .i64 (q : Int), .string ⟨tx.toArray⟩] 69 (0, 0)) := by rw [hW5]; exact heap_alloc_new w2 _
      simp at p2
      rw [HBvk.out] at p2
      have Hn5 := hide hn5
      have hbw5 : base ≤ W5.heap.size := Nat.le_of_lt (Nat.lt_of_le_of_lt hl5.lp hl5.head.lt)
      have HB5 : Hid (Below base wr W5) := hide ((hb2.trans (hb5.mono hb2.size)).mono (Nat.le_of_lt (Nat.lt_of_le_of_lt HLv.out.lp HLv.out.head.lt)))
      have Hkeep : Hid (gt < W5.heap.size ∧ ∀ j, j < K.length → W5.cell? ⟨gt, j, none⟩ = some (.int .i64 ((K.getD j 0 : Nat) : Int))) := hide (by
        have hb25 := hb2.trans (hb5.mono hb2.size)
        refine ⟨Nat.lt_of_lt_of_le (Hgl.out (by omega)).1 hb25.size, fun j hj => ?_⟩
        rw [hb25.cell (p := ⟨gt, j, none⟩) (Hgl.out (by omega)).1]
        exact Hgc.out j hj)
      have Hw2s : Hid (W5.heap.size = w2.heap.size + 1) := hide (by rw [hW5]; simp)
      rw [hW5] at HO5 hbw5 Hn5
      have HW5 := hide hW5
      have Htx := hide htx
      clear hb2 hl2 hb5 hl5 hln hbag5 hbag5' hn5 HWr hW5 htx her
      go_wp2_with (at_builtin; refine wpList_append_lies _ rfl _ _ _ rfl base 69 i0 z 3 32 Tryz.underlying29 hi0 hz hsz hby hzs (by decide) _ (len + k) _ rfl HO5.out ⟨w2.heap.size, 0, none⟩ 1 1 [.int .i64 (i : Int), .int .i64 (q : Int), .string ⟨tx.toArray⟩] rfl rfl ?c1 ?c2 (by decide) ?c3 ?c4 ?c5 _ rfl ?_)
      all_goals try (case c1 => exact World.news_of_block Hn5.out)
      all_goals try (case c2 => simp [Value.oneCell'])
      all_goals try (case c3 => unfold maxLen; omega)
      all_goals try (case c4 => omega)
      all_goals try (case c5 => exact hbw5)
      intro g' cap' w4 hown2 hgrow hat2 hlt2
      rw [← HW5.out] at hgrow
      have hgrow' : W5.grownBy w4 Bvk.ownBlock := by rw [HBvk.out]; exact hgrow
      have hat' : Bvk.ownBlock = some g' ∨ W5.heap.size ≤ g' := by
        rw [HBvk.out]
        rcases hat2 with h1 | h1
        · exact Or.inl h1
        · right; have := Hw2s.out; omega
      have hmail : e1.mail n.net i q = ⟨i, q, tx⟩ := by unfold Eng.mail; rw [hNN, Htx.out]
      have hln : (e1.bag ++ (K.take k).map fun q => e1.mail n.net i q).length = len + k := by
        rw [List.length_append, List.length_map, List.length_take, Hebag.out]; omega
      have hown3 : w4.ownsRow base 69 3 (.slice (some ⟨g', 0, none⟩) (len + k + 1) cap') ((e1.bag ++ (K.take k).map fun q => e1.mail n.net i q) ++ [e1.mail n.net i q]).length (mailsL ((e1.bag ++ (K.take k).map fun q => e1.mail n.net i q) ++ [e1.mail n.net i q])) := by
        rw [mailsL_append, List.length_append, hln, hmail, List.map_take]
        exact hown2
      have hset := HL5.out.setBag hgrow' hown3 (fun q' hq' => by
        have : q' = g' := by simpa [Value.ownBlock] using hq'.symm
        subst this; exact hat')
      have hh4 := HL5.out.head.kept hgrow' (fun e2 => (HL5.out.bv P e2.symm).1 rfl)
      have p4 := hh4.cell 1
      have pf := hh4.frozen 1
      simp at p4
      rw [HBvk.out] at p4
      have HI4 : Hid (TickI base P N n.net e1 i K y3 gt (k + 1) (w4.setCell ⟨P, 1, none⟩ (.slice (some ⟨g', 0, none⟩) (len + k + 1) cap'))) := hide ⟨⟨_, by rw [take_snoc K _ k hkK, ← List.append_assoc, ← Hq.out]; exact hset, fun h0 hh => by
          have : g' = gt := by simpa [Value.ownBlock] using hh
          subst this
          rcases hat' with h1 | h1
          · exact Hne.out h0 h1
          · have := Hkeep.out.1; omega⟩, fun h0 => ⟨by have := Hkeep.out.1; have := hgrow.size; simp; omega, (Hgl.out h0).2⟩, fun j hj => by
          rw [cell_other (Hgl.out (by omega)).2, grown_cell hgrow' Hkeep.out.1 (Hne.out (by omega))]
          exact Hkeep.out.2 j hj⟩
      have HB4 := hide ((HBr.out.trans (HB5.out.trans (grown_below hgrow' (fun q' hq' => (HL5.out.bag.lt q' hq').1) (by rw [HW5.out]; exact hbw5)))).setCell (p := ⟨P, 1, none⟩) HL5.out.lp (.slice (some ⟨g', 0, none⟩) (len + k + 1) cap'))
      clear hown2 hgrow hat2 hlt2 hgrow' hat' hmail hln hown3 hset hh4 HB5 HO5 HBr HL5 HLv Hkeep hbw5
      go_wp2
      go_roundw
      case rel =>
        first
        | exact ⟨k + 1, by omega, by go_num, HI4, HB4⟩
        | ((repeat apply Exists.intro); refine ⟨?_, rfl⟩; exact ⟨k + 1, by omega, by go_num, HI4, HB4⟩)
      case measure => simp [intOf]; omega
    · have hkn : k = kl := by omega
      subst hkn
      obtain ⟨⟨Bvk, hl, _⟩, _, _⟩ := HI.out
      rw [← Het2.out] at hl
      have HF := hide (And.intro (Exists.intro (p := fun Bv' => ∃ y', Live base P N (e.tick n.net i) Bv' y' wr) Bvk ⟨y3, hl⟩) HBr.out)
      clear hl HI HI0 Het2
      go_wp2
      go_ret
      exact ⟨rfl, HF.out⟩

end Go.Proofs.YtjhkadffaephmabGreat
