/-
  Our own texts, bundled: a claim holds few files.
-/
import Derived.Test.YtjhkadffaephmabGreatCutEngineStepsBF
import Derived.Test.YtjhkadffaephmabGreatCutEngineStepsBG
import Derived.Test.YtjhkadffaephmabGreatCutEngineStepsAH
import Derived.Test.YtjhkadffaephmabGreatCutEngineStepsAI
import Derived.Test.YtjhkadffaephmabGreatCutEngineStepsAJ
/-
  wire.Read.
-/
namespace Go.Proofs.YtjhkadffaephmabGreat
set_option maxRecDepth 100000
open Go.RowKit

/-- While the routes of a packet are read: the result's block, the packet's, the bytes' (where there are), and the row that grows, in blocks from C on. -/
structure ReadI (w : World) (b4 B C : Nat) (F T : Int) (rl bl : List UInt8) (k : Nat) (W : World) : Prop where
  below : Below w.heap.size w W
  res : Blk W w.heap.size #[.int .i64 0, .int .i64 0, .slice none 0 0] 76
  lo : w.heap.size < b4
  mid : b4 < C
  apart : B ≠ b4
  far : B < C
  cur : ∃ v, Blk W b4 #[.int .i64 F, .int .i64 T, v] 76 ∧ W.ownsRow C 3 1 v k (intsL (fun i => ((rl.getD i 0).toNat : Int)) k)
  bytes : ∀ (j : Nat) (h : j < bl.length), W.cell? ⟨B, j, none⟩ = some (.int .u8 (bl[j].toNat : Int))
  lt : C ≤ W.heap.size

theorem ReadI.pkt {w : World} {b4 B C : Nat} {F T : Int} {rl bl : List UInt8} {k : Nat} {W : World} (h : ReadI w b4 B C F T rl bl k W) (hk : k ≤ 60) :
    ∃ p : PktM, Blk W b4 p.cells 76 ∧ p.pkt = ⟨F, T, k, fun i => ((rl.getD i 0).toNat : Int)⟩ ∧ p.In W.heap.size W ∧ (0 < p.n → w.heap.size < p.rb) := by
  obtain ⟨v, hv, ho⟩ := h.cur
  have := h.lo
  have := h.mid
  rcases Go.Joins.ownsRow_forms ho with ⟨rfl, rfl⟩ | ⟨gb, cap, rfl⟩
  · exact ⟨⟨F, T, none, 0, 0, 0, 0, _⟩, hv, rfl, ⟨⟨fun h0 => absurd h0 (Nat.lt_irrefl _), fun i hi => absurd hi (Nat.not_lt_zero _), Nat.zero_le _⟩, fun h0 => absurd h0 (Nat.lt_irrefl _), Nat.zero_le _⟩, fun h0 => absurd h0 (Nat.lt_irrefl _)⟩
  · have hlt := ho.lt gb rfl
    refine ⟨⟨F, T, some ⟨gb, 0, none⟩, k, cap, gb, 0, _⟩, hv, rfl, ⟨⟨fun _ => rfl, fun i hi => ?_, by show k ≤ maxLen; unfold maxLen; omega⟩, fun _ => hlt.2, by show k ≤ _; omega⟩, fun _ => by show w.heap.size < gb; omega⟩
    have hi' : i < k := hi
    have := ho.cellAt i (by omega)
    rw [intsL_get hi'] at this
    show W.cell? ⟨gb, 0 + i, none⟩ = _
    rw [Nat.zero_add]; exact this

/-- One more route is appended, and stored. -/
theorem ReadI.put {w : World} {b4 B C : Nat} {F T : Int} {rl bl : List UInt8} {k : Nat} {W W4 : World} {v : Value} {g cap : Nat} (h : ReadI w b4 B C F T rl bl k W)
    (hown : W4.ownsRow C 3 1 (.slice (some ⟨g, 0, none⟩) (k + 1) cap) (k + 1) (intsL (fun i => ((rl.getD i 0).toNat : Int)) k ++ [.int .i64 ((rl.getD k 0).toNat : Int)]))
    (hv : Blk W b4 #[.int .i64 F, .int .i64 T, v] 76) (hb : Below C W W4) :
    ReadI w b4 B C F T rl bl (k + 1) (W4.setCell ⟨b4, 2, none⟩ (.slice (some ⟨g, 0, none⟩) (k + 1) cap)) := by
  have h1 := h.lo
  have h2 := h.mid
  have h3 := h.lt
  have h4 := h.far
  have hb4 := hv.below hb (by omega)
  refine ⟨(h.below.trans (hb.mono (by omega))).setCell (p := ⟨b4, 2, none⟩) (by show w.heap.size ≤ b4; omega) _, (h.res.below hb (by omega)).other (by omega) _ _, h1, h2, h.apart, h4, ⟨.slice (some ⟨g, 0, none⟩) (k + 1) cap, ?_, ?_⟩, fun j hj => ?_, ?_⟩
  · have := hb4.set 2 (.slice (some ⟨g, 0, none⟩) (k + 1) cap)
    simpa using this
  · rw [intsL_succ]
    exact ownsRow_setCell_below hown (by show b4 < C; omega) _
  · rw [cell_other h.apart, hb.cell (p := ⟨B, j, none⟩) h4]
    exact h.bytes j hj
  · have := hb.size
    simp; omega

/-- What a call that reads answers. -/
def ReadAns (l : List UInt8) (base : Nat) (e : Ending) (w' : World) : Prop :=
  ∃ p : PktM, e = .returned (.tuple #[p.val, .int .i64 (readErr l)]) ∧ p.pkt.same (readOf l) ∧ p.In w'.heap.size w' ∧ (0 < p.n → base ≤ p.rb)
theorem readAns_bad {l : List UInt8} {base : Nat} {w' : World} {x : Int} (hx : readErr l = x) (h0 : x ≠ 0) : ReadAns l base (.returned (.tuple #[.agg #[.int .i64 0, .int .i64 0, .slice none 0 0], .int .i64 x])) w' :=
  ⟨⟨0, 0, none, 0, 0, 0, 0, fun _ => 0⟩, by rw [hx]; rfl, by unfold readOf; rw [if_neg (by omega)]; exact ⟨rfl, rfl, rfl, fun _ _ => rfl⟩, ⟨⟨fun h => absurd h (Nat.lt_irrefl _), fun i hi => absurd hi (Nat.not_lt_zero _), Nat.zero_le _⟩, fun h => absurd h (Nat.lt_irrefl _), Nat.zero_le _⟩, fun h => absurd h (Nat.lt_irrefl _)⟩

theorem PktM.In.set3 {p : PktM} {B : Nat} {W : World} (h : p.In W.heap.size W) (hB : 0 < p.n → B < p.rb) (v0 v1 v2 : Value) : p.In (YtjhkadffaephmabGreat.set3 W B v0 v1 v2).heap.size (YtjhkadffaephmabGreat.set3 W B v0 v1 v2) := by
  have hs : (YtjhkadffaephmabGreat.set3 W B v0 v1 v2).heap.size = W.heap.size := by unfold YtjhkadffaephmabGreat.set3; simp
  rw [hs]
  refine ⟨⟨h.ints.addr, fun i hi => ?_, h.ints.len⟩, h.lt, h.small⟩
  have hne : p.rb ≠ B := by have := hB (by omega); omega
  unfold YtjhkadffaephmabGreat.set3
  rw [cell_other hne, cell_other hne, cell_other hne]
  exact h.ints.cell i hi

theorem read_idx {l : List UInt8} {i : Nat} (h : i < (ByteArray.mk l.toArray).size) : (ByteArray.mk l.toArray)[i] = l.getD i 0 := by
  have h' : i < l.length := by simpa [ByteArray.size] using h
  rw [List.getD_eq_getElem?_getD, List.getElem?_eq_getElem h']
  rfl

set_option maxHeartbeats 4000000 in
theorem read_any (l : List UInt8) (w : World) (hl : l.length ≤ maxLen) :
    Calls Tryz.prog 87 #[txt l] w fun e w' => ReadAns l w.heap.size e w' ∧ Below w.heap.size w w' := by
  unfold maxLen at hl
  have hsz : (ByteArray.mk l.toArray).size = l.length := by simp [ByteArray.size]
  have b0 := Blk.new w #[.int .i64 0, .int .i64 0, .slice none 0 0] 76
  have hB0 : Below w.heap.size w (w.alloc (.cells #[.int .i64 0, .int .i64 0, .slice none 0 0] 76)) := (Below.refl _ w).alloc (Nat.le_refl _) _
  unfold txt
  by_cases h60 : 60 < l.length
  · have HBe := hide hB0
    have d0 := b0.cell 0
    have d1 := b0.cell 1
    have d2 := b0.cell 2
    have df := b0.frozen
    simp at d0 d1 d2
    have Hx : Hid (readErr l = 2) := hide (by unfold readErr; rw [if_pos h60])
    generalize hs : ByteArray.mk l.toArray = s at *
    have h60i : (60 : Int) < (s.size : Int) := by omega
    clear h60 hs b0 hB0
    go_enter Tryz.func87, Tryz.ntmps87
    go_wp2
    exact bodyPost_ret (v := .tuple #[.agg #[.int .i64 0, .int .i64 0, .slice none 0 0], .int .i64 2]) (by simp [results, Tryz.results87, go_sem]) rfl ⟨readAns_bad Hx.out (by decide), HBe.out⟩
  by_cases h6 : l.length < 6
  · have HBe := hide hB0
    have d0 := b0.cell 0
    have d1 := b0.cell 1
    have d2 := b0.cell 2
    have df := b0.frozen
    simp at d0 d1 d2
    have Hx : Hid (readErr l = 1) := hide (by unfold readErr; rw [if_neg h60, if_pos h6])
    generalize hs : ByteArray.mk l.toArray = s at *
    have h60i : ¬ (60 : Int) < (s.size : Int) := by omega
    have h6i : (s.size : Int) < 6 := by omega
    clear h60 h6 hs b0 hB0
    go_enter Tryz.func87, Tryz.ntmps87
    go_wp2
    exact bodyPost_ret (v := .tuple #[.agg #[.int .i64 0, .int .i64 0, .slice none 0 0], .int .i64 1]) (by simp [results, Tryz.results87, go_sem]) rfl ⟨readAns_bad Hx.out (by decide), HBe.out⟩
  obtain ⟨W0, hW0⟩ : ∃ W0, W0 = w.alloc (.cells #[.int .i64 0, .int .i64 0, .slice none 0 0] 76) := ⟨_, rfl⟩
  rw [← hW0] at b0 hB0
  have hw0 : W0.heap.size = w.heap.size + 1 := by rw [hW0]; simp
  have hg : ∀ (i : Nat) (h : i < (ByteArray.mk l.toArray).size), (ByteArray.mk l.toArray)[i] = l.getD i 0 := fun i h => read_idx h
  have Hsp := hide (split6 l (by omega))
  generalize hs : ByteArray.mk l.toArray = s at *
  have h60i : ¬ (60 : Int) < (s.size : Int) := by omega
  have h6i : ¬ (s.size : Int) < 6 := by omega
  have i1 : (1 : Int) < (s.size : Int) := by omega
  have i2 : (2 : Int) < (s.size : Int) := by omega
  have g1 : (s[1]'(by omega)).toNat = (l.getD 1 0).toNat := by rw [hg 1 (by omega)]
  have g2 : (s[2]'(by omega)).toNat = (l.getD 2 0).toNat := by rw [hg 2 (by omega)]
  have hF := (l.getD 1 0).toNat_lt
  have hT := (l.getD 2 0).toNat_lt
  obtain ⟨F, eF⟩ : ∃ F, (l.getD 1 0).toNat = F := ⟨_, rfl⟩
  obtain ⟨T, eT⟩ : ∃ T, (l.getD 2 0).toNat = T := ⟨_, rfl⟩
  rw [eF] at g1 hF
  rw [eT] at g2 hT
  have HF := hide eF
  have HT := hide eT
  clear hg eF eT
  go_enter Tryz.func87, Tryz.ntmps87
  go_wp2
  rw [← hW0]
  clear hW0
  go_cut [4] from 17 to 23 (fun p4 wx => ∃ b4 : Nat, p4 = .pointer (some ⟨b4, 0, none⟩) ∧ Hid (w.heap.size < b4 ∧ Blk wx b4 #[.int .i64 (F : Int), .int .i64 (T : Int), .slice none 0 0] 76 ∧ Below (w.heap.size + 1) W0 wx))
  case first =>
    go_region
    go_wp2_with fail
    go_meet
    exact ⟨_, rfl, hide ⟨by omega, by first | exact Blk.new' (by simp [hw0]) | skip, ((Below.refl _ W0).alloc (by omega) _).trans ⟨rfl, rfl, rfl, Nat.le_refl _, fun _ _ => rfl⟩⟩⟩
  case rest =>
    obtain ⟨b4, rfl, HC⟩ := hcut
    obtain ⟨a, b, c, d, r, x, y, e6⟩ := Hsp.out
    have hlr : l.length = r.length + 6 := by rw [e6]; simp
    obtain ⟨rs, hrs⟩ : ∃ rs, rs = ByteArray.mk r.toArray := ⟨_, rfl⟩
    have hrz : rs.size = r.length := by rw [hrs]; simp [ByteArray.size]
    have hex1 : s.extract 4 (l.length - 2) = rs := by
      rw [← hs, hrs, ByteArray.extract_mk]
      congr 2
      rw [hlr, e6]
      simp
    have hex2 : s.extract 4 ((l.length : Int) - 2).toNat = rs := by
      rw [← hex1]
      congr 1
      omega
    have hn2 : (4 : Int) ≤ (l.length : Int) - 2 := by omega
    have HI0 : Hid (∀ (cap : Nat) (m : Nat × Nat), ReadI w b4 wc.heap.size (wc.heap.size + 1) F T r r 0 (wc.drew.alloc (.cells (bytesRow rs cap) 5 m))) := hide (fun cap m => by
      obtain ⟨q1, q2, q3⟩ := HC.out
      have hbb : Below wc.heap.size wc (wc.drew.alloc (.cells (bytesRow rs cap) 5 m)) := (show Below wc.heap.size wc wc.drew from ⟨rfl, rfl, rfl, Nat.le_refl _, fun _ _ => rfl⟩).trans ((Below.refl _ wc.drew).alloc (Nat.le_refl _) _)
      have q3s := q3.size
      refine ⟨(hB0.trans (q3.mono (by omega))).trans (hbb.mono (by omega)), (b0.below q3 (by omega)).below hbb (by omega), q1, Nat.lt_succ_of_lt q2.lt, (by have := q2.lt; omega), Nat.lt_succ_self _, ⟨_, q2.below hbb q2.lt, World.ownsRow_nil _ _ _ _⟩, fun j hj => ?_, by simp⟩
      have := World.cell?_alloc_mark wc.drew (bytesRow rs cap) 5 m j
      have e2 : rs.data.size = r.length := by rw [hrs]; simp
      refine this.trans ?_
      rw [bytesRow_at rs cap j (by omega)]
      have e3 : rs.data[j]'(by omega) = r[j] := by simp [hrs]
      rw [e3])
    have hcv := fun u => run_bytes_of_string (P := Tryz.prog) u 9 80 5 rs Tryz.underlying9 Tryz.underlying80 Tryz.underlying5
    have H6 := hide e6
    have Hrs := hide hrs
    obtain ⟨i1', hi1, hy0, hy1, hy2⟩ := info_parts Tryz.infoInt
    have Hhs := hide hs
    have HLR := hide hlr
    have hr54 : r.length ≤ 54 := by omega
    clear hs e6 hrs hlr
    go_wp2
    have HI1 := hide (HI0.out (grownCap wc rs.size 0 5) ((bytesRow rs (grownCap wc rs.size 0 5)).size, (bytesRow rs (grownCap wc rs.size 0 5)).size + 1))
    simp only [hrz] at HI1
    clear HI0 HC hcv
    go_loopw [6, 31] (fun _ q wr => ∃ k : Nat, k ≤ r.length ∧ q = .int .i64 k ∧ Hid (ReadI w b4 wc.heap.size (wc.heap.size + 1) F T r r k wr)) (fun _ q _ => r.length - (intOf q).toNat)
    case atStart => exact ⟨0, Nat.zero_le _, rfl, HI1⟩
    case round =>
      obtain ⟨k, hk, rfl, HI⟩ := hrel
      by_cases hlt : k < r.length
      · have hc := HI.out.bytes k hlt
        have hrk := (r[k]).toNat_lt
        have hgd : r.getD k 0 = r[k] := by rw [List.getD_eq_getElem?_getD, List.getElem?_eq_getElem hlt]; rfl
        obtain ⟨v, hv, ho⟩ := HI.out.cur
        have hlo := HI.out.lo
        have hmid := HI.out.mid
        have hlt' := HI.out.lt
        have hput := fun W4 g cap h1 h2 => HI.out.put (W4 := W4) (g := g) (cap := cap) h1 hv h2
        rw [hgd] at hput
        have Hput := hide hput
        have v2 := hv.cell 2
        have vf := hv.frozen
        simp at v2
        have Hv := hide hv
        have Ho := hide ho
        generalize (r[k]).toNat = rv at *
        have hki : (k : Int) < (r.length : Int) := by omega
        clear hput hv ho hgd
        go_wp2_with (at_builtin; refine wpList_append_lies _ rfl _ _ _ rfl (wc.heap.size + 1) 3 i1' _ 1 8 Tryz.underlying32 hi1 hy0 hy1 hy2 rfl (by decide) _ k _ rfl (Ho.out.alloc _) ⟨wr.heap.size, 0, none⟩ 1 1 [.int .i64 (rv : Int)] rfl rfl ?c1 ?c2 (by decide) ?c3 ?c4 ?c5 _ rfl ?_)
        all_goals try (case c1 => exact World.news_of_block (Blk.new' (by simp)))
        all_goals try (case c2 => simp [Value.oneCell'])
        all_goals try (case c3 => unfold maxLen; omega)
        all_goals try (case c4 => omega)
        all_goals try (case c5 => simp; omega)
        intro g' cap' w4 hown2 hgrow hat2 hlt2
        have hbw := (((Below.refl (wc.heap.size + 1) wr).alloc (by omega) (.cells #[.int .i64 (rv : Int)] 3)).trans (grown_below hgrow (fun g hg => (Ho.out.lt g hg).1) (by simp; omega)))
        have HN := hide (Hput.out w4 g' cap' hown2 hbw)
        have hb4 := Hv.out.below hbw (by omega)
        have v2' := hb4.cell 2
        have vf' := hb4.frozen 2
        simp at v2'
        clear hown2 hgrow hat2 hlt2 Hput Hv Ho hb4 HI hbw
        go_wp2
        go_roundw
        case rel =>
          first
          | exact ⟨k + 1, by omega, by go_num, HN⟩
          | ((repeat apply Exists.intro); refine ⟨?_, rfl⟩; exact ⟨k + 1, by omega, by go_num, HN⟩)
        case measure => simp [intOf]; omega
      · have hkn : k = r.length := by omega
        subst hkn
        obtain ⟨p, hp, hpk, hpi, hpr⟩ := HI.out.pkt (by omega)
        have p0 := hp.cell 0
        have p1 := hp.cell 1
        have p2 := hp.cell 2
        simp [PktM.cells] at p0 p1 p2
        have HW := hide (write_any p wr hpi)
        simp only [PktM.val, PktM.cells, txt] at HW
        go_wp2_with fail
        go_at_call 72
        refine HW.out.mono ?_
        rintro e w5 ⟨rfl, hb5⟩
        have hsame : p.pkt.same (packet l) := by
          have h1 := packet_split a b c d r x y
          have e6 := H6.out
          rw [← e6] at h1
          rw [hpk]
          have eF := HF.out
          have eT := HT.out
          have q1 : (F : Int) = (packet l).F := by rw [← eF]; rfl
          have q2 : (T : Int) = (packet l).T := by rw [← eT]; rfl
          exact ⟨q1, q2, h1.2.2.1.symm, fun i hi => (h1.2.2.2 i (by have := h1.2.2.1; simp only at this hi; omega)).symm⟩
        have hres := HI.out.res.below hb5 HI.out.res.lt
        have hcur := hp.below hb5 hp.lt
        have hBw := HI.out.below.trans (hb5.mono HI.out.below.size)
        have hst : s.toList = l := by rw [← Hhs.out]; simp
        have hpi5 := hpi.grown hb5
        rw [Pkt.same_err hsame, Pkt.same_text hsame]
        have r0 := hres.cell 0
        have r1 := hres.cell 1
        have r2 := hres.cell 2
        have rf := hres.frozen
        simp at r0 r1 r2
        by_cases hok : (packet l).err = 0
        · by_cases heq : (packet l).bytes = l
          · have Hx : Hid (readErr l = 0) := hide (by unfold readErr; rw [if_neg h60, if_neg h6, if_pos ⟨hok, heq⟩])
            have htx : (packet l).text = l := by unfold Pkt.text; rw [if_pos hok, heq]
            have b3 := hres.set3 (.int .i64 p.F) (.int .i64 p.T) (.slice p.ra p.n p.rc)
            have e0 := b3.cell 0
            have e1 := b3.cell 1
            have e2 := b3.cell 2
            have c0 := hcur.cell 0
            have c1 := hcur.cell 1
            have c2 := hcur.cell 2
            unfold YtjhkadffaephmabGreat.set3 at e0 e1 e2
            simp [PktM.cells] at e0 e1 e2 c0 c1 c2
            have HA : Hid (ReadAns l w.heap.size (.returned (.tuple #[.agg #[.int .i64 p.F, .int .i64 p.T, .slice p.ra p.n p.rc], .int .i64 0])) (set3 w5 w.heap.size (.int .i64 p.F) (.int .i64 p.T) (.slice p.ra p.n p.rc))) :=
              hide ⟨p, by rw [Hx.out]; rfl, by unfold readOf; rw [if_pos Hx.out]; exact hsame, hpi5.set3 hpr _ _ _, fun h0 => Nat.le_of_lt (hpr h0)⟩
            have HBe := hide (below3 hBw (Nat.le_refl _) (.int .i64 p.F) (.int .i64 p.T) (.slice p.ra p.n p.rc))
            have hbe : (l == l) = true := beq_self_eq_true l
            rw [hok, htx]
            clear hok heq htx hsame hres hcur hBw hpi5 hpk hpi hpr hp p0 p1 p2 HI HW hb5 b3
            go_wp2
            exact bodyPost_ret (v := .tuple #[.agg #[.int .i64 p.F, .int .i64 p.T, .slice p.ra p.n p.rc], .int .i64 0]) (by simp [results, Tryz.results87, go_sem, e0, e1, e2]) rfl ⟨HA.out, HBe.out⟩
          · have Hx : Hid (readErr l = 1) := hide (by unfold readErr; rw [if_neg h60, if_neg h6, if_neg (fun h => heq h.2)])
            have htx : (packet l).text ≠ l := by unfold Pkt.text; rw [if_pos hok]; exact heq
            have hbe : ((packet l).text == l) = false := by simpa using htx
            have b3 := hres.set3 (.int .i64 0) (.int .i64 0) (.slice none 0 0)
            have e0 := b3.cell 0
            have e1 := b3.cell 1
            have e2 := b3.cell 2
            unfold YtjhkadffaephmabGreat.set3 at e0 e1 e2
            simp at e0 e1 e2
            have HBe := hide (below3 hBw (Nat.le_refl _) (.int .i64 0) (.int .i64 0) (.slice none 0 0))
            rw [hok]
            generalize (packet l).text = tx at *
            clear hok heq htx hsame hres hcur hBw hpi5 hpk hpi hpr hp p0 p1 p2 HI HW hb5 b3
            go_wp2
            exact bodyPost_ret (v := .tuple #[.agg #[.int .i64 0, .int .i64 0, .slice none 0 0], .int .i64 1]) (by simp [results, Tryz.results87, go_sem, e0, e1, e2]) rfl ⟨readAns_bad Hx.out (by decide), HBe.out⟩
        · have Hx : Hid (readErr l = 1) := hide (by unfold readErr; rw [if_neg h60, if_neg h6, if_neg (fun h => hok h.1)])
          have hbe : ((packet l).err != 0) = true := by simpa using hok
          have b3 := hres.set3 (.int .i64 0) (.int .i64 0) (.slice none 0 0)
          have e0 := b3.cell 0
          have e1 := b3.cell 1
          have e2 := b3.cell 2
          unfold YtjhkadffaephmabGreat.set3 at e0 e1 e2
          simp at e0 e1 e2
          have HBe := hide (below3 hBw (Nat.le_refl _) (.int .i64 0) (.int .i64 0) (.slice none 0 0))
          generalize (packet l).err = er at *
          clear hok hsame hres hcur hBw hpi5 hpk hpi hpr hp p0 p1 p2 HI HW hb5 b3
          go_wp2
          exact bodyPost_ret (v := .tuple #[.agg #[.int .i64 0, .int .i64 0, .slice none 0 0], .int .i64 1]) (by simp [results, Tryz.results87, go_sem, e0, e1, e2]) rfl ⟨readAns_bad Hx.out (by decide), HBe.out⟩

end Go.Proofs.YtjhkadffaephmabGreat

/-
  engine.deliver.
-/
namespace Go.Proofs.YtjhkadffaephmabGreat
set_option maxRecDepth 100000
open Go.RowKit

theorem deliver_not {n : Net} {e : Eng} {i : Nat} (h : ¬ n.heeds (e.bag.getD i noMail)) : e.deliver n i = e.without i := by
  unfold Eng.deliver Eng.take
  rw [if_neg h]
theorem deliver_yes {n : Net} {e : Eng} {i : Nat} (h : n.heeds (e.bag.getD i noMail)) : e.deliver n i = ((e.without i).tell (e.bag.getD i noMail).T.toNat (e.bag.getD i noMail).F.toNat (packet (e.bag.getD i noMail).b).R).look n (e.bag.getD i noMail).T.toNat := by
  unfold Eng.deliver Eng.take
  rw [if_pos h]

/-- Blocks of others are as they were, and stay those of others. -/
def KeptO (y y' : Lay) (P N : Nat) (Bv Bv' : Value) (w w' : World) : Prop := ∀ b, y.Off P N Bv w b → w'.heap[b]? = w.heap[b]? ∧ y'.Off P N Bv' w' b


set_option maxHeartbeats 4000000 in
theorem deliver_all (n : NetM) (base P N i : Nat) (e : Eng) (Bv : Value) (y : Lay) (w : World) (h : n.In base w) (hck : n.net.check = 0) (hN : n.nodes = N) (hL : Live base P N e Bv y w) (hfit : e.Fit n.net) (hi : i < e.bag.length) :
    Calls Tryz.prog 69 #[n.val, .pointer (some ⟨P, 0, none⟩), .int .i64 i] w fun r w' => r = .returned (.tuple #[]) ∧ (∃ Bv' y', Live base P N (e.deliver n.net i) Bv' y' w' ∧ KeptO y y' P N Bv Bv' w w') ∧ Below base w w' := by
  have g := Net.good_of_check hck
  have hs0 : 2 ≤ n.a.size := g.law.good.lo
  have hs1 : n.a.size ≤ 24 := g.law.good.hi
  have hi6 := g.hi
  have hNN : n.net.N = N := by show n.nodes.toNat = N; omega
  have hN6 : N ≤ 6 := by have : n.net.nodes = n.nodes := rfl; omega
  have hbw : base ≤ w.heap.size := Nat.le_of_lt (Nat.lt_of_le_of_lt hL.lp hL.head.lt)
  obtain ⟨m, hm⟩ : ∃ m, m = e.bag.getD i noMail := ⟨_, rfl⟩
  have hmail := hfit.mail m (by rw [hm]; exact getD_mem hi)
  obtain ⟨⟨hF0, hF1⟩, ⟨hT0, hT1⟩, hbl⟩ := hmail
  have hF1' : m.F < (N : Int) := by rw [← hN]; exact hF1
  have hT1' : m.T < (N : Int) := by rw [← hN]; exact hT1
  obtain ⟨W2, hW2⟩ : ∃ W2, W2 = (w.alloc (.cells n.cells 27)).alloc (.cells #[.int .i64 m.F, .int .i64 m.T, .string ⟨m.b.toArray⟩] 69) := ⟨_, rfl⟩
  have hB2 : Below w.heap.size w W2 := by rw [hW2]; exact ((Below.refl _ w).alloc (Nat.le_refl _) _).alloc (by simp) _
  have b3 : Blk W2 w.heap.size n.cells 27 := by rw [hW2]; exact (Blk.new w _ _).alloc _
  have b6 : Blk W2 (w.heap.size + 1) #[.int .i64 m.F, .int .i64 m.T, .string ⟨m.b.toArray⟩] 69 := by rw [hW2]; exact Blk.new' (by simp)
  have hL2 := hL.below hB2
  have hoff : ∀ b, w.heap.size ≤ b → b < W2.heap.size → y.Off P N Bv W2 b := fun b h1 h2 => ⟨by have := hL.head.lt; omega, by have := hL.rtrs.lt; omega, fun k hk => by have := (hL.tolds k hk).lt; omega, fun hv => by have := (hL.bag.lt _ hv).2; omega, h2, by have := hL.ylo; have := hL.head.lt; omega⟩
  have HLo := hide (lose_all base P N i e Bv y W2 hL2 hi (by have := hfit.many; omega))
  obtain ⟨gB, cap, hBv, m0, m1, m2⟩ := hL.mail hi
  rw [← hm] at m0 m1 m2
  have hglt : gB < w.heap.size := (hL.bag.lt gB (by rw [hBv]; rfl)).2
  have p1a : ∀ o, (w.alloc o).cell? ⟨P, 1, none⟩ = some Bv := fun o => by have := (hL.head.alloc o).cell 1; simpa using this
  have n0 : ∀ o q, (w.alloc o).cell? ⟨gB, q, none⟩ = w.cell? ⟨gB, q, none⟩ := fun o q => by rw [((Below.refl w.heap.size w).alloc (Nat.le_refl _) o).cell (p := ⟨gB, q, none⟩) hglt]
  have q0 : ∀ o, (w.alloc o).cell? ⟨gB, i * 3, none⟩ = some (.int .i64 m.F) := fun o => by rw [n0]; exact m0
  have q1 : ∀ o, (w.alloc o).cell? ⟨gB, i * 3 + 1, none⟩ = some (.int .i64 m.T) := fun o => by rw [n0]; exact m1
  have q2 : ∀ o, (w.alloc o).cell? ⟨gB, i * 3 + 2, none⟩ = some (.string ⟨m.b.toArray⟩) := fun o => by rw [n0]; exact m2
  rw [hBv] at p1a
  have hii : (i : Int) < (e.bag.length : Int) := by omega
  have hcells : n.cells = #[.int .i64 n.a.size, .slice n.a.B.ga n.a.B.t.len n.a.B.cap, .slice n.a.E.ga n.a.E.t.len n.a.E.cap, .int .i64 N, .slice n.la n.ln n.lc] := by simp only [NetM.cells, Mat.val, hN]
  have H := hide h
  have Hoff := hide hoff
  have HBv := hide hBv
  have HB2 := hide hB2
  have Hb3 := hide b3
  have Hb6 := hide b6
  have Hfit := hide hfit
  have Hm := hide hm
  have Hbw := hide hbw
  have HL0 := hide hL
  rw [hW2, hcells] at HLo
  rw [hcells] at hW2
  have HW2 := hide hW2
  have Hcells := hide hcells
  have HRd := hide (fun W => read_any m.b W (by unfold maxLen; omega))
  unfold txt at HRd
  have HN := hide hN
  generalize e.bag.length = len at *
  simp only [NetM.val, hcells]
  clear h hL hL2 hoff hBv hB2 b3 b6 hfit hm hbw hW2 m0 m1 m2 n0 hglt hcells hN
  go_enter Tryz.func69, Tryz.ntmps69
  go_wp2_with fail
  go_at_call 76
  refine HLo.out.mono ?_
  rintro r W3 ⟨rfl, ⟨Bv3, hl3, hbv3⟩, hb3, hk3⟩
  rw [← HW2.out] at hb3 hk3
  have Hk3 : Hid (∀ b, y.Off P N Bv w b → W3.heap[b]? = w.heap[b]? ∧ y.Off P N Bv3 W3 b) := hide (fun b hb => ⟨(hk3 b (hb.grown HB2.out.size)).trans (HB2.out.block b hb.lt), ⟨hb.p, hb.g, hb.t, fun hv => hb.v (by rw [← hbv3]; exact hv), Nat.lt_of_lt_of_le hb.lt (Nat.le_trans HB2.out.size hb3.size), hb.lo⟩⟩)
  have c3 := hk3.blk (Hoff.out _ (Nat.le_refl _) Hb3.out.lt) Hb3.out
  have c6 := hk3.blk (Hoff.out _ (by omega) Hb6.out.lt) Hb6.out
  have hB3 := (HB2.out.mono Hbw.out).trans hb3
  have d2 := c6.cell 2
  simp at d2
  have HL3 := hide hl3
  have HB3 := hide hB3
  have Hc3 := hide c3
  have Hc6 := hide c6
  clear hl3 hb3 hk3 hbv3 c3 c6 hB3 HLo p1a q0 q1 q2
  go_wp2_with fail
  go_at_call 87
  refine (HRd.out _).mono ?_
  rintro r W4 ⟨⟨p, rfl, hsame, hin, hlo⟩, hb4⟩
  obtain ⟨W5, hW5⟩ : ∃ W5, W5 = W4.alloc (.cells p.cells 76) := ⟨_, rfl⟩
  have hB5 : Below W3.heap.size W3 W5 := by rw [hW5]; exact hb4.alloc hb4.size _
  have c7 : Blk W5 W4.heap.size p.cells 76 := by rw [hW5]; exact Blk.new W4 _ _
  have hin5 : p.In W5.heap.size W5 := by rw [hW5]; exact hin.grown ((Below.refl _ W4).alloc (Nat.le_refl _) _)
  have hl5 := HL3.out.below hB5
  have c3 := Hc3.out.below hB5 Hc3.out.lt
  have c6 := Hc6.out.below hB5 Hc6.out.lt
  have hb3s : base ≤ W3.heap.size := Nat.le_of_lt (Nat.lt_of_le_of_lt HL3.out.lp HL3.out.head.lt)
  have hBw5 : Below base w W5 := HB3.out.trans (hB5.mono hb3s)
  have Hk5 : Hid (∀ b, y.Off P N Bv w b → W5.heap[b]? = w.heap[b]? ∧ y.Off P N Bv3 W5 b) := hide (fun b hb => ⟨(hB5.block b (Hk3.out b hb).2.lt).trans (Hk3.out b hb).1, (Hk3.out b hb).2.grown hB5.size⟩)
  have HX : Hid (∀ W, Below W5.heap.size W5 W → ¬ n.net.heeds m → (∃ Bv' y', Live base P N (e.deliver n.net i) Bv' y' W ∧ KeptO y y' P N Bv Bv' w W) ∧ Below base w W) := hide (fun W hb hn => by
    rw [Hm.out] at hn
    rw [deliver_not hn]
    exact ⟨⟨Bv3, y, hl5.below hb, fun b hb' => ⟨(hb.block b (Hk5.out b hb').2.lt).trans (Hk5.out b hb').1, (Hk5.out b hb').2.grown hb.size⟩⟩, hBw5.trans (hb.mono (Nat.le_trans hb3s hB5.size))⟩)
  have HS := hide hsame
  have Hin5 := hide hin5
  have HL5 := hide hl5
  have HB5 := hide hBw5
  have Hp7 := hide c7
  have Hp3 := hide c3
  have Hp6 := hide c6
  have Hlo : Hid (0 < p.n → W3.heap.size ≤ p.rb) := hide hlo
  have HW5 := hide hW5
  have k6 := Hc6.out.below hb4 Hc6.out.lt
  have k3 := Hc3.out.below hb4 Hc3.out.lt
  have r60 : ∀ o, (W4.alloc o).cell? ⟨w.heap.size + 1, 0, none⟩ = some (.int .i64 m.F) := fun o => by have := (k6.alloc o).cell 0; simpa using this
  have r61 : ∀ o, (W4.alloc o).cell? ⟨w.heap.size + 1, 1, none⟩ = some (.int .i64 m.T) := fun o => by have := (k6.alloc o).cell 1; simpa using this
  have r30 : ∀ o, (W4.alloc o).cell? ⟨w.heap.size, 0, none⟩ = some (.int .i64 n.a.size) := fun o => by have := (k3.alloc o).cell 0; simpa [Hcells.out] using this
  have r33 : ∀ o, (W4.alloc o).cell? ⟨w.heap.size, 3, none⟩ = some (.int .i64 N) := fun o => by have := (k3.alloc o).cell 3; simpa [Hcells.out] using this
  have hsm : p.n ≤ 17592186044416 := hin.small
  have HL3' := HL3
  clear k6 k3 hsame hin hlo hb4 hB5 c7 hin5 hl5 c3 c6 hb3s hBw5 d2 HL3 HB3 Hc3 Hc6 HRd
  by_cases k1 : readErr m.b = 0
  rotate_left
  · have k1' : (readErr m.b == 0) = false := by simpa using k1
    have HP := hide (HX.out W5 (Below.refl _ _) (fun hh => k1 hh.1))
    rw [HW5.out] at HP
    simp only [PktM.val, PktM.cells] at *
    clear HX
    generalize readErr m.b = er at *
    go_wp2
    ((try simp only [Exit.inBlock, Exit.then]); refine bodyPost_ret (results_none rfl _ _ _) rfl ?_)
    exact ⟨rfl, HP.out⟩
  have hS : p.pkt.same (packet m.b) := by have := HS.out; unfold readOf at this; rwa [if_pos k1] at this
  have HS' := hide hS
  have HF' : Hid (p.F = (packet m.b).F) := hide hS.1
  have HT' : Hid (p.T = (packet m.b).T) := hide hS.2.1
  have Hn' : Hid (p.n = (packet m.b).n) := hide hS.2.2.1
  clear hS
  rw [k1]
  by_cases k2 : p.F = m.F
  rotate_left
  · have HP := hide (HX.out W5 (Below.refl _ _) (fun hh => k2 (HF'.out.trans hh.2.1)))
    have k2' : (p.F == m.F) = false := by simpa using k2
    rw [HW5.out] at HP
    simp only [PktM.cells] at HP
    simp only [PktM.val, PktM.cells]
    clear HX
    go_wp2
    ((try simp only [Exit.inBlock, Exit.then]); refine bodyPost_ret (results_none rfl _ _ _) rfl ?_)
    exact ⟨rfl, HP.out⟩
  by_cases k3 : p.T = m.T
  rotate_left
  · have HP := hide (HX.out W5 (Below.refl _ _) (fun hh => k3 (HT'.out.trans hh.2.2.1)))
    have k3' : (p.T == m.T) = false := by simpa using k3
    rw [HW5.out] at HP
    simp only [PktM.cells, k2] at HP
    simp only [PktM.val, PktM.cells, k2]
    clear HX
    go_wp2
    ((try simp only [Exit.inBlock, Exit.then]); refine bodyPost_ret (results_none rfl _ _ _) rfl ?_)
    exact ⟨rfl, HP.out⟩
  by_cases k4 : p.n = N
  rotate_left
  · have HP := hide (HX.out W5 (Below.refl _ _) (fun hh => k4 (by have h1 := (Net.row_zero.1 hh.2.2.2.1).1; have h2 := HN.out; have h3 : n.net.nodes = n.nodes := rfl; rw [← Hn'.out] at h1; omega)))
    have k4' : ((p.n : Int) == (N : Int)) = false := by simp; omega
    rw [HW5.out] at HP
    simp only [PktM.cells, k2, k3] at HP
    simp only [PktM.val, PktM.cells, k2, k3]
    clear HX
    go_wp2
    ((try simp only [Exit.inBlock, Exit.then]); refine bodyPost_ret (results_none rfl _ _ _) rfl ?_)
    exact ⟨rfl, HP.out⟩
  have hints : Ints p.ra N p.rb p.ro p.R W5 := by have := Hin5.out.ints; rwa [k4] at this
  have HA := hide (sallBelow_any p.ra N p.rc p.rb p.ro p.R n.a.size W5 hints (fun h0 => Hin5.out.lt (by omega)))
  have Hints := hide hints
  clear hints
  have hW5 := HW5.out
  simp only [PktM.cells, k2, k3, k4] at hW5
  rw [hW5] at HA
  simp only [PktM.val, PktM.cells, k2, k3, k4]
  go_wp2_with fail
  go_at_call 58
  refine HA.out.mono ?_
  rw [← hW5]
  clear HA
  rintro r W6 ⟨rfl, hb6⟩
  have c3 := Hp3.out.below hb6 Hp3.out.lt
  have c6 := Hp6.out.below hb6 Hp6.out.lt
  have Hb6' := hide hb6
  have x60 := c6.cell 0
  have x61 := c6.cell 1
  have x30 := c3.cell 0
  have x31 := c3.cell 1
  have x32 := c3.cell 2
  have x33 := c3.cell 3
  have x34 := c3.cell 4
  simp only [Hcells.out] at x30 x31 x32 x33 x34
  simp at x60 x61 x30 x31 x32 x33 x34
  have hrow : rowIn N p.R n.a.size = true ↔ n.net.row (packet m.b).n (packet m.b).R = 0 := by
    have h2 := HN.out
    have h3 : n.net.nodes = n.nodes := rfl
    have h4 := Hn'.out
    have h5 := HS'.out.2.2.2
    rw [rowIn_iff, Net.row_zero]
    constructor
    · intro h
      exact ⟨by omega, fun j hj => by rw [← h5 j (by show j < p.n; omega)]; exact h j (by omega)⟩
    · intro h j hj
      have := h.2 j (by omega)
      rw [← h5 j (by show j < p.n; omega)] at this
      exact this
  have Hrow := hide hrow
  clear hrow c3 c6 hb6 r60 r61 r30 r33 hW5
  cases k5 : rowIn N p.R n.a.size with
  | false =>
    have HP := hide (HX.out W6 Hb6'.out (fun hh => by have := Hrow.out.2 hh.2.2.2.1; rw [k5] at this; cases this))
    clear HX
    go_wp2
    ((try simp only [Exit.inBlock, Exit.then]); refine bodyPost_ret (results_none rfl _ _ _) rfl ?_)
    exact ⟨rfl, HP.out⟩
  | true =>
    have hbase5 : base ≤ W5.heap.size := Nat.le_of_lt (Nat.lt_of_le_of_lt HL5.out.lp HL5.out.head.lt)
    have hn6 : n.In base W6 := (H.out.below HB5.out (Nat.le_refl _)).below Hb6'.out hbase5
    have HH := hide (hears_any n m.T m.F W6 (hn6.mono (Nat.le_trans hbase5 Hb6'.out.size)) hck)
    rw [NetM.val, Hcells.out] at HH
    have Hn6 := hide hn6
    have Hbase5 := hide hbase5
    clear hn6 hbase5
    go_wp2_with fail
    go_at_call 88
    refine HH.out.mono ?_
    clear HH
    rintro r W7 ⟨rfl, hb7⟩
    have Hb7 := hide hb7
    by_cases k6 : 0 ≤ n.net.edge m.T m.F
    rotate_left
    · have HP := hide (HX.out W7 (Hb6'.out.trans (hb7.mono Hb6'.out.size)) (fun hh => k6 hh.2.2.2.2))
      simp only [k6, decide_false]
      clear HX hb7
      go_wp2
      ((try simp only [Exit.inBlock, Exit.then]); refine bodyPost_ret (results_none rfl _ _ _) rfl ?_)
      exact ⟨rfl, HP.out⟩
    simp only [k6, decide_true]
    clear HX
    go_wp2
    obtain ⟨tn, htn⟩ : ∃ tn : Nat, m.T = tn := ⟨m.T.toNat, by omega⟩
    obtain ⟨fn, hfn⟩ : ∃ fn : Nat, m.F = fn := ⟨m.F.toNat, by omega⟩
    have ht : tn < N := by omega
    have hf : fn < N := by omega
    have hb57 : Below W5.heap.size W5 W7 := Hb6'.out.trans (hb7.mono Hb6'.out.size)
    have hb57d : Below W5.heap.size W5 W7.drew := ⟨hb57.os, hb57.tape, hb57.output, hb57.size, hb57.block⟩
    have hl7 : Live base P N (e.without i) Bv3 y W7.drew := HL5.out.below hb57d
    have q6 := Hp6.out.below hb57d Hp6.out.lt
    have q7 := Hp7.out.below hb57d Hp7.out.lt
    have q3 := Hp3.out.below hb57d Hp3.out.lt
    have z60 := q6.cell 0
    have z61 := q6.cell 1
    have z72 := q7.cell 2
    have zh := hl7.head.cell 0
    have zr := hl7.rtrs.cell (tn * 2 + 1)
    rw [hl7.r1 tn ht] at zr
    have zt := (hl7.tolds tn ht).cell fn
    rw [hl7.t0 tn ht fn hf] at zt
    have zf := (hl7.tolds tn ht).frozen fn
    simp only [PktM.cells, k4] at z72
    simp [htn, hfn] at z60 z61 z72 zh
    have hti : (tn : Int) < (N : Int) := by omega
    have hfi : (fn : Int) < (N : Int) := by omega
    have hin7 := Hin5.out.below hb57d (Nat.le_refl _)
    have hlo3 : W3.heap.size ≤ p.rb := Hlo.out (by omega)
    have hoff7 : y.Off P N Bv3 W7.drew p.rb := ⟨by have := HL3'.out.head.lt; omega, by have := HL3'.out.rtrs.lt; omega, fun k hk => by have := (HL3'.out.tolds k hk).lt; omega, fun hv => by have := (HL3'.out.bag.lt _ hv).2; omega, Nat.lt_of_lt_of_le (hin7.lt (by omega)) hb57d.size, by have := HL3'.out.ylo; have := HL3'.out.head.lt; omega⟩
    have hset := hl7.setTold ht hf true (packet m.b).R p.ra p.rc p.rb p.ro (fun _ => ⟨hin7.ints.addr (by omega), hoff7, fun j hj => by rw [hin7.ints.cell j (by omega)]; exact congrArg (fun z => some (Value.int .i64 z)) (HS'.out.2.2.2 j (by show j < p.n; omega))⟩)
    simp only [if_true] at hset
    obtain ⟨W8, hW8⟩ : ∃ W8, W8 = W7.drew.setCell ⟨y.Tb tn, fn, none⟩ (.slice p.ra N p.rc) := ⟨_, rfl⟩
    rw [← hW8] at hset
    obtain ⟨y8, hset, hG8, hT8, hL8⟩ : ∃ y8 : Lay, Live base P N ((e.without i).tell tn fn (packet m.b).R) Bv3 y8 W8 ∧ y8.G = y.G ∧ y8.Tb = y.Tb ∧ y8.lo = y.lo := ⟨_, hset, rfl, rfl, rfl⟩
    have Hk8 : Hid (∀ b, y.Off P N Bv w b → W8.heap[b]? = w.heap[b]? ∧ y8.Off P N Bv3 W8 b) := hide (fun b hb => by
      obtain ⟨h1, h2⟩ := Hk5.out b hb
      have h3 := hb57d.block b h2.lt
      refine ⟨by rw [hW8, Below.heap_setCell _ _ _ _ (h2.t tn ht), h3]; exact h1, ⟨h2.p, by rw [hG8]; exact h2.g, by rw [hT8]; exact h2.t, h2.v, ?_, by rw [hL8]; exact h2.lo⟩⟩
      rw [hW8]; simpa using Nat.lt_of_lt_of_le h2.lt hb57d.size)
    have hB8 : Below base w W8 := by rw [hW8]; exact (HB5.out.trans (hb57d.mono Hbase5.out)).setCell (p := ⟨y.Tb tn, fn, none⟩) (HL0.out.lt tn ht) _
    have hn8 : n.In base W8 := H.out.below hB8 (Nat.le_refl _)
    have hheeds : n.net.heeds m := ⟨k1, HF'.out.symm.trans k2, HT'.out.symm.trans k3, Hrow.out.1 k5, k6⟩
    have hfit8 := (Hfit.out.without i).tell (i := tn) (k := fn) (f := (packet m.b).R) (fun j hj => by
      have := (Net.row_zero.1 hheeds.2.2.2.1).2 j (by have := Hn'.out; omega)
      exact this)
    have HLk := hide (engLook_all n base P N tn _ Bv3 y8 W8 hn8 hck HN.out hset hfit8 ht)
    have he : Eng.look n.net ((e.without i).tell tn fn (packet m.b).R) tn = e.deliver n.net i := by
      rw [Hm.out] at hheeds htn hfn
      rw [deliver_yes hheeds, ← Hm.out, show m.T.toNat = tn by rw [Hm.out]; omega, show m.F.toNat = fn by rw [Hm.out]; omega]
    have HLk : Hid (Calls Tryz.prog 71 #[n.val, .pointer (some ⟨P, 0, none⟩), .int .i64 tn] W8 fun r w' => r = .returned (.tuple #[]) ∧ (∃ y', Live base P N (e.deliver n.net i) Bv3 y' w' ∧ y'.G = y8.G ∧ y'.Tb = y8.Tb ∧ y'.lo = y8.lo) ∧ Below base W8 w' ∧ Kept y8 P N Bv3 W8 w') := by rw [← he]; exact HLk
    rw [NetM.val, Hcells.out] at HLk
    have hTlt := (HL0.out.tolds tn ht).lt
    have u3 : Blk W8 w.heap.size n.cells 27 := by rw [hW8]; exact q3.other (by omega) _ _
    have u6 : Blk W8 (w.heap.size + 1) #[.int .i64 m.F, .int .i64 m.T, .string ⟨m.b.toArray⟩] 69 := by rw [hW8]; exact q6.other (by omega) _ _
    have v30 := u3.cell 0
    have v31 := u3.cell 1
    have v32 := u3.cell 2
    have v33 := u3.cell 3
    have v34 := u3.cell 4
    have v61 := u6.cell 1
    simp only [Hcells.out] at v30 v31 v32 v33 v34
    simp [htn] at v30 v31 v32 v33 v34 v61
    have HB8 := hide hB8
    have HW8 := hide hW8
    clear HW5 Hm Hcells HBv HN HW2 HS HS' HF' HT' Hn' Hrow hheeds hfit8 he u3 u6 hn8 hB8 hset hoff7 hlo3 hin7 q6 q7 q3 hl7 hb57 hb57d hb7 hW8 hTlt k1 k2 k3 k4 k5 k6 x60 x61 x30 x31 x32 x33 x34 htn hfn hW5
    refine wp_region_last 14 _ (fun W => W = W7.drew) (valsE [.pointer (some ⟨P, 0, none⟩), .pointer (some ⟨P, 0, none⟩), .pointer (some ⟨P, 0, none⟩), .slice (some ⟨y.G, 0, none⟩) N y.gc, .pointer (some ⟨w.heap.size + 1, 1, none⟩), .int .i64 (tn : Int), .pointer (some ⟨y.G, tn * 2, none⟩), .pointer (some ⟨y.G, tn * 2 + 1, none⟩), .slice (some ⟨y.Tb tn, 0, none⟩) N (y.Tc tn), .pointer (some ⟨w.heap.size + 1, 0, none⟩), .int .i64 (fn : Int), .pointer (some ⟨W4.heap.size, 2, none⟩), .slice p.ra N p.rc, .pointer (some ⟨y.Tb tn, fn, none⟩)]) (fun _ W => W = W8) (fun _ _ _ => True) (by kernel_rfl) (by kernel_rfl) (by kernel_rfl) (by kernel_rfl) (by kernel_rfl) rfl rfl ⟨?_, ?_, ?_, ?_, ?_, ?_, ?_, ?_, ?_, ?_, ?_, ?_, ?_, ?_, trivial⟩ ?_ trivial ?_
    rotate_right
    · intro t W hG _
      simp only [fill, Act.put, List.setIfInBounds_toArray, List.set_cons_zero, List.set_cons_succ]
      subst hG
      go_wp2_with fail
      go_at_call 71
      refine HLk.out.mono ?_
      rintro r w9 ⟨rfl, ⟨y9, hl9, hG9, hT9⟩, hb9, hk9⟩
      have HF : Hid ((∃ Bv' y', Live base P N (e.deliver n.net i) Bv' y' w9 ∧ KeptO y y' P N Bv Bv' w w9) ∧ Below base w w9) := hide ⟨⟨Bv3, y9, hl9, fun b hb => ⟨(hk9 b (Hk8.out b hb).2).trans (Hk8.out b hb).1, ⟨(Hk8.out b hb).2.p, by rw [hG9]; exact (Hk8.out b hb).2.g, by rw [hT9.1]; exact (Hk8.out b hb).2.t, (Hk8.out b hb).2.v, Nat.lt_of_lt_of_le (Hk8.out b hb).2.lt hb9.size, by rw [hT9.2]; exact (Hk8.out b hb).2.lo⟩⟩⟩, HB8.out.trans hb9⟩
      clear hl9 hb9 hk9 hG9 hT9 HB8 HLk
      go_wp2
      go_end0
      exact ⟨rfl, HF.out⟩
    rotate_right
    · intro t W hG hE _ K hK
      have e12 := valsE_get (hE 12 (by omega)) rfl
      have e13 := valsE_get (hE 13 (by omega)) rfl
      subst hG
      simp only [fill, Act.put, List.setIfInBounds_toArray, List.set_cons_zero, List.set_cons_succ, e12, e13] at hK ⊢
      rw [if_pos (by rfl)]
      go_simp
      exact hK undef _ HW8.out.symm
    all_goals intro t W hG hp ht K hK
    all_goals clear ht
    all_goals subst hG
    all_goals simp only [fill, Act.put, List.setIfInBounds_toArray, List.set_cons_zero, List.set_cons_succ] at hK ⊢
    · rw [if_pos (by rfl)]
      go_simp
      exact hK _ _ rfl rfl (fun _ _ _ h => h)
    · have e0 := valsE_get (hp 0 (by decide)) rfl
      simp only [e0] at hK ⊢
      rw [if_pos (by rfl)]
      go_simp
      exact hK _ _ rfl rfl (fun _ _ _ h => h)
    · have e1 := valsE_get (hp 1 (by decide)) rfl
      simp only [e1] at hK ⊢
      rw [if_pos (by rfl)]
      go_simp
      exact hK _ _ rfl rfl (fun _ _ _ h => h)
    · have e2 := valsE_get (hp 2 (by decide)) rfl
      simp only [e2] at hK ⊢
      rw [if_pos (by rfl)]
      go_simp
      exact hK _ _ rfl rfl (fun _ _ _ h => h)
    · rw [if_pos (by rfl)]
      go_simp
      exact hK _ _ rfl rfl (fun _ _ _ h => h)
    · have e4 := valsE_get (hp 4 (by decide)) rfl
      simp only [e4] at hK ⊢
      rw [if_pos (by rfl)]
      go_simp
      exact hK _ _ rfl rfl (fun _ _ _ h => h)
    · have e3 := valsE_get (hp 3 (by decide)) rfl
      have e5 := valsE_get (hp 5 (by decide)) rfl
      simp only [e3, e5] at hK ⊢
      rw [if_pos (by rfl)]
      go_simp
      exact hK _ _ rfl rfl (fun _ _ _ h => h)
    · have e6 := valsE_get (hp 6 (by decide)) rfl
      simp only [e6] at hK ⊢
      rw [if_pos (by rfl)]
      go_simp
      exact hK _ _ rfl rfl (fun _ _ _ h => h)
    · have e7 := valsE_get (hp 7 (by decide)) rfl
      simp only [e7] at hK ⊢
      rw [if_pos (by rfl)]
      go_simp
      exact hK _ _ rfl rfl (fun _ _ _ h => h)
    · rw [if_pos (by rfl)]
      go_simp
      exact hK _ _ rfl rfl (fun _ _ _ h => h)
    · have e9 := valsE_get (hp 9 (by decide)) rfl
      simp only [e9] at hK ⊢
      rw [if_pos (by rfl)]
      go_simp
      exact hK _ _ rfl rfl (fun _ _ _ h => h)
    · rw [if_pos (by rfl)]
      go_simp
      exact hK _ _ rfl rfl (fun _ _ _ h => h)
    · have e11 := valsE_get (hp 11 (by decide)) rfl
      simp only [e11] at hK ⊢
      rw [if_pos (by rfl)]
      go_simp
      exact hK _ _ rfl rfl (fun _ _ _ h => h)
    · have e8 := valsE_get (hp 8 (by decide)) rfl
      have e10 := valsE_get (hp 10 (by decide)) rfl
      simp only [e8, e10] at hK ⊢
      rw [if_pos (by rfl)]
      go_simp
      exact hK _ _ rfl rfl (fun _ _ _ h => h)

theorem deliver_any (n : NetM) (base P N i : Nat) (e : Eng) (Bv : Value) (y : Lay) (w : World) (h : n.In base w) (hck : n.net.check = 0) (hN : n.nodes = N) (hL : Live base P N e Bv y w) (hfit : e.Fit n.net) (hi : i < e.bag.length) :
    Calls Tryz.prog 69 #[n.val, .pointer (some ⟨P, 0, none⟩), .int .i64 i] w fun r w' => r = .returned (.tuple #[]) ∧ (∃ Bv' y', Live base P N (e.deliver n.net i) Bv' y' w') ∧ Below base w w' :=
  (deliver_all n base P N i e Bv y w h hck hN hL hfit hi).mono (fun _ _ ⟨h1, ⟨B, y', h2, _⟩, h3⟩ => ⟨h1, ⟨B, y', h2⟩, h3⟩)

end Go.Proofs.YtjhkadffaephmabGreat
