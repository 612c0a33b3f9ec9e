/-
  wire.Read.
-/
import Derived.Test.YtjhkadffaephmaaWireW
namespace Go.Proofs.Ytjhkadffaephmaa
set_option maxRecDepth 100000
open Go.RowKit

/-- While the routes of a packet are read: the result's block, the packet's, the bytes' (where there are), and the row that grows, in blocks from C on. -/
structure ReadI (w : World) (b4 B C : Nat) (F T : Int) (rl bl : List UInt8) (k : Nat) (W : World) : Prop where
  below : Below w.heap.size w W
  res : Blk W w.heap.size #[.int .i64 0, .int .i64 0, .slice none 0 0] 79
  lo : w.heap.size < b4
  mid : b4 < C
  apart : B ≠ b4
  far : B < C
  cur : ∃ v, Blk W b4 #[.int .i64 F, .int .i64 T, v] 79 ∧ W.ownsRow C 3 1 v k (intsL (fun i => ((rl.getD i 0).toNat : Int)) k)
  bytes : ∀ (j : Nat) (h : j < bl.length), W.cell? ⟨B, j, none⟩ = some (.int .u8 (bl[j].toNat : Int))
  lt : C ≤ W.heap.size

theorem ReadI.pkt {w : World} {b4 B C : Nat} {F T : Int} {rl bl : List UInt8} {k : Nat} {W : World} (h : ReadI w b4 B C F T rl bl k W) (hk : k ≤ 60) :
    ∃ p : PktM, Blk W b4 p.cells 79 ∧ p.pkt = ⟨F, T, k, fun i => ((rl.getD i 0).toNat : Int)⟩ ∧ p.In W.heap.size W ∧ (0 < p.n → w.heap.size < p.rb) ∧ (0 < p.n → Lies W p.rb) := by
  obtain ⟨v, hv, ho⟩ := h.cur
  have := h.lo
  have := h.mid
  rcases Go.Joins.ownsRow_forms ho with ⟨rfl, rfl⟩ | ⟨gb, cap, rfl⟩
  · exact ⟨⟨F, T, none, 0, 0, 0, 0, _⟩, hv, rfl, ⟨⟨fun h0 => absurd h0 (Nat.lt_irrefl _), fun i hi => absurd hi (Nat.not_lt_zero _), Nat.zero_le _⟩, fun h0 => absurd h0 (Nat.lt_irrefl _), Nat.zero_le _⟩, fun h0 => absurd h0 (Nat.lt_irrefl _), fun h0 => absurd h0 (Nat.lt_irrefl _)⟩
  · have hlt := ho.lt gb rfl
    refine ⟨⟨F, T, some ⟨gb, 0, none⟩, k, cap, gb, 0, _⟩, hv, rfl, ⟨⟨fun _ => rfl, fun i hi => ?_, by show k ≤ maxLen; unfold maxLen; omega⟩, fun _ => hlt.2, by show k ≤ _; omega⟩, fun _ => by show w.heap.size < gb; omega, fun _ => Lies.own ho⟩
    have hi' : i < k := hi
    have := ho.cellAt i (by omega)
    rw [intsL_get hi'] at this
    show W.cell? ⟨gb, 0 + i, none⟩ = _
    rw [Nat.zero_add]; exact this

/-- One more route is appended, and stored. -/
theorem ReadI.put {w : World} {b4 B C : Nat} {F T : Int} {rl bl : List UInt8} {k : Nat} {W W4 : World} {v : Value} {g cap : Nat} (h : ReadI w b4 B C F T rl bl k W)
    (hown : W4.ownsRow C 3 1 (.slice (some ⟨g, 0, none⟩) (k + 1) cap) (k + 1) (intsL (fun i => ((rl.getD i 0).toNat : Int)) k ++ [.int .i64 ((rl.getD k 0).toNat : Int)]))
    (hv : Blk W b4 #[.int .i64 F, .int .i64 T, v] 79) (hb : Below C W W4) :
    ReadI w b4 B C F T rl bl (k + 1) (W4.setCell ⟨b4, 2, none⟩ (.slice (some ⟨g, 0, none⟩) (k + 1) cap)) := by
  have h1 := h.lo
  have h2 := h.mid
  have h3 := h.lt
  have h4 := h.far
  have hb4 := hv.below hb (by omega)
  refine ⟨(h.below.trans (hb.mono (by omega))).setCell (p := ⟨b4, 2, none⟩) (by show w.heap.size ≤ b4; omega) _, (h.res.below hb (by omega)).other (by omega) _ _, h1, h2, h.apart, h4, ⟨.slice (some ⟨g, 0, none⟩) (k + 1) cap, ?_, ?_⟩, fun j hj => ?_, ?_⟩
  · have := hb4.set 2 (.slice (some ⟨g, 0, none⟩) (k + 1) cap)
    simpa using this
  · rw [intsL_succ]
    exact ownsRow_setCell_below hown (by show b4 < C; omega) _
  · rw [cell_other h.apart, hb.cell (p := ⟨B, j, none⟩) h4]
    exact h.bytes j hj
  · have := hb.size
    simp; omega

/-- What a call that reads answers. -/
def ReadAns (l : List UInt8) (base : Nat) (e : Ending) (w' : World) : Prop :=
  ∃ p : PktM, e = .returned (.tuple #[p.val, .int .i64 (readErr l)]) ∧ p.pkt.same (readOf l) ∧ p.In w'.heap.size w' ∧ (0 < p.n → base ≤ p.rb ∧ Lies w' p.rb)
theorem readAns_bad {l : List UInt8} {base : Nat} {w' : World} {x : Int} (hx : readErr l = x) (h0 : x ≠ 0) : ReadAns l base (.returned (.tuple #[.agg #[.int .i64 0, .int .i64 0, .slice none 0 0], .int .i64 x])) w' :=
  ⟨⟨0, 0, none, 0, 0, 0, 0, fun _ => 0⟩, by rw [hx]; rfl, by unfold readOf; rw [if_neg (by omega)]; exact ⟨rfl, rfl, rfl, fun _ _ => rfl⟩, ⟨⟨fun h => absurd h (Nat.lt_irrefl _), fun i hi => absurd hi (Nat.not_lt_zero _), Nat.zero_le _⟩, fun h => absurd h (Nat.lt_irrefl _), Nat.zero_le _⟩, fun h => absurd h (Nat.lt_irrefl _)⟩

theorem PktM.In.set3 {p : PktM} {B : Nat} {W : World} (h : p.In W.heap.size W) (hB : 0 < p.n → B < p.rb) (v0 v1 v2 : Value) : p.In (Ytjhkadffaephmaa.set3 W B v0 v1 v2).heap.size (Ytjhkadffaephmaa.set3 W B v0 v1 v2) := by
  have hs : (Ytjhkadffaephmaa.set3 W B v0 v1 v2).heap.size = W.heap.size := by unfold Ytjhkadffaephmaa.set3; simp
  rw [hs]
  refine ⟨⟨h.ints.addr, fun i hi => ?_, h.ints.len⟩, h.lt, h.small⟩
  have hne : p.rb ≠ B := by have := hB (by omega); omega
  unfold Ytjhkadffaephmaa.set3
  rw [cell_other hne, cell_other hne, cell_other hne]
  exact h.ints.cell i hi

theorem read_idx {l : List UInt8} {i : Nat} (h : i < (ByteArray.mk l.toArray).size) : (ByteArray.mk l.toArray)[i] = l.getD i 0 := by
  have h' : i < l.length := by simpa [ByteArray.size] using h
  rw [List.getD_eq_getElem?_getD, List.getElem?_eq_getElem h']
  rfl

set_option maxHeartbeats 4000000 in
theorem read_any (l : List UInt8) (w : World) (hl : l.length ≤ maxLen) :
    Calls Try.prog 99 #[txt l] w fun e w' => ReadAns l w.heap.size e w' ∧ Below w.heap.size w w' := by
  unfold maxLen at hl
  have hsz : (ByteArray.mk l.toArray).size = l.length := by simp [ByteArray.size]
  have b0 := Blk.new w #[.int .i64 0, .int .i64 0, .slice none 0 0] 79
  have hB0 : Below w.heap.size w (w.alloc (.cells #[.int .i64 0, .int .i64 0, .slice none 0 0] 79)) := (Below.refl _ w).alloc (Nat.le_refl _) _
  unfold txt
  by_cases h60 : 60 < l.length
  · have HBe := hide hB0
    have d0 := b0.cell 0
    have d1 := b0.cell 1
    have d2 := b0.cell 2
    have df := b0.frozen
    simp at d0 d1 d2
    have Hx : Hid (readErr l = 2) := hide (by unfold readErr; rw [if_pos h60])
    generalize hs : ByteArray.mk l.toArray = s at *
    have h60i : (60 : Int) < (s.size : Int) := by omega
    clear h60 hs b0 hB0
    go_enter Try.func99, Try.ntmps99
    go_wp2
    exact bodyPost_ret (v := .tuple #[.agg #[.int .i64 0, .int .i64 0, .slice none 0 0], .int .i64 2]) (by simp [results, Try.results99, go_sem]) rfl ⟨readAns_bad Hx.out (by decide), HBe.out⟩
  by_cases h6 : l.length < 6
  · have HBe := hide hB0
    have d0 := b0.cell 0
    have d1 := b0.cell 1
    have d2 := b0.cell 2
    have df := b0.frozen
    simp at d0 d1 d2
    have Hx : Hid (readErr l = 1) := hide (by unfold readErr; rw [if_neg h60, if_pos h6])
    generalize hs : ByteArray.mk l.toArray = s at *
    have h60i : ¬ (60 : Int) < (s.size : Int) := by omega
    have h6i : (s.size : Int) < 6 := by omega
    clear h60 h6 hs b0 hB0
    go_enter Try.func99, Try.ntmps99
    go_wp2
    exact bodyPost_ret (v := .tuple #[.agg #[.int .i64 0, .int .i64 0, .slice none 0 0], .int .i64 1]) (by simp [results, Try.results99, go_sem]) rfl ⟨readAns_bad Hx.out (by decide), HBe.out⟩
  obtain ⟨W0, hW0⟩ : ∃ W0, W0 = w.alloc (.cells #[.int .i64 0, .int .i64 0, .slice none 0 0] 79) := ⟨_, rfl⟩
  rw [← hW0] at b0 hB0
  have hw0 : W0.heap.size = w.heap.size + 1 := by rw [hW0]; simp
  have hg : ∀ (i : Nat) (h : i < (ByteArray.mk l.toArray).size), (ByteArray.mk l.toArray)[i] = l.getD i 0 := fun i h => read_idx h
  have Hsp := hide (split6 l (by omega))
  generalize hs : ByteArray.mk l.toArray = s at *
  have h60i : ¬ (60 : Int) < (s.size : Int) := by omega
  have h6i : ¬ (s.size : Int) < 6 := by omega
  have i1 : (1 : Int) < (s.size : Int) := by omega
  have i2 : (2 : Int) < (s.size : Int) := by omega
  have g1 : (s[1]'(by omega)).toNat = (l.getD 1 0).toNat := by rw [hg 1 (by omega)]
  have g2 : (s[2]'(by omega)).toNat = (l.getD 2 0).toNat := by rw [hg 2 (by omega)]
  have hF := (l.getD 1 0).toNat_lt
  have hT := (l.getD 2 0).toNat_lt
  obtain ⟨F, eF⟩ : ∃ F, (l.getD 1 0).toNat = F := ⟨_, rfl⟩
  obtain ⟨T, eT⟩ : ∃ T, (l.getD 2 0).toNat = T := ⟨_, rfl⟩
  rw [eF] at g1 hF
  rw [eT] at g2 hT
  have HF := hide eF
  have HT := hide eT
  clear hg eF eT
  go_enter Try.func99, Try.ntmps99
  go_wp2
  rw [← hW0]
  clear hW0
  go_cut [4] from 17 to 23 (fun p4 wx => ∃ b4 : Nat, p4 = .pointer (some ⟨b4, 0, none⟩) ∧ Hid (w.heap.size < b4 ∧ Blk wx b4 #[.int .i64 (F : Int), .int .i64 (T : Int), .slice none 0 0] 79 ∧ Below (w.heap.size + 1) W0 wx))
  case first =>
    go_region
    go_wp2_with fail
    go_meet
    exact ⟨_, rfl, hide ⟨by omega, by first | exact Blk.new' (by simp [hw0]) | skip, ((Below.refl _ W0).alloc (by omega) _).trans ⟨rfl, rfl, rfl, Nat.le_refl _, fun _ _ => rfl⟩⟩⟩
  case rest =>
    obtain ⟨b4, rfl, HC⟩ := hcut
    obtain ⟨a, b, c, d, r, x, y, e6⟩ := Hsp.out
    have hlr : l.length = r.length + 6 := by rw [e6]; simp
    obtain ⟨rs, hrs⟩ : ∃ rs, rs = ByteArray.mk r.toArray := ⟨_, rfl⟩
    have hrz : rs.size = r.length := by rw [hrs]; simp [ByteArray.size]
    have hex1 : s.extract 4 (l.length - 2) = rs := by
      rw [← hs, hrs, ByteArray.extract_mk]
      congr 2
      rw [hlr, e6]
      simp
    have hex2 : s.extract 4 ((l.length : Int) - 2).toNat = rs := by
      rw [← hex1]
      congr 1
      omega
    have hn2 : (4 : Int) ≤ (l.length : Int) - 2 := by omega
    have HI0 : Hid (∀ (cap : Nat) (m : Nat × Nat), ReadI w b4 wc.heap.size (wc.heap.size + 1) F T r r 0 (wc.drew.alloc (.cells (bytesRow rs cap) 5 m))) := hide (fun cap m => by
      obtain ⟨q1, q2, q3⟩ := HC.out
      have hbb : Below wc.heap.size wc (wc.drew.alloc (.cells (bytesRow rs cap) 5 m)) := (show Below wc.heap.size wc wc.drew from ⟨rfl, rfl, rfl, Nat.le_refl _, fun _ _ => rfl⟩).trans ((Below.refl _ wc.drew).alloc (Nat.le_refl _) _)
      have q3s := q3.size
      refine ⟨(hB0.trans (q3.mono (by omega))).trans (hbb.mono (by omega)), (b0.below q3 (by omega)).below hbb (by omega), q1, Nat.lt_succ_of_lt q2.lt, (by have := q2.lt; omega), Nat.lt_succ_self _, ⟨_, q2.below hbb q2.lt, World.ownsRow_nil _ _ _ _⟩, fun j hj => ?_, by simp⟩
      have := World.cell?_alloc_mark wc.drew (bytesRow rs cap) 5 m j
      have e2 : rs.data.size = r.length := by rw [hrs]; simp
      refine this.trans ?_
      rw [bytesRow_at rs cap j (by omega)]
      have e3 : rs.data[j]'(by omega) = r[j] := by simp [hrs]
      rw [e3])
    have hcv := fun u => run_bytes_of_string (P := Try.prog) u 9 131 5 rs Try.underlying9 Try.underlying131 Try.underlying5
    have H6 := hide e6
    have Hrs := hide hrs
    obtain ⟨i1', hi1, hy0, hy1, hy2⟩ := info_parts Try.infoInt
    have Hhs := hide hs
    have HLR := hide hlr
    have hr54 : r.length ≤ 54 := by omega
    clear hs e6 hrs hlr
    go_wp2
    have HI1 := hide (HI0.out (grownCap wc rs.size 0 5) ((bytesRow rs (grownCap wc rs.size 0 5)).size, (bytesRow rs (grownCap wc rs.size 0 5)).size + 1))
    simp only [hrz] at HI1
    clear HI0 HC hcv
    go_loopw [6, 31] (fun _ q wr => ∃ k : Nat, k ≤ r.length ∧ q = .int .i64 k ∧ Hid (ReadI w b4 wc.heap.size (wc.heap.size + 1) F T r r k wr)) (fun _ q _ => r.length - (intOf q).toNat)
    case atStart => exact ⟨0, Nat.zero_le _, rfl, HI1⟩
    case round =>
      obtain ⟨k, hk, rfl, HI⟩ := hrel
      by_cases hlt : k < r.length
      · have hc := HI.out.bytes k hlt
        have hrk := (r[k]).toNat_lt
        have hgd : r.getD k 0 = r[k] := by rw [List.getD_eq_getElem?_getD, List.getElem?_eq_getElem hlt]; rfl
        obtain ⟨v, hv, ho⟩ := HI.out.cur
        have hlo := HI.out.lo
        have hmid := HI.out.mid
        have hlt' := HI.out.lt
        have hput := fun W4 g cap h1 h2 => HI.out.put (W4 := W4) (g := g) (cap := cap) h1 hv h2
        rw [hgd] at hput
        have Hput := hide hput
        have v2 := hv.cell 2
        have vf := hv.frozen
        simp at v2
        have Hv := hide hv
        have Ho := hide ho
        generalize (r[k]).toNat = rv at *
        have hki : (k : Int) < (r.length : Int) := by omega
        clear hput hv ho hgd
        go_wp2_with (at_builtin; refine wpList_append_lies _ rfl _ _ _ rfl (wc.heap.size + 1) 3 i1' _ 1 8 Try.underlying32 hi1 hy0 hy1 hy2 rfl (by decide) _ k _ rfl (Ho.out.alloc _) ⟨wr.heap.size, 0, none⟩ 1 1 [.int .i64 (rv : Int)] rfl rfl ?c1 ?c2 (by decide) ?c3 ?c4 ?c5 _ rfl ?_)
        all_goals try (case c1 => exact World.news_of_block (Blk.new' (by simp)))
        all_goals try (case c2 => simp [Value.oneCell'])
        all_goals try (case c3 => unfold maxLen; omega)
        all_goals try (case c4 => omega)
        all_goals try (case c5 => simp; omega)
        intro g' cap' w4 hown2 hgrow hat2 hlt2
        have hbw := (((Below.refl (wc.heap.size + 1) wr).alloc (by omega) (.cells #[.int .i64 (rv : Int)] 3)).trans (grown_below hgrow (fun g hg => (Ho.out.lt g hg).1) (by simp; omega)))
        have HN := hide (Hput.out w4 g' cap' hown2 hbw)
        have hb4 := Hv.out.below hbw (by omega)
        have v2' := hb4.cell 2
        have vf' := hb4.frozen 2
        simp at v2'
        clear hown2 hgrow hat2 hlt2 Hput Hv Ho hb4 HI hbw
        go_wp2
        go_roundw
        case rel =>
          first
          | exact ⟨k + 1, by omega, by go_num, HN⟩
          | ((repeat apply Exists.intro); refine ⟨?_, rfl⟩; exact ⟨k + 1, by omega, by go_num, HN⟩)
        case measure => simp [intOf]; omega
      · have hkn : k = r.length := by omega
        subst hkn
        obtain ⟨p, hp, hpk, hpi, hpr, hps⟩ := HI.out.pkt (by omega)
        have p0 := hp.cell 0
        have p1 := hp.cell 1
        have p2 := hp.cell 2
        simp [PktM.cells] at p0 p1 p2
        have HW := hide (write_any p wr hpi)
        simp only [PktM.val, PktM.cells, txt] at HW
        go_wp2_with fail
        go_at_call 52
        refine HW.out.mono ?_
        rintro e w5 ⟨rfl, hb5⟩
        have hsame : p.pkt.same (packet l) := by
          have h1 := packet_split a b c d r x y
          have e6 := H6.out
          rw [← e6] at h1
          rw [hpk]
          have eF := HF.out
          have eT := HT.out
          have q1 : (F : Int) = (packet l).F := by rw [← eF]; rfl
          have q2 : (T : Int) = (packet l).T := by rw [← eT]; rfl
          exact ⟨q1, q2, h1.2.2.1.symm, fun i hi => (h1.2.2.2 i (by have := h1.2.2.1; simp only at this hi; omega)).symm⟩
        have hres := HI.out.res.below hb5 HI.out.res.lt
        have hcur := hp.below hb5 hp.lt
        have hBw := HI.out.below.trans (hb5.mono HI.out.below.size)
        have hst : s.toList = l := by rw [← Hhs.out]; simp
        have hpi5 := hpi.grown hb5
        rw [Pkt.same_err hsame, Pkt.same_text hsame]
        have r0 := hres.cell 0
        have r1 := hres.cell 1
        have r2 := hres.cell 2
        have rf := hres.frozen
        simp at r0 r1 r2
        by_cases hok : (packet l).err = 0
        · by_cases heq : (packet l).bytes = l
          · have Hx : Hid (readErr l = 0) := hide (by unfold readErr; rw [if_neg h60, if_neg h6, if_pos ⟨hok, heq⟩])
            have htx : (packet l).text = l := by unfold Pkt.text; rw [if_pos hok, heq]
            have b3 := hres.set3 (.int .i64 p.F) (.int .i64 p.T) (.slice p.ra p.n p.rc)
            have e0 := b3.cell 0
            have e1 := b3.cell 1
            have e2 := b3.cell 2
            have c0 := hcur.cell 0
            have c1 := hcur.cell 1
            have c2 := hcur.cell 2
            unfold Ytjhkadffaephmaa.set3 at e0 e1 e2
            simp [PktM.cells] at e0 e1 e2 c0 c1 c2
            have HA : Hid (ReadAns l w.heap.size (.returned (.tuple #[.agg #[.int .i64 p.F, .int .i64 p.T, .slice p.ra p.n p.rc], .int .i64 0])) (set3 w5 w.heap.size (.int .i64 p.F) (.int .i64 p.T) (.slice p.ra p.n p.rc))) :=
              hide ⟨p, by rw [Hx.out]; rfl, by unfold readOf; rw [if_pos Hx.out]; exact hsame, hpi5.set3 hpr _ _ _, fun h0 => ⟨Nat.le_of_lt (hpr h0), by unfold Ytjhkadffaephmaa.set3; exact ((((hps h0).grown hb5).set _ _).set _ _).set _ _⟩⟩
            have HBe := hide (below3 hBw (Nat.le_refl _) (.int .i64 p.F) (.int .i64 p.T) (.slice p.ra p.n p.rc))
            have hbe : (l == l) = true := beq_self_eq_true l
            rw [hok, htx]
            clear hok heq htx hsame hres hcur hBw hpi5 hpk hpi hpr hps hp p0 p1 p2 HI HW hb5 b3
            go_wp2
            exact bodyPost_ret (v := .tuple #[.agg #[.int .i64 p.F, .int .i64 p.T, .slice p.ra p.n p.rc], .int .i64 0]) (by simp [results, Try.results99, go_sem, e0, e1, e2]) rfl ⟨HA.out, HBe.out⟩
          · have Hx : Hid (readErr l = 1) := hide (by unfold readErr; rw [if_neg h60, if_neg h6, if_neg (fun h => heq h.2)])
            have htx : (packet l).text ≠ l := by unfold Pkt.text; rw [if_pos hok]; exact heq
            have hbe : ((packet l).text == l) = false := by simpa using htx
            have b3 := hres.set3 (.int .i64 0) (.int .i64 0) (.slice none 0 0)
            have e0 := b3.cell 0
            have e1 := b3.cell 1
            have e2 := b3.cell 2
            unfold Ytjhkadffaephmaa.set3 at e0 e1 e2
            simp at e0 e1 e2
            have HBe := hide (below3 hBw (Nat.le_refl _) (.int .i64 0) (.int .i64 0) (.slice none 0 0))
            rw [hok]
            generalize (packet l).text = tx at *
            clear hok heq htx hsame hres hcur hBw hpi5 hpk hpi hpr hps hp p0 p1 p2 HI HW hb5 b3
            go_wp2
            exact bodyPost_ret (v := .tuple #[.agg #[.int .i64 0, .int .i64 0, .slice none 0 0], .int .i64 1]) (by simp [results, Try.results99, go_sem, e0, e1, e2]) rfl ⟨readAns_bad Hx.out (by decide), HBe.out⟩
        · have Hx : Hid (readErr l = 1) := hide (by unfold readErr; rw [if_neg h60, if_neg h6, if_neg (fun h => hok h.1)])
          have hbe : ((packet l).err != 0) = true := by simpa using hok
          have b3 := hres.set3 (.int .i64 0) (.int .i64 0) (.slice none 0 0)
          have e0 := b3.cell 0
          have e1 := b3.cell 1
          have e2 := b3.cell 2
          unfold Ytjhkadffaephmaa.set3 at e0 e1 e2
          simp at e0 e1 e2
          have HBe := hide (below3 hBw (Nat.le_refl _) (.int .i64 0) (.int .i64 0) (.slice none 0 0))
          generalize (packet l).err = er at *
          clear hok hsame hres hcur hBw hpi5 hpk hpi hpr hps hp p0 p1 p2 HI HW hb5 b3
          go_wp2
          exact bodyPost_ret (v := .tuple #[.agg #[.int .i64 0, .int .i64 0, .slice none 0 0], .int .i64 1]) (by simp [results, Try.results99, go_sem, e0, e1, e2]) rfl ⟨readAns_bad Hx.out (by decide), HBe.out⟩

end Go.Proofs.Ytjhkadffaephmaa
