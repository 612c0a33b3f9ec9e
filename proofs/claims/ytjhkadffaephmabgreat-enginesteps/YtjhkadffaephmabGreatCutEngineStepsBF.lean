/-
  Our own texts, bundled: a claim holds few files.
-/
import Derived.Test.YtjhkadffaephmabGreatCutEngineStepsBD
import Derived.Test.YtjhkadffaephmabGreatCutEngineStepsBE
import Derived.Test.YtjhkadffaephmabGreatCutEngineStepsAE
import Derived.Test.YtjhkadffaephmabGreatCutEngineStepsAI
import Derived.Test.YtjhkadffaephmabGreatCutEngineStepsAJ
import Derived.Laws.BitsAllLaws
/-
  An engine that was changed, as one that lies in memory.
-/
namespace Go.Proofs.YtjhkadffaephmabGreat
set_option maxRecDepth 100000
open Go.RowKit

theorem range_getD (l : List Mail) : (List.range l.length).map (fun i => l.getD i noMail) = l := by
  apply List.ext_getElem?
  intro i
  by_cases h : i < l.length
  · simp [List.getElem?_map, List.getElem?_range h, List.getD_eq_getElem?_getD, List.getElem?_eq_getElem h]
  · rw [List.getElem?_eq_none (by simp; omega), List.getElem?_eq_none (by omega)]

/-- All that an engine holds lies from lo on. -/
structure EngM.From (x : EngM) (lo : Nat) : Prop where
  g : 0 < x.rs.gn → lo ≤ x.rs.gb
  r : ∀ i, i < x.rs.gn → (0 < (x.rs.r i).rl → lo ≤ (x.rs.r i).rb) ∧ (x.rs.r i).T.From lo
  b : 0 < x.bag.bn → lo ≤ x.bag.bb
  cap : x.bag.bn ≤ x.bag.bc
theorem EngM.From.mono {x : EngM} {lo lo' : Nat} (h : x.From lo) (hl : lo' ≤ lo) : x.From lo' :=
  ⟨fun h0 => Nat.le_trans hl (h.g h0), fun i hi => ⟨fun h0 => Nat.le_trans hl ((h.r i hi).1 h0), (h.r i hi).2.mono hl⟩, fun h0 => Nat.le_trans hl (h.b h0), h.cap⟩

theorem own_cap {W : World} {lo : Nat} {a : Option Addr} {k c n : Nat} {xs : List Value} {t : TypeId} {z : Nat} (ho : W.ownsRow lo t z (.slice a k c) n xs) (hk : k = n) : k ≤ c := by
  obtain ⟨_, h2⟩ := ho
  rcases h2 with ⟨e0, e1⟩ | ⟨g, cap, cur, e1, _, _, hn, _⟩
  · have : k = 0 := by simpa using congrArg (fun v => match v with | Value.slice _ l _ => l | _ => 0) e0
    omega
  · have h1 : c = cap := by simpa using congrArg (fun v => match v with | Value.slice _ _ d => d | _ => 0) e1
    omega
structure Mat.Clear (m : Mat) (q : Nat) : Prop where
  gb : 0 < m.t.len → m.gb ≠ q
  rows : ∀ r, r < m.t.len → 0 < m.t.L r → m.RB r ≠ q
structure EngM.Clear (x : EngM) (q : Nat) : Prop where
  g : 0 < x.rs.gn → x.rs.gb ≠ q
  r : ∀ i, i < x.rs.gn → (0 < (x.rs.r i).rl → (x.rs.r i).rb ≠ q) ∧ (x.rs.r i).T.Clear q
  b : 0 < x.bag.bn → x.bag.bb ≠ q
/-- Nothing of an engine lies in a block that holds an engine's head. -/
def EngM.Apart (x : EngM) (W : World) : Prop := ∀ q a l c a' l' c', Blk W q #[.slice a l c, .slice a' l' c'] 31 → x.Clear q

theorem Live.outF {base P N : Nat} {e : Eng} {Bv : Value} {y : Lay} {W : World} (h : Live base P N e Bv y W) (hN0 : 0 < N) (hN6 : N ≤ 6) (hb : e.bag.length ≤ 120) (hl : ∀ m ∈ e.bag, m.b.length ≤ 60) :
    ∃ m : EngM, m.cells = #[.slice (some ⟨y.G, 0, none⟩) N y.gc, Bv] ∧ m.In W.heap.size W ∧ m.eng = e ∧ m.rs.gn = N ∧ (∀ i, i < N → (m.rs.r i).rl = N) ∧ (∀ i, i < N → (m.rs.r i).T.t.len = N) ∧ (∀ i, i < N → ∀ q, q < N → (m.rs.r i).T.t.L q = if e.told i q = true then N else 0) ∧ m.bag.bn = e.bag.length ∧ m.From base ∧ m.Apart W := by
  obtain ⟨rs, hrs⟩ : ∃ rs : RtrsM, rs = ⟨some ⟨y.G, 0, none⟩, N, y.gc, y.G, 0, fun i => ⟨some ⟨y.rb i, 0, none⟩, N, y.rc i, y.rb i, 0, e.R i, ⟨some ⟨y.Tb i, 0, none⟩, y.Tb i, 0, y.Tc i, fun q => y.ta i q, fun q => y.tc i q, fun q => y.db i q, fun q => y.dn i q, ⟨N, fun q => if e.told i q = true then N else 0, e.D i⟩⟩⟩⟩ := ⟨_, rfl⟩
  have hrin : rs.In W.heap.size W := by
    subst hrs
    refine ⟨fun _ => rfl, fun _ => h.rtrs.lt, fun i hi => ?_, fun i hi => ?_, fun i hi => ?_, by show N ≤ _; unfold maxLen; omega⟩
    · show W.cell? ⟨y.G, 0 + i * 2, none⟩ = _
      rw [Nat.zero_add, h.rtrs.cell]; exact h.r0 i hi
    · show W.cell? ⟨y.G, 0 + i * 2 + 1, none⟩ = _
      rw [Nat.zero_add, h.rtrs.cell]; exact h.r1 i hi
    · have hi' : i < N := hi
      obtain ⟨h1, h2⟩ := h.routes i hi'
      refine ⟨⟨fun _ => rfl, fun j hj => by show W.cell? ⟨y.rb i, 0 + j, none⟩ = _; rw [Nat.zero_add]; exact h2 j hj, by show N ≤ _; unfold maxLen; omega⟩, fun _ => h1.lt, ?_⟩
      refine ⟨fun _ => rfl, fun _ => (h.tolds i hi').lt, fun r hr => ?_, fun r hr h0 => ?_, fun r hr c hc => ?_, by show N ≤ _; unfold maxLen; omega, fun r hr => ?_⟩
      · show W.cell? ⟨y.Tb i, 0 + r, none⟩ = _
        rw [Nat.zero_add, (h.tolds i hi').cell]; exact h.t0 i hi' r hr
      · have h0' : 0 < (if e.told i r = true then N else 0) := h0
        split at h0'
        · next ht => exact ⟨(h.rows i hi' r hr ht).1, (h.rows i hi' r hr ht).2.1.lt⟩
        · exact absurd h0' (Nat.lt_irrefl _)
      · have hc' : c < (if e.told i r = true then N else 0) := hc
        split at hc'
        · next ht => exact (h.rows i hi' r hr ht).2.2 c hc'
        · exact absurd hc' (Nat.not_lt_zero _)
      · show (if e.told i r = true then N else 0) ≤ _
        unfold maxLen; split <;> omega
  obtain ⟨bag, hbv, hbin, hbn, hM⟩ : ∃ bag : BagM, Bv = .slice bag.ba bag.bn bag.bc ∧ (bag.In W.heap.size W ∧ (0 < bag.bn → base ≤ bag.bb) ∧ (0 < bag.bn → Bv.ownBlock = some bag.bb)) ∧ bag.bn = e.bag.length ∧ bag.M = fun i => e.bag.getD i noMail := by
    by_cases h0 : 0 < e.bag.length
    · obtain ⟨g, cap, hBv, _⟩ := h.mail h0
      have hlt := (h.bag.lt g (by rw [hBv]; rfl)).2
      have hat : ∀ i, i < e.bag.length → W.cell? ⟨g, i * 3, none⟩ = some (.int .i64 (e.bag.getD i noMail).F) ∧ W.cell? ⟨g, i * 3 + 1, none⟩ = some (.int .i64 (e.bag.getD i noMail).T) ∧ W.cell? ⟨g, i * 3 + 2, none⟩ = some (.string ⟨(e.bag.getD i noMail).b.toArray⟩) := fun i hi => by
        obtain ⟨g', cap', hBv', q0, q1, q2⟩ := h.mail hi
        rw [hBv] at hBv'
        obtain ⟨rfl, rfl⟩ : g = g' ∧ cap = cap' := by simpa using hBv'
        exact ⟨q0, q1, q2⟩
      refine ⟨⟨some ⟨g, 0, none⟩, e.bag.length, cap, g, 0, fun i => e.bag.getD i noMail⟩, hBv, ⟨⟨fun _ => rfl, fun _ => hlt, fun i hi => ?_, fun i hi => ?_, fun i hi => ?_, by show e.bag.length ≤ _; unfold maxLen; omega, fun i hi => ?_⟩, fun _ => (h.bag.lt g (by rw [hBv]; rfl)).1, fun _ => by rw [hBv]; rfl⟩, rfl, rfl⟩
      · show W.cell? ⟨g, 0 + i * 3, none⟩ = _; rw [Nat.zero_add]; exact (hat i hi).1
      · show W.cell? ⟨g, 0 + i * 3 + 1, none⟩ = _; rw [Nat.zero_add]; exact (hat i hi).2.1
      · show W.cell? ⟨g, 0 + i * 3 + 2, none⟩ = _; rw [Nat.zero_add]; exact (hat i hi).2.2
      · have := hl _ (getD_mem (d := noMail) (show i < e.bag.length from hi))
        show (e.bag.getD i noMail).b.length ≤ _
        unfold maxLen; omega
    · have h00 : e.bag.length = 0 := by omega
      obtain ⟨a, c, hBv⟩ : ∃ a c, Bv = .slice a e.bag.length c := by
        rcases Go.Joins.ownsRow_forms h.bag with ⟨e0, e1⟩ | ⟨g, cap, e1⟩
        · exact ⟨none, 0, by rw [e0, e1]⟩
        · exact ⟨_, _, e1⟩
      exact ⟨⟨a, e.bag.length, c, 0, 0, fun i => e.bag.getD i noMail⟩, hBv, ⟨⟨fun h1 => absurd h1 h0, fun h1 => absurd h1 h0, fun i hi => absurd (Nat.lt_of_le_of_lt (Nat.zero_le _) hi) h0, fun i hi => absurd (Nat.lt_of_le_of_lt (Nat.zero_le _) hi) h0, fun i hi => absurd (Nat.lt_of_le_of_lt (Nat.zero_le _) hi) h0, by show e.bag.length ≤ _; unfold maxLen; omega, fun i hi => absurd (Nat.lt_of_le_of_lt (Nat.zero_le _) hi) h0⟩, fun h1 => absurd h1 h0, fun h1 => absurd h1 h0⟩, rfl, rfl⟩
  refine ⟨⟨rs, bag⟩, ?_, ⟨hrin, hbin.1⟩, ?_, by rw [hrs], fun i hi => by rw [hrs], fun i hi => by rw [hrs], fun i hi q hq => by rw [hrs], hbn, ⟨fun _ => by rw [hrs]; exact h.lg, fun i hi => ?_, hbin.2.1, own_cap (show W.ownsRow base 69 3 (.slice bag.ba bag.bn bag.bc) e.bag.length (mailsL e.bag) from hbv ▸ h.bag) hbn⟩, fun q a l c a' l' c' hq => ⟨fun _ => ?_, fun i hi => ?_, fun h0 => ?_⟩⟩
  · show #[Value.slice rs.ga rs.gn rs.gc, Value.slice bag.ba bag.bn bag.bc] = _
    rw [← hbv, hrs]
  · have hbag : (List.range bag.bn).map bag.M = e.bag := by rw [hbn, hM]; exact range_getD e.bag
    have htold : (fun i k => decide ((rs.r i).T.t.L k ≠ 0)) = e.told := by
      funext i k
      rw [hrs]
      show decide ((if e.told i k = true then N else 0) ≠ 0) = e.told i k
      cases ht : e.told i k with
      | true => simp; omega
      | false => simp
    show (⟨fun i => (rs.r i).R, fun i k => decide ((rs.r i).T.t.L k ≠ 0), fun i k => (rs.r i).T.t.Z k, (List.range bag.bn).map bag.M⟩ : Eng) = e
    rw [hbag, htold, hrs]
  · rw [hrs] at hi ⊢
    have hy := h.ylo.1
    refine ⟨fun _ => Nat.le_trans hy (h.routes i hi).1.lo, ⟨fun _ => h.lt i hi, fun q hq h0 => ?_⟩⟩
    have h0' : 0 < (if e.told i q = true then N else 0) := h0
    split at h0'
    · next ht => exact Nat.le_trans hy (h.rows i hi q hq ht).2.1.lo
    · exact absurd h0' (Nat.lt_irrefl _)
  · rw [hrs]; exact type_ne h.rtrs hq (by decide)
  · rw [hrs] at hi ⊢
    have hno : ∀ b o z, W.cell? ⟨b, o, none⟩ = some (.int .i64 z) → b ≠ q := fun b o z hc e1 => by
      subst e1
      rw [hq.cell o] at hc
      rcases o with _ | _ | o
      · simp at hc
      · simp at hc
      · simp at hc
    refine ⟨fun _ => hno _ _ _ ((h.routes i hi).2 0 hN0), ⟨fun _ => type_ne (h.tolds i hi) hq (by decide), fun r hr h0 => ?_⟩⟩
    have h0' : 0 < (if e.told i r = true then N else 0) := h0
    split at h0'
    · next ht => exact hno _ _ _ ((h.rows i hi r hr ht).2.2 0 hN0)
    · exact absurd h0' (Nat.lt_irrefl _)
  · exact own_ne h.bag hq (by decide) (hbin.2.2 h0)
end Go.Proofs.YtjhkadffaephmabGreat

/-
  wire.Write.
-/
namespace Go.Proofs.YtjhkadffaephmabGreat
set_option maxRecDepth 100000
open Go.RowKit

theorem bytes_of_row {w : World} {base : Nat} {l : List UInt8} {g cap n : Nat} (h : w.ownsRow base 5 1 (.slice (some ⟨g, 0, none⟩) n cap) n (bytesL l)) : Bytes (some ⟨g, 0, none⟩) l g 0 w where
  addr := fun _ => rfl
  cell := fun i hi => by
    have hl := h.1
    rw [bytesL_len] at hl
    have := h.cellAt i (by omega)
    rw [bytesL_get hi] at this
    simpa using this

def Pkt.part (p : Pkt) (k : Nat) : List UInt8 := [83, u8 p.F, u8 p.T, u8 p.n] ++ (List.range k).map fun i => u8 (p.R i)
theorem Pkt.part_succ (p : Pkt) (k : Nat) : p.part (k + 1) = p.part k ++ [u8 (p.R k)] := by
  simp [Pkt.part, List.range_succ]
theorem Pkt.part_len (p : Pkt) (k : Nat) : (p.part k).length = 4 + k := by simp [Pkt.part]; omega

set_option maxHeartbeats 4000000 in
theorem write_any (p : PktM) (w : World) (h : p.In w.heap.size w) :
    Calls Tryz.prog 72 #[p.val] w fun e w' => e = .returned (.tuple #[txt p.pkt.text, .int .i64 p.pkt.err]) ∧ Below w.heap.size w w' := by
  have hB0 : Below w.heap.size w (w.alloc (.cells p.cells 76)) := (Below.refl _ w).alloc (Nat.le_refl _) _
  have b0 := Blk.new w p.cells 76
  have hcf := calls_write1
  have HC := hide (containsFunc_ints 91 #[] p.ra p.n p.rc p.rb p.ro p.R (fun i => !inB (p.R i)) _ (h.grown hB0).ints (h.grown hB0).lt calls_write1 (fun i W hi hB => by
    refine (write1_any (p.R i) W).mono ?_
    rintro e w' ⟨rfl, rfl⟩
    exact ⟨rfl, Below.refl _ _⟩))
  have hany := p.pkt.routes_any
  have e1 : p.pkt.n = p.n := rfl
  have e2 : p.pkt.R = p.R := rfl
  rw [e1, e2] at hany
  rw [hany] at HC
  have hlen := h.small
  have H := hide h
  have HF : Hid (p.pkt.inRange = (inB p.F && inB p.T && p.pkt.routesIn)) := hide rfl
  have Hbad : Hid (p.pkt.inRange = false → p.pkt.err = 3 ∧ p.pkt.text = []) := hide (fun e => by
    have : p.pkt.err = 3 := by unfold Pkt.err; rw [if_pos e]
    exact ⟨this, by unfold Pkt.text; rw [this]; rfl⟩)
  have HB0 := hide hB0
  clear h hany e1 e2 hB0
  simp only [PktM.val, PktM.cells] at *
  go_enter Tryz.func72, Tryz.ntmps72
  go_wp2_with fail
  refine (write1_any _ _).mono ?_
  rintro e w1 ⟨rfl, rfl⟩
  by_cases hF : inB p.F = true
  · rw [hF]
    go_wp2_with fail
    refine (write1_any _ _).mono ?_
    rintro e w1 ⟨rfl, rfl⟩
    by_cases hT : inB p.T = true
    · rw [hT]
      go_wp2_with fail
      go_at_call 83
      refine HC.out.mono ?_
      rintro e w2 ⟨rfl, hb2⟩
      have hB2 := HB0.out.trans (hb2.mono HB0.out.size)
      have b2 := b0.below hb2 b0.lt
      have x0 := b2.cell 0
      have x1 := b2.cell 1
      have x2 := b2.cell 2
      simp at x0 x1 x2
      by_cases hR : p.pkt.routesIn = true
      · rw [hR]
        have hin : p.pkt.inRange = true := by rw [HF.out, hF, hT, hR]; rfl
        by_cases hn : 60 < p.n + 6
        · have Hfin : Hid (p.pkt.err = 2 ∧ p.pkt.text = []) := hide (by
            have : p.pkt.err = 2 := by unfold Pkt.err; rw [if_neg (by simp [hin]), if_pos (show 60 < p.pkt.n + 6 from hn)]
            exact ⟨this, by unfold Pkt.text; rw [this]; rfl⟩)
          have hni : (60 : Int) < 4 + (p.n : Int) + 2 := by omega
          have HB2 := hide hB2
          clear hn hin hF hT hR hB2 hb2 HC HF Hbad b0 b2
          go_wp2
          go_ret2
          exact ⟨by rw [Hfin.out.1, Hfin.out.2]; rfl, HB2.out⟩
        · have Hok : Hid (p.pkt.err = 0) := hide (Pkt.err_of hin (show p.pkt.n + 6 ≤ 60 by show p.n + 6 ≤ 60; omega))
          have hni : ¬ (60 : Int) < 4 + (p.n : Int) + 2 := by omega
          have hFb : 0 ≤ p.F ∧ p.F ≤ 250 := by unfold inB at hF; simpa using hF
          have hTb : 0 ≤ p.T ∧ p.T ≤ 250 := by unfold inB at hT; simpa using hT
          have HRb := hide (Pkt.routesIn_iff.1 hR)
          have Hpart : Hid (bytesL (p.pkt.part 0) = [.int .u8 83, .int .u8 p.F, .int .u8 p.T, .int .u8 (p.n : Int)]) := hide (by
            show [Value.int .u8 83, .int .u8 ((u8 p.F).toNat : Int), .int .u8 ((u8 p.T).toNat : Int), .int .u8 ((u8 (p.n : Int)).toNat : Int)] = _
            rw [u8_toNat hFb.1 (by omega), u8_toNat hTb.1 (by omega), u8_toNat (by omega) (by omega)])
          have hn54 : p.n ≤ 54 := by omega
          have hn54i : (p.n : Int) ≤ 54 := by omega
          have y2 : ∀ o, (w2.alloc o).cell? ⟨w.heap.size, 2, none⟩ = some (.slice p.ra p.n p.rc) := fun o => (b2.alloc o).cell 2
          obtain ⟨i0, hi0, hz0, hz1, hz2⟩ := info_parts Tryz.infoByte
          have HB2 := hide hB2
          have HI := hide (H.out.grown hB2)
          clear hF hT hR hin hB2 hb2 HC HF Hbad b0 HB0 H
          go_wp2
          go_loopw [5, 7, 45] (fun v _ q wr => ∃ k : Nat, k ≤ p.n ∧ q = .int .i64 k ∧ Hid (wr.ownsRow w2.heap.size 5 1 v (4 + k) (bytesL (p.pkt.part k))) ∧ Hid (Below w2.heap.size w2 wr)) (fun _ _ q _ => p.n - (intOf q).toNat)
          case atStart =>
            refine ⟨0, Nat.zero_le _, rfl, hide ⟨by rw [bytesL_len, Pkt.part_len], Or.inr ⟨w2.heap.size, 4, _, rfl, Nat.le_refl _, heap_alloc_new _ _, Nat.le_refl _, by decide, rfl, ?_⟩⟩, hide ((Below.refl _ _).alloc (Nat.le_refl _) _)⟩
            rw [Hpart.out]; rfl
          case round =>
            obtain ⟨k, hk, rfl, Hown, HB⟩ := hrel
            by_cases hlt : k < p.n
            · have hI := HI.out.below HB.out (Nat.le_refl _)
              have ha := hI.ints.addr (by omega)
              have hc := hI.ints.cell k hlt
              have hrb := HRb.out k hlt
              have hrb1 : 0 ≤ p.R k := hrb.1
              have hrb2 : p.R k ≤ 250 := hrb.2
              have Hv : Hid (bytesL [u8 (p.R k)] = [.int .u8 (p.R k)]) := hide (by
                show [Value.int .u8 ((u8 (p.R k)).toNat : Int)] = _
                rw [u8_toNat hrb1 (by omega)])
              have hki : (k : Int) < (p.n : Int) := by omega
              clear hI hrb
              go_wp2_with (at_builtin; refine wpList_append_lies _ rfl _ _ _ rfl w2.heap.size 5 i0 _ 1 1 Tryz.underlying80 hi0 hz0 hz1 hz2 rfl (by decide) _ (4 + k) _ rfl (Hown.out.alloc _) ⟨wr.heap.size, 0, none⟩ 1 1 [.int .u8 (p.R k)] rfl rfl ?c1 ?c2 (by decide) ?c3 ?c4 ?c5 _ rfl ?_)
              all_goals try (case c1 => exact World.news_of_block (Blk.new' (by simp)))
              all_goals try (case c2 => simp [Value.oneCell'])
              all_goals try (case c3 => unfold maxLen; omega)
              all_goals try (case c4 => omega)
              all_goals try (case c5 => have := HB.out.size; simp; omega)
              intro g' cap w4 hown2 hgrow hat2 hlt2
              have HB4 := hide ((HB.out.alloc HB.out.size (.cells #[.int .u8 (p.R k)] 5)).trans (grown_below hgrow (fun g hg => (Hown.out.lt g hg).1) (by have := HB.out.size; simp; omega)))
              have Hown4 : Hid (w4.ownsRow w2.heap.size 5 1 (.slice (some ⟨g', 0, none⟩) (4 + k + 1) cap) (4 + (k + 1)) (bytesL (p.pkt.part (k + 1)))) := hide (by
                rw [Pkt.part_succ, bytesL_append, show p.pkt.R k = p.R k from rfl, Hv.out]; exact hown2)
              clear hown2 hgrow hat2 hlt2 HB Hown
              go_wp2
              go_roundw
              case rel =>
                first
                | exact ⟨k + 1, by omega, by go_num, Hown4, HB4⟩
                | ((try rw [← ha]); (repeat apply Exists.intro); refine ⟨?_, rfl⟩; exact ⟨k + 1, by omega, by go_num, Hown4, HB4⟩)
              case measure => simp [intOf]; omega
            · have hkn : k = p.n := by omega
              subst hkn
              rw [show p.pkt.part p.n = p.pkt.body from rfl] at Hown
              rcases Go.Joins.ownsRow_forms Hown.out with ⟨rfl, e0⟩ | ⟨gb, cap, rfl⟩
              · omega
              have hbl : p.pkt.body.length = 4 + p.n := by rw [Pkt.body_length, Nat.add_comm]; rfl
              have HS := hide (sum_any (some ⟨gb, 0, none⟩) p.pkt.body cap gb 0 wr (bytes_of_row Hown.out) (by omega))
              rw [hbl] at HS
              have hs := sumOf_lt p.pkt.body
              have Hbytes : Hid (p.pkt.bytes = p.pkt.body ++ [UInt8.ofNat (sumOf p.pkt.body / 256), UInt8.ofNat (sumOf p.pkt.body % 256)]) := hide rfl
              generalize sumOf p.pkt.body = s at *
              go_wp2_with fail
              go_at_call 92
              refine HS.out.mono ?_
              rintro e w3 ⟨rfl, rfl⟩
              have hs256 : (s : Int) / 256 < 256 := by omega
              have hs0 : 0 ≤ (s : Int) / 256 := by omega
              go_wp2_with (at_builtin; refine wpList_append_lies _ rfl _ _ _ rfl w2.heap.size 5 i0 _ 1 1 Tryz.underlying80 hi0 hz0 hz1 hz2 rfl (by decide) _ (4 + p.n) _ rfl (Hown.out.alloc _) ⟨w3.heap.size, 0, none⟩ 2 2 [.int .u8 ((s : Int) / 256), .int .u8 ((s : Int) % 256)] rfl rfl ?c1 ?c2 (by decide) ?c3 ?c4 ?c5 _ rfl ?_)
              all_goals try (case c1 => exact World.news_of_block (Blk.new' (by simp)))
              all_goals try (case c2 => simp [Value.oneCell'])
              all_goals try (case c3 => unfold maxLen; omega)
              all_goals try (case c4 => omega)
              all_goals try (case c5 => have := HB.out.size; simp; omega)
              intro g' cap' w4 hown2 hgrow hat2 hlt2
              have HB4 := hide ((HB.out.alloc HB.out.size (.cells #[.int .u8 ((s : Int) / 256), .int .u8 ((s : Int) % 256)] 5)).trans (grown_below hgrow (fun g hg => (Hown.out.lt g hg).1) (by have := HB.out.size; simp; omega)))
              have HB5 := hide (HB2.out.trans (HB4.out.mono HB2.out.size))
              have hown3 : w4.ownsRow w2.heap.size 5 1 (.slice (some ⟨g', 0, none⟩) (4 + p.n + 2) cap') (4 + p.n + 2) (bytesL p.pkt.bytes) := by
                have e2 : bytesL [UInt8.ofNat (s / 256), UInt8.ofNat (s % 256)] = [.int .u8 ((s : Int) / 256), .int .u8 ((s : Int) % 256)] := by
                  show [Value.int .u8 ((UInt8.ofNat (s / 256)).toNat : Int), .int .u8 ((UInt8.ofNat (s % 256)).toNat : Int)] = _
                  rw [UInt8.toNat_ofNat', UInt8.toNat_ofNat', Nat.mod_eq_of_lt (by omega), Nat.mod_eq_of_lt (by omega)]
                  rfl
                rw [Hbytes.out, bytesL_append, e2]; exact hown2
              have hlb : p.pkt.bytes.length = 4 + p.n + 2 := by rw [Pkt.bytes_length]; show p.n + 6 = _; omega
              have hconv := run_convert_bytes_back (P := Tryz.prog) w4 80 9 5 ⟨g', 0, none⟩ cap' p.pkt.bytes Tryz.underlying80 Tryz.underlying5 Tryz.underlying9 (fun j hj => by rw [Go.WideShapes.add_plain]; exact (bytes_of_row hown3).cell j hj)
              rw [hlb] at hconv
              have Hfin : Hid (p.pkt.err = 0 ∧ p.pkt.text = p.pkt.bytes) := hide ⟨Hok.out, by unfold Pkt.text; rw [if_pos Hok.out]⟩
              clear hown2 hgrow hat2 hlt2 HB Hown hown3 HB4 HB2 HI HRb Hpart Hbytes hlb
              go_wp2
              go_ret2
              exact ⟨by rw [Hfin.out.1, Hfin.out.2]; rfl, HB5.out⟩
      · have hR' : p.pkt.routesIn = false := by simpa using hR
        have Hfin := hide (Hbad.out (by rw [HF.out, hR', Bool.and_false]))
        rw [hR']
        have HB2 := hide hB2
        clear hF hT hR hR' hB2 hb2 HC HF Hbad b0 b2
        go_wp2
        go_ret2
        exact ⟨by rw [Hfin.out.1, Hfin.out.2]; rfl, HB2.out⟩
    · have hT' : inB p.T = false := by simpa using hT
      have Hfin := hide (Hbad.out (by rw [HF.out, hT', Bool.and_false, Bool.false_and]))
      rw [hT']
      clear hF hT hT' HC HF Hbad
      go_wp2
      go_ret2
      exact ⟨by rw [Hfin.out.1, Hfin.out.2]; rfl, HB0.out⟩
  · have hF' : inB p.F = false := by simpa using hF
    have Hfin := hide (Hbad.out (by rw [HF.out, hF', Bool.false_and, Bool.false_and]))
    rw [hF']
    clear hF hF' HC HF Hbad
    go_wp2
    go_ret2
    exact ⟨by rw [Hfin.out.1, Hfin.out.2]; rfl, HB0.out⟩

end Go.Proofs.YtjhkadffaephmabGreat

/-
  engine.spoil.
-/
namespace Go.Proofs.YtjhkadffaephmabGreat
set_option maxRecDepth 100000
open Go.RowKit

theorem mailsL_set : ∀ (l : List Mail) (i : Nat) (b : List UInt8), i < l.length → mailsL (l.set i { l.getD i noMail with b := b }) = (mailsL l).set (i * 3 + 2) (.string ⟨b.toArray⟩)
  | [], i, b, h => absurd h (Nat.not_lt_zero _)
  | m :: l, 0, b, _ => rfl
  | m :: l, i + 1, b, h => by
    have ih := mailsL_set l i b (by simpa using h)
    have e : mailsL (m :: l) = .int .i64 m.F :: .int .i64 m.T :: .string ⟨m.b.toArray⟩ :: mailsL l := rfl
    have e2 : mailsL ((m :: l).set (i + 1) { (m :: l).getD (i + 1) noMail with b := b }) = .int .i64 m.F :: .int .i64 m.T :: .string ⟨m.b.toArray⟩ :: mailsL (l.set i { l.getD i noMail with b := b }) := rfl
    rw [e, e2, ih, show (i + 1) * 3 + 2 = (i * 3 + 2) + 1 + 1 + 1 by omega]
    rfl

/-- The bytes of one mail are others. -/
theorem Live.setMail {base P N : Nat} {e : Eng} {Bv : Value} {y : Lay} {W : World} (h : Live base P N e Bv y W) {i g cap : Nat} (hi : i < e.bag.length) (hBv : Bv = .slice (some ⟨g, 0, none⟩) e.bag.length cap) (b : List UInt8) :
    Live base P N { e with bag := e.bag.set i { e.bag.getD i noMail with b := b } } Bv y (W.setCell ⟨g, i * 3 + 2, none⟩ (.string ⟨b.toArray⟩)) := by
  have hown : Bv.ownBlock = some g := by rw [hBv]; rfl
  obtain ⟨hgP, hgG, hgT⟩ := h.bv g hown
  have hws : (W.setCell ⟨g, i * 3 + 2, none⟩ (.string ⟨b.toArray⟩)).heap.size = W.heap.size := by simp
  have hoff : ∀ q, y.Off P N Bv W q → y.Off P N Bv (W.setCell ⟨g, i * 3 + 2, none⟩ (.string ⟨b.toArray⟩)) q := fun q hq => ⟨hq.p, hq.g, hq.t, hq.v, by rw [hws]; exact hq.lt, hq.lo⟩
  have hne : ∀ q, y.Off P N Bv W q → q ≠ g := fun q hq e1 => hq.v (by rw [e1]; exact hown)
  refine ⟨h.head.other (Ne.symm hgP) _ _, h.rtrs.other (Ne.symm hgG) _ _, h.r0, h.r1, fun r hr => (h.tolds r hr).other (Ne.symm (hgT r hr)) _ _, h.t0, fun r hr => ?_, fun r hr k hk ht => ?_, ?_, h.lp, h.lg, h.lt, h.pg, h.pt, h.gt, h.tt, h.bv, h.ylo⟩
  · obtain ⟨h1, h2⟩ := h.routes r hr
    exact ⟨hoff _ h1, fun j hj => by rw [cell_other (hne _ h1)]; exact h2 j hj⟩
  · obtain ⟨h1, h2, h3⟩ := h.rows r hr k hk ht
    exact ⟨h1, hoff _ h2, fun j hj => by rw [cell_other (hne _ h2)]; exact h3 j hj⟩
  · show World.ownsRow _ base 69 3 Bv (e.bag.set i _).length (mailsL (e.bag.set i _))
    rw [mailsL_set e.bag i b hi, List.length_set]
    obtain ⟨hxl, ho2⟩ := h.bag
    rcases ho2 with ⟨h0, _⟩ | ⟨g', cap', cur, e1, hbase, hb, hn, hm, hcs, htk⟩
    · rw [hBv] at h0; cases h0
    · rw [hBv] at e1
      obtain ⟨rfl, rfl⟩ : g = g' ∧ cap = cap' := by simpa using e1
      refine ⟨by rw [List.length_set]; exact hxl, Or.inr ⟨g, cap, _, by rw [hBv], hbase, Blk.set hb (i * 3 + 2) (.string ⟨b.toArray⟩), hn, hm, by simpa using hcs, ?_⟩⟩
      rw [Array.toList_setIfInBounds, List.take_set, htk]

/-- Bytes that were made of a string. -/
theorem bytes_made (w : World) (l : List UInt8) : ∃ (cb : Nat) (W1 : World), (∀ u, u = w → (convert 9 80 (.string ⟨l.toArray⟩)).run Tryz.prog u = .ok (.slice (some ⟨w.heap.size, 0, none⟩) l.length cb) W1) ∧ Below w.heap.size w W1 ∧ W1.heap.size = w.heap.size + 1 ∧
    (∀ j (hj : j < l.length), W1.cell? ⟨w.heap.size, j, none⟩ = some (.int .u8 (l[j].toNat : Int)) ∧ W1.frozen? ⟨w.heap.size, j, none⟩ = false) := by
  have hsz : (ByteArray.mk l.toArray).size = l.length := by simp [ByteArray.size]
  have hr := run_bytes_of_string (P := Tryz.prog) w 9 80 5 ⟨l.toArray⟩ Tryz.underlying9 Tryz.underlying80 Tryz.underlying5
  rw [hsz] at hr
  refine ⟨_, _, fun u hu => by rw [hu]; exact hr, (show Below w.heap.size w w.drew from ⟨rfl, rfl, rfl, Nat.le_refl _, fun _ _ => rfl⟩).trans ((Below.refl _ w.drew).alloc (Nat.le_refl _) _), by show (w.heap.push _).size = _; simp, fun j hj => ⟨?_, ?_⟩⟩
  · have := World.cell?_alloc_mark w.drew (bytesRow ⟨l.toArray⟩ (grownCap w l.length 0 5)) 5 ((bytesRow ⟨l.toArray⟩ (grownCap w l.length 0 5)).size, (bytesRow ⟨l.toArray⟩ (grownCap w l.length 0 5)).size + 1) j
    refine this.trans ?_
    rw [bytesRow_at ⟨l.toArray⟩ _ j (by simpa using hj)]
    simp
  · have := World.frozen?_alloc_mark w.drew (bytesRow ⟨l.toArray⟩ (grownCap w l.length 0 5)) 5 (bytesRow ⟨l.toArray⟩ (grownCap w l.length 0 5)).size ((bytesRow ⟨l.toArray⟩ (grownCap w l.length 0 5)).size + 1) j
    refine this.trans ?_
    have h2 : l.length ≤ (bytesRow ⟨l.toArray⟩ (grownCap w l.length 0 5)).size := by
      unfold bytesRow; simp
    simp; omega

theorem spoil_byte (x : UInt8) {c : Int} (h1 : 1 ≤ c) (h2 : c ≤ 255) : bits .xor .u8 (x.toNat : Int) c = ((x ^^^ u8 c).toNat : Int) := by
  obtain ⟨k, rfl⟩ : ∃ k : Nat, c = k := ⟨c.toNat, by omega⟩
  rw [u8_xor_nat x.toNat k x.toNat_lt (by omega), UInt8.toNat_xor]
  have := u8_toNat (x := (k : Int)) (by omega) (by omega)
  have : (u8 (k : Int)).toNat = k := by omega
  rw [this]

set_option maxHeartbeats 4000000 in
theorem spoil_bad (base P N i : Nat) (b c : Int) (e : Eng) (Bv : Value) (y : Lay) (w : World) (hL : Live base P N e Bv y w) (hi : i < e.bag.length) (_hlen : (e.bag.getD i noMail).b.length ≤ 60) (_hm : e.bag.length ≤ 200)
    (hbad : (b < 0 ∨ ((e.bag.getD i noMail).b.length : Int) ≤ b) ∨ (c < 1 ∨ 255 < c)) :
    Calls Tryz.prog 77 #[.pointer (some ⟨P, 0, none⟩), .int .i64 i, .int .i64 b, .int .i64 c] w fun r w' => r = .returned (.int .i64 3) ∧ Live base P N e Bv y w' ∧ Below base w w' := by
  have hbw : base ≤ w.heap.size := Nat.le_of_lt (Nat.lt_of_le_of_lt hL.lp hL.head.lt)
  obtain ⟨g, cap, hBv, m0, m1, m2⟩ := hL.mail hi
  obtain ⟨cb, W1, hcv, hB1, hs1, hc1⟩ := bytes_made w (e.bag.getD i noMail).b
  have HF := hide (And.intro (hL.below hB1) (hB1.mono hbw))
  have p1 := hL.head.cell 1
  simp at p1
  rw [hBv] at p1
  have HS := hide (fun W => sbelow_any b ((e.bag.getD i noMail).b.length : Int) W)
  generalize (e.bag.getD i noMail).b = l at *
  generalize e.bag.length = len at *
  have hii : (i : Int) < (len : Int) := by omega
  have hcw := hcv w rfl
  obtain ⟨L, hL'⟩ : ∃ L, L = l.length := ⟨_, rfl⟩
  rw [← hL'] at hcw HS hbad _hlen
  clear hL hBv hbw hB1 hc1 hcv hL' m0 m1
  go_enter Tryz.func77, Tryz.ntmps77
  go_wp2_with fail
  go_at_call 62
  refine (HS.out _).mono ?_
  rintro r w2 ⟨rfl, rfl⟩
  by_cases h1 : b < 0 ∨ (L : Int) ≤ b
  · have hv : (decide (0 ≤ b) && decide (b < (L : Int))) = false := by simp; omega
    rw [hv]
    clear hbad h1 hv HS
    go_wp2
    go_ret
    exact ⟨rfl, HF.out⟩
  have hv : (decide (0 ≤ b) && decide (b < (L : Int))) = true := by simp; omega
  rw [hv]
  by_cases h2 : c < 1
  · clear hbad h1 hv HS
    go_wp2
    go_ret
    exact ⟨rfl, HF.out⟩
  have h3 : 255 < c := by omega
  have h2' : ¬ c < 1 := h2
  clear hbad h1 hv HS
  go_wp2
  go_ret
  exact ⟨rfl, HF.out⟩

set_option maxHeartbeats 4000000 in
theorem spoil_ok (base P N i pl : Nat) (c : Int) (e : Eng) (Bv : Value) (y : Lay) (w : World) (hL : Live base P N e Bv y w) (hi : i < e.bag.length) (_hlen : (e.bag.getD i noMail).b.length ≤ 60) (_hm : e.bag.length ≤ 200) (hpl : pl < (e.bag.getD i noMail).b.length) (hc1 : 1 ≤ c) (hc2 : c ≤ 255) :
    Calls Tryz.prog 77 #[.pointer (some ⟨P, 0, none⟩), .int .i64 i, .int .i64 pl, .int .i64 c] w fun r w' => r = .returned (.int .i64 0) ∧ Live base P N (e.spoil i pl (u8 c)) Bv y w' ∧ Below base w w' := by
  have hbw : base ≤ w.heap.size := Nat.le_of_lt (Nat.lt_of_le_of_lt hL.lp hL.head.lt)
  obtain ⟨g, cap, hBv, m0, m1, m2⟩ := hL.mail hi
  obtain ⟨cb, W1, hcv, hB1, hs1, hcs⟩ := bytes_made w (e.bag.getD i noMail).b
  obtain ⟨l, hl⟩ : ∃ l, l = (e.bag.getD i noMail).b := ⟨_, rfl⟩
  rw [← hl] at hcv hcs hpl _hlen m2
  obtain ⟨x, hx⟩ : ∃ x : UInt8, x = l[pl] := ⟨_, rfl⟩
  obtain ⟨xx, hxx⟩ : ∃ xx, xx = x ^^^ u8 c := ⟨_, rfl⟩
  obtain ⟨b2, hb2⟩ : ∃ b2, b2 = l.set pl xx := ⟨_, rfl⟩
  obtain ⟨W2, hW2⟩ : ∃ W2, W2 = W1.setCell ⟨w.heap.size, pl, none⟩ (.int .u8 (xx.toNat : Int)) := ⟨_, rfl⟩
  have hB2 : Below w.heap.size w W2 := by rw [hW2]; exact hB1.setCell (p := ⟨w.heap.size, pl, none⟩) (Nat.le_refl _) _
  have hB2d : Below w.heap.size w W2.drew := ⟨hB2.os, hB2.tape, hB2.output, hB2.size, hB2.block⟩
  have hL2 := hL.below hB2d
  have hl2 : b2.length = l.length := by rw [hb2, List.length_set]
  have hconv := run_convert_bytes_back (P := Tryz.prog) W2.drew 80 9 5 ⟨w.heap.size, 0, none⟩ cb b2 Tryz.underlying80 Tryz.underlying5 Tryz.underlying9 (fun j hj => by
    rw [Go.WideShapes.add_plain, Nat.zero_add]
    show W2.cell? ⟨w.heap.size, j, none⟩ = _
    rw [hW2]
    by_cases ej : j = pl
    · subst ej
      rw [World.cell?_setCell_same _ _ _ (hcs j (by omega)).1]
      simp [hb2]
    · rw [World.cell?_setCell_other _ _ _ _ (fun e3 => ej (by cases e3; rfl))]
      rw [(hcs j (by omega)).1]
      simp only [hb2, List.getElem_set_ne (Ne.symm ej)])
  rw [hl2] at hconv
  have hset := hL2.setMail hi hBv b2
  have he : ({ e with bag := e.bag.set i { e.bag.getD i noMail with b := b2 } } : Eng) = e.spoil i pl (u8 c) := by
    unfold Eng.spoil Mail.spoil
    have hgx : l.getD pl 0 = x := by rw [hx, List.getD_eq_getElem?_getD, List.getElem?_eq_getElem hpl]; rfl
    rw [← hl, hb2, hgx, hxx]
  rw [he] at hset
  obtain ⟨W3, hW3⟩ : ∃ W3, W3 = W2.drew.setCell ⟨g, i * 3 + 2, none⟩ (.string ⟨b2.toArray⟩) := ⟨_, rfl⟩
  rw [← hW3] at hset
  have hgb := (hL.bag.lt g (by rw [hBv]; rfl))
  have HF := hide (And.intro hset (show Below base w W3 by rw [hW3]; exact (hB2d.mono hbw).setCell (p := ⟨g, i * 3 + 2, none⟩) hgb.1 _))
  have p1 := hL.head.cell 1
  have z1 := hL2.head.cell 1
  simp at p1 z1
  rw [hBv] at p1 z1
  have y1 := hL.mail hi
  obtain ⟨_, _, hq, _, _, k2⟩ := hL2.mail hi
  rw [hBv] at hq
  obtain ⟨rfl, rfl⟩ : g = _ ∧ cap = _ := by simpa using hq
  have kf : W2.drew.frozen? ⟨g, i * 3 + 2, none⟩ = false := by
    obtain ⟨_, ho2⟩ := hL2.bag
    rcases ho2 with ⟨h0, _⟩ | ⟨g', cap', cur, e1, hbase, hb, _⟩
    · rw [hBv] at h0; cases h0
    · rw [hBv] at e1
      obtain ⟨rfl, rfl⟩ : g = g' ∧ cap = cap' := by simpa using e1
      exact Blk.frozen hb _
  have HS := hide (fun W => sbelow_any (pl : Int) (l.length : Int) W)
  have hv : (decide (0 ≤ (pl : Int)) && decide ((pl : Int) < (l.length : Int))) = true := by simp; omega
  rw [hv] at HS
  have hbx := (spoil_byte x hc1 hc2)
  rw [← hxx] at hbx
  have hwr : IntKind.u8.wrap c = c := wrap_u8 (by omega) (by omega)
  have hcell := (hcs pl hpl).1
  have hfro := (hcs pl hpl).2
  rw [← hx] at hcell
  have hxl := x.toNat_lt
  have hcw := hcv w rfl
  have HW2 := hide hW2
  have HW3 := hide hW3
  generalize e.bag.length = len at *
  have hii : (i : Int) < (len : Int) := by omega
  obtain ⟨L, hL'⟩ : ∃ L, L = l.length := ⟨_, rfl⟩
  rw [← hL'] at hcw HS hpl _hlen hconv
  have hpi : (pl : Int) < (L : Int) := by omega
  have h1c : ¬ c < 1 := by omega
  have h2c : ¬ 255 < c := by omega
  have HB := hide hbx
  clear hL hBv hbw hB1 hcv hcs hL' m0 m1 hl hx hxx hb2 hW2 hB2 hB2d hL2 hl2 hset he hW3 hgb y1 hq hv hbx hs1
  go_enter Tryz.func77, Tryz.ntmps77
  go_wp2_with fail
  go_at_call 62
  refine (HS.out _).mono ?_
  rintro r w2 ⟨rfl, rfl⟩
  have hbx := HB.out
  have hxp := xx.toNat_lt
  go_wp2
  rw [← HW2.out]
  refine wp_region_last 9 _ (fun W => W = W2.drew) (valsE [.pointer (some ⟨P, 0, none⟩), .pointer (some ⟨P, 0, none⟩), .pointer (some ⟨P, 1, none⟩), .slice (some ⟨g, 0, none⟩) len cap, .int .i64 (i : Int), .slice (some ⟨w.heap.size, 0, none⟩) L cb, .string ⟨b2.toArray⟩, .pointer (some ⟨g, i * 3, none⟩), .pointer (some ⟨g, i * 3 + 2, none⟩)]) (fun _ W => W = W3) (fun _ _ _ => True) (by kernel_rfl) (by kernel_rfl) (by kernel_rfl) (by kernel_rfl) (by kernel_rfl) rfl rfl ⟨?_, ?_, ?_, ?_, ?_, ?_, ?_, ?_, ?_, trivial⟩ ?_ trivial ?_
  rotate_right
  · intro t W hG _
    simp only [fill, Act.put, List.setIfInBounds_toArray, List.set_cons_zero, List.set_cons_succ]
    subst hG
    go_wp2
    go_ret
    exact ⟨rfl, HF.out⟩
  rotate_right
  · intro t W hG hE _ K hK
    have e6 := valsE_get (hE 6 (by omega)) rfl
    have e8 := valsE_get (hE 8 (by omega)) rfl
    subst hG
    simp only [fill, Act.put, List.setIfInBounds_toArray, List.set_cons_zero, List.set_cons_succ, e6, e8] at hK ⊢
    rw [if_pos (by rfl)]
    go_simp
    exact hK undef _ HW3.out.symm
  all_goals intro t W hG hp ht K hK
  all_goals clear ht
  all_goals subst hG
  all_goals simp only [fill, Act.put, List.setIfInBounds_toArray, List.set_cons_zero, List.set_cons_succ] at hK ⊢
  · rw [if_pos (by rfl)]
    go_simp
    exact hK _ _ rfl rfl (fun _ _ _ h => h)
  · have e0 := valsE_get (hp 0 (by decide)) rfl
    simp only [e0] at hK ⊢
    rw [if_pos (by rfl)]
    go_simp
    exact hK _ _ rfl rfl (fun _ _ _ h => h)
  · have e1 := valsE_get (hp 1 (by decide)) rfl
    simp only [e1] at hK ⊢
    rw [if_pos (by rfl)]
    go_simp
    exact hK _ _ rfl rfl (fun _ _ _ h => h)
  · have e2 := valsE_get (hp 2 (by decide)) rfl
    simp only [e2] at hK ⊢
    rw [if_pos (by rfl)]
    go_simp
    exact hK _ _ rfl rfl (fun _ _ _ h => h)
  · rw [if_pos (by rfl)]
    go_simp
    exact hK _ _ rfl rfl (fun _ _ _ h => h)
  · rw [if_pos (by rfl)]
    go_simp
    exact hK _ _ rfl rfl (fun _ _ _ h => h)
  · have e5 := valsE_get (hp 5 (by decide)) rfl
    simp only [e5] at hK ⊢
    rw [if_pos (by rfl)]
    go_simp
    exact hK _ _ rfl rfl (fun _ _ _ h => h)
  · have e3 := valsE_get (hp 3 (by decide)) rfl
    have e4 := valsE_get (hp 4 (by decide)) rfl
    simp only [e3, e4] at hK ⊢
    rw [if_pos (by rfl)]
    go_simp
    exact hK _ _ rfl rfl (fun _ _ _ h => h)
  · have e7 := valsE_get (hp 7 (by decide)) rfl
    simp only [e7] at hK ⊢
    rw [if_pos (by rfl)]
    go_simp
    exact hK _ _ rfl rfl (fun _ _ _ h => h)

end Go.Proofs.YtjhkadffaephmabGreat
