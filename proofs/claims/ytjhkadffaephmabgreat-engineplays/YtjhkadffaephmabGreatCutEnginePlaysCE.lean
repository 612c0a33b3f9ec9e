/-
  Our own texts, bundled: a claim holds few files.
-/
import Derived.Test.YtjhkadffaephmabGreatCutEnginePlaysCD
import Derived.Test.YtjhkadffaephmabGreatCutEnginePlaysBJ
import Derived.Test.YtjhkadffaephmabGreatCutEnginePlaysAI
import Derived.Test.YtjhkadffaephmabGreatCutEnginePlaysBG
/-
  Mail that is put behind the bag, in a region that draws its order.
-/
namespace Go.Proofs.YtjhkadffaephmabGreat
set_option maxRecDepth 100000
open Go.RowKit

theorem append_one (W : World) (base : Nat) (V : Value) (l : List Mail) (m : Mail) (ho : W.ownsRow base 69 3 V l.length (mailsL l)) (hk : l.length ≤ 200) (hC : base ≤ W.heap.size) {s : Nat} (hs : Blk W s #[.int .i64 m.F, .int .i64 m.T, .string ⟨m.b.toArray⟩] 69) (ty : TypeId) :
    ∃ g cap W4, (Builtin.append_ #[29, 29] ty #[V, .slice (some ⟨s, 0, none⟩) 1 1]).run Tryz.prog W = .ok (.slice (some ⟨g, 0, none⟩) (l.length + 1) cap) W4 ∧
      W4.ownsRow base 69 3 (.slice (some ⟨g, 0, none⟩) (l.length + 1) cap) (l ++ [m]).length (mailsL (l ++ [m])) ∧ W.grownBy W4 V.ownBlock ∧ (V.ownBlock = some g ∨ W.heap.size ≤ g) := by
  obtain ⟨i0, hi0, hq⟩ : ∃ i, Tryz.prog.info? 69 = some i ∧ (i.zero.map (fun z => z.cells.size), i.size, i.bytes) = (some 3, 3, 32) := Option.map_eq_some_iff.1 Tryz.infoMail
  obtain ⟨z, hz, hzs⟩ : ∃ z, i0.zero = some z ∧ z.cells.size = 3 := by
    have := congrArg Prod.fst hq
    simpa [Option.map_eq_some_iff] using this
  have hsz : i0.size = 3 := congrArg (fun x => x.2.1) hq
  have hby : i0.bytes = 32 := congrArg (fun x => x.2.2) hq
  obtain ⟨g, cap, w', hr, h2, h3, h4, h5⟩ := run_append_lies (P := Tryz.prog) W 29 ty base 69 i0 z 3 32 Tryz.underlying29 hi0 hz hsz hby hzs (by decide) V l.length _ ho ⟨s, 0, none⟩ 1 1 [.int .i64 m.F, .int .i64 m.T, .string ⟨m.b.toArray⟩] rfl (World.news_of_block (cs := #[.int .i64 m.F, .int .i64 m.T, .string ⟨m.b.toArray⟩]) hs) (by simp [Value.oneCell']) (by decide) (by unfold maxLen; omega) (by omega) (by omega) _ rfl
  refine ⟨g, cap, w', hr, ?_, h3, h4.imp id (fun h => by omega)⟩
  rw [mailsL_append, List.length_append]
  exact h2

theorem SB.keepLo {w : World} {n : NetM} {x : EngM} {v : EvM} {W W' : World} {lo : Nat} (h : SB w n x v W) (hb : Below lo W W') (hlo : w.heap.size + 3 < lo) : SB w n x v W' :=
  ⟨h.below.trans (hb.mono (by omega)), h.bn.below hb (by omega), h.bx.below hb (by omega), h.bv.below hb (by omega), h.br.below hb (by omega)⟩

/-- While mail is put behind the bag: a, it was put; s, the bag was stored. -/
structure AddG (w : World) (n : NetM) (x : EngM) (v : EvM) (lo P N : Nat) (e : Eng) (m : Mail) (Bv : Value) (y : Lay) (W4 : World) (a s : Bool) (W : World) : Prop where
  old : a = false → Below W4.heap.size W4 W
  mid : s = false → W4.grownBy W Bv.ownBlock
  fin : s = true → ∃ Bv', Live lo P N { e with bag := e.bag ++ [m] } Bv' y W ∧ SB w n x v W ∧ W4.heap.size ≤ W.heap.size ∧ (∀ b, b < W4.heap.size → Bv.ownBlock ≠ some b → b ≠ P → W.heap[b]? = W4.heap[b]?) ∧ (∀ b, b < W4.heap.size → Bv'.ownBlock = some b → Bv.ownBlock = some b)
def addE (vs : List Value) (p8 p9 pS lo : Nat) (l : List Mail) (m : Mail) (Bv : Value) (W4 : World) (a s : Bool) (q : Nat) (v : Value) (W : World) : Prop :=
  if q = p8 then (a = false → ∃ g, v = .slice (some ⟨g, 0, none⟩) 1 1 ∧ Blk W g #[.int .i64 m.F, .int .i64 m.T, .string ⟨m.b.toArray⟩] 69)
  else if q = p9 then (s = false → ∃ g cap, v = .slice (some ⟨g, 0, none⟩) (l.length + 1) cap ∧ W.ownsRow lo 69 3 (.slice (some ⟨g, 0, none⟩) (l.length + 1) cap) (l ++ [m]).length (mailsL (l ++ [m])) ∧ (Bv.ownBlock = some g ∨ W4.heap.size ≤ g))
  else if q = pS then True
  else vs[q]? = some v
section
variable {w : World} {n : NetM} {x : EngM} {v : EvM} {lo P N : Nat} {e : Eng} {m : Mail} {Bv : Value} {y : Lay} {W4 W W' : World} {a s : Bool} {vs : List Value} {p8 p9 pS : Nat} {l : List Mail} {q : Nat} {u u' : Value}
theorem addE_keep (hb : Below W.heap.size W W') (h : addE vs p8 p9 pS lo l m Bv W4 a s q u W) : addE vs p8 p9 pS lo l m Bv W4 a s q u W' := by
  unfold addE at h ⊢
  split
  · next e1 => rw [if_pos e1] at h; exact fun h0 => by obtain ⟨g, h1, h2⟩ := h h0; exact ⟨g, h1, h2.below hb h2.lt⟩
  · next e1 =>
    rw [if_neg e1] at h
    split
    · next e2 => rw [if_pos e2] at h; exact fun h0 => by obtain ⟨g, c, h1, h2, h3⟩ := h h0; exact ⟨g, c, h1, owns_below h2 hb, h3⟩
    · next e2 => rw [if_neg e2] at h; exact h
theorem addE_put (h8 : q ≠ p8) (h9 : q ≠ p9) (hS : q ≠ pS) (h : vs[q]? = some u) : addE vs p8 p9 pS lo l m Bv W4 a s q u W := by
  unfold addE; rw [if_neg h8, if_neg h9, if_neg hS]; exact h
theorem addE_get (h : addE vs p8 p9 pS lo l m Bv W4 a s q u W) (h8 : q ≠ p8) (h9 : q ≠ p9) (hS : q ≠ pS) (hu : vs[q]? = some u') : u = u' := by
  unfold addE at h; rw [if_neg h8, if_neg h9, if_neg hS, hu] at h; exact (Option.some.inj h).symm
theorem addE_8 : addE vs p8 p9 pS lo l m Bv W4 a s p8 u W ↔ (a = false → ∃ g, u = .slice (some ⟨g, 0, none⟩) 1 1 ∧ Blk W g #[.int .i64 m.F, .int .i64 m.T, .string ⟨m.b.toArray⟩] 69) := by
  unfold addE; rw [if_pos rfl]
theorem addE_9 (h : p9 ≠ p8) : addE vs p8 p9 pS lo l m Bv W4 a s p9 u W ↔ (s = false → ∃ g cap, u = .slice (some ⟨g, 0, none⟩) (l.length + 1) cap ∧ W.ownsRow lo 69 3 (.slice (some ⟨g, 0, none⟩) (l.length + 1) cap) (l ++ [m]).length (mailsL (l ++ [m])) ∧ (Bv.ownBlock = some g ∨ W4.heap.size ≤ g)) := by
  unfold addE; rw [if_neg h, if_pos rfl]
theorem addE_S (h8 : pS ≠ p8) (h9 : pS ≠ p9) : addE vs p8 p9 pS lo l m Bv W4 a s pS u W := by
  unfold addE; rw [if_neg h8, if_neg h9, if_pos rfl]; trivial
theorem addE_a (W' : World) (hq : q ≠ p9) (h : addE vs p8 p9 pS lo l m Bv W4 false false q u W) : addE vs p8 p9 pS lo l m Bv W4 true false q u W' := by
  unfold addE at h ⊢
  by_cases e1 : q = p8
  · rw [if_pos e1]; intro h0; cases h0
  · rw [if_neg e1, if_neg hq] at h ⊢; exact h
theorem addE_s (W' : World) (h : addE vs p8 p9 pS lo l m Bv W4 true false q u W) : addE vs p8 p9 pS lo l m Bv W4 true true q u W' := by
  unfold addE at h ⊢
  split
  · intro h0; cases h0
  · next e1 =>
    rw [if_neg e1] at h
    split
    · intro h0; cases h0
    · next e2 => rw [if_neg e2] at h; exact h
theorem AddG.start (hb : Below W4.heap.size W4 W) : AddG w n x v lo P N e m Bv y W4 false false W :=
  ⟨fun _ => hb, fun _ => ⟨hb.os, hb.tape, hb.output, hb.size, fun k hk _ => hb.block k hk⟩, fun h0 => by cases h0⟩
theorem AddG.keep (h : AddG w n x v lo P N e m Bv y W4 a false W) (hb : Below W.heap.size W W') : AddG w n x v lo P N e m Bv y W4 a false W' :=
  ⟨fun h0 => (h.old h0).trans (hb.mono (h.old h0).size), fun _ => by
    have h1 := h.mid rfl
    exact ⟨hb.os.trans h1.os, hb.tape.trans h1.tape, hb.output.trans h1.output, Nat.le_trans h1.size hb.size, fun k hk hn => (hb.block k (Nat.lt_of_lt_of_le hk h1.size)).trans (h1.block k hk hn)⟩, fun h0 => by cases h0⟩
theorem AddG.append (h : AddG w n x v lo P N e m Bv y W4 false false W) (hL : Live lo P N e Bv y W4) (hk : e.bag.length ≤ 200) {g8 : Nat} (hs : Blk W g8 #[.int .i64 m.F, .int .i64 m.T, .string ⟨m.b.toArray⟩] 69) (ty : TypeId) :
    ∃ g cap W9, (Builtin.append_ #[29, 29] ty #[Bv, .slice (some ⟨g8, 0, none⟩) 1 1]).run Tryz.prog W = .ok (.slice (some ⟨g, 0, none⟩) (e.bag.length + 1) cap) W9 ∧ AddG w n x v lo P N e m Bv y W4 true false W9 ∧
      W9.ownsRow lo 69 3 (.slice (some ⟨g, 0, none⟩) (e.bag.length + 1) cap) (e.bag ++ [m]).length (mailsL (e.bag ++ [m])) ∧ (Bv.ownBlock = some g ∨ W4.heap.size ≤ g) := by
  have hb := h.old rfl
  have hl := hL.below hb
  have hlo : lo ≤ W.heap.size := Nat.le_trans (Nat.le_of_lt (Nat.lt_of_le_of_lt hL.lp hL.head.lt)) hb.size
  obtain ⟨g, cap, W9, hr, ho, hg, hat⟩ := append_one W lo Bv e.bag m hl.bag hk hlo hs ty
  refine ⟨g, cap, W9, hr, ⟨fun h0 => (by cases h0), fun _ => ⟨hg.os.trans hb.os, hg.tape.trans hb.tape, hg.output.trans hb.output, Nat.le_trans hb.size hg.size, fun k hk hn => (hg.block k (Nat.lt_of_lt_of_le hk hb.size) hn).trans (hb.block k hk)⟩, fun h0 => (by cases h0)⟩, ho, ?_⟩
  rcases hat with h1 | h1
  · exact Or.inl h1
  · exact Or.inr (Nat.le_trans hb.size h1)
theorem AddG.head (h : AddG w n x v lo P N e m Bv y W4 a false W) (hL : Live lo P N e Bv y W4) : Blk W P #[.slice (some ⟨y.G, 0, none⟩) N y.gc, Bv] 31 :=
  ((h.mid rfl).block P hL.head.lt (fun e1 => (hL.bv P e1.symm).1 rfl)).trans hL.head
theorem AddG.store (h : AddG w n x v lo P N e m Bv y W4 a false W) (hL : Live lo P N e Bv y W4) (hS : SB w n x v W4) (hlo : w.heap.size + 3 < lo) {g cap : Nat} (ho : W.ownsRow lo 69 3 (.slice (some ⟨g, 0, none⟩) (e.bag.length + 1) cap) (e.bag ++ [m]).length (mailsL (e.bag ++ [m]))) (hat : Bv.ownBlock = some g ∨ W4.heap.size ≤ g) :
    AddG w n x v lo P N e m Bv y W4 true true (W.setCell ⟨P, 1, none⟩ (.slice (some ⟨g, 0, none⟩) (e.bag.length + 1) cap)) := by
  have hg := h.mid rfl
  have hlw : lo ≤ W4.heap.size := Nat.le_of_lt (Nat.lt_of_le_of_lt hL.lp hL.head.lt)
  have hp := hL.lp
  refine ⟨fun h0 => (by cases h0), fun h0 => (by cases h0), fun _ => ⟨_, hL.setBag hg ho (fun q hq => by cases hq; exact hat), (hS.keepLo (grown_below hg (fun k hk => (hL.bag.lt k hk).1) hlw) hlo).set (by omega) _ _, by simpa using hg.size, fun b hb hn hP => ?_, fun b hb hq => ?_⟩⟩
  · rw [Below.heap_setCell _ _ _ _ hP]
    exact hg.block b hb (fun e1 => hn e1.symm)
  · have hq' : g = b := Option.some.inj hq
    rcases hat with h1 | h1
    · rw [h1, hq']
    · omega
end

end Go.Proofs.YtjhkadffaephmabGreat

/-
  The document's reckoning of packets: SumOf, WriteOf.
-/
namespace Go.Proofs.YtjhkadffaephmabGreat
set_option maxRecDepth 100000
open Go.RowKit

set_option maxHeartbeats 1000000 in
theorem sumOf_any (l : List UInt8) (w : World) (hl : l.length ≤ 100) :
    Calls Tryz.prog 66 #[txt l] w fun e w' => e = .returned (.int .i64 ((sumOf l : Nat) : Int)) ∧ ∃ m, w' = w.drewN m := by
  have hsz : (ByteArray.mk l.toArray).size = l.length := by simp [ByteArray.size]
  have HG : Hid (∀ (k : Nat) (h : k < (ByteArray.mk l.toArray).size), (ByteArray.mk l.toArray)[k] = l.getD k 0) := hide (fun k h => read_idx h)
  have HE : Hid (sumOf (l.take l.length) = sumOf l) := hide (by rw [List.take_length])
  unfold txt
  generalize ByteArray.mk l.toArray = s at *
  go_enter Tryz.func66, Tryz.ntmps66
  go_wp2
  go_loop [3, 4] (fun s i => ∃ k : Nat, k ≤ l.length ∧ i = .int .i64 k ∧ s = .int .i64 ((sumOf (l.take k) : Nat) : Int)) (fun _ i => l.length - (intOf i).toNat)
  case atStart => exact ⟨0, Nat.zero_le _, rfl, rfl⟩
  case round =>
    obtain ⟨k, hk, rfl, rfl⟩ := hrel
    by_cases hlt : k < l.length
    · have hs := sumOf_lt (l.take k)
      have hb := (l[k]).toNat_lt
      have hg : ∀ h : k < s.size, (s[k]'h).toNat = (l[k]).toNat := fun h => by
        rw [HG.out k h, List.getD_eq_getElem?_getD, List.getElem?_eq_getElem hlt]; rfl
      have Hn : Hid (sumOf (l.take (k + 1)) = (31 * sumOf (l.take k) + (l[k]).toNat) % 65521) := hide (by rw [List.take_succ_eq_append_getElem hlt, sumOf_snoc]; rfl)
      generalize sumOf (l.take k) = sv at *
      generalize (l[k]).toNat = bv at *
      have hki : (k : Int) < (l.length : Int) := by omega
      go_wp2
      go_round
      case rel => exact ⟨k + 1, by omega, by go_num, by rw [Hn.out]; go_num⟩
      case measure => simp [intOf]; omega
    · have hkn : k = l.length := by omega
      subst hkn
      rw [HE.out]
      go_wp2
      go_ret
      exact ⟨rfl, 0, rfl⟩

/-- A slice of bytes that was just built, as a string. -/
theorem conv_lit (W : World) (l : List UInt8) (vs : Array Value) (hv : vs = (bytesL l).toArray) (n : Nat) (hn : n = l.length) :
    (convert 80 9 (.slice (some ⟨W.heap.size, 0, none⟩) n n)).run Tryz.prog (W.alloc (.cells vs 5)) = .ok (.string ⟨l.toArray⟩) (W.alloc (.cells vs 5)) := by
  subst hn hv
  refine run_convert_bytes_back (P := Tryz.prog) (W.alloc (.cells (bytesL l).toArray 5)) 80 9 5 ⟨W.heap.size, 0, none⟩ l.length l Tryz.underlying80 Tryz.underlying5 Tryz.underlying9 (fun j hj => ?_)
  rw [Go.WideShapes.add_plain, (Blk.new W (bytesL l).toArray 5).cell (0 + j)]
  simp [bytesL_get hj]

set_option maxHeartbeats 4000000 in
theorem writeOf_any (p : PktM) (w : World) (h : p.In w.heap.size w) :
    Calls Tryz.prog 32 #[p.val] w fun e w' => e = .returned (.tuple #[txt p.pkt.text, .int .i64 p.pkt.err]) ∧ Below w.heap.size w w' := by
  obtain ⟨W0, hW0⟩ : ∃ W0, W0 = w.alloc (.cells p.cells 76) := ⟨_, rfl⟩
  have hB0 : Below w.heap.size w W0 := by rw [hW0]; exact (Below.refl _ w).alloc (Nat.le_refl _) _
  have b0 : Blk W0 w.heap.size p.cells 76 := by rw [hW0]; exact Blk.new w _ _
  have hlen := h.small
  have H := hide (h.grown hB0)
  have HF : Hid (p.pkt.inRange = (inB p.F && inB p.T && p.pkt.routesIn)) := hide rfl
  have Hbad : Hid (p.pkt.inRange = false → p.pkt.err = 3 ∧ p.pkt.text = []) := hide (fun e => by
    have : p.pkt.err = 3 := by unfold Pkt.err; rw [if_pos e]
    exact ⟨this, by unfold Pkt.text; rw [this]; rfl⟩)
  have HB0 := hide hB0
  have Hb0 := hide b0
  have x0 := b0.cell 0
  have x1 := b0.cell 1
  have x2 := b0.cell 2
  clear h hB0 b0
  simp only [PktM.val, PktM.cells] at *
  simp at x0 x1 x2
  go_enter Tryz.func32, Tryz.ntmps32
  go_wp2_with fail
  rw [← hW0]
  clear hW0
  go_at_call 24
  refine (between_any _ _ _ _).mono ?_
  rintro e w1 ⟨rfl, rfl⟩
  rw [show (decide (0 ≤ p.F) && decide (p.F ≤ 250)) = inB p.F from rfl]
  by_cases hF : inB p.F = true
  · rw [hF]
    go_wp2_with fail
    go_at_call 24
    refine (between_any _ _ _ _).mono ?_
    rintro e w1 ⟨rfl, rfl⟩
    rw [show (decide (0 ≤ p.T) && decide (p.T ≤ 250)) = inB p.T from rfl]
    by_cases hT : inB p.T = true
    · rw [hT]
      go_wp2
      go_loop [4] (fun i => ∃ k : Nat, k ≤ p.n ∧ i = .int .i64 k ∧ Hid (∀ r, r < k → 0 ≤ p.R r ∧ p.R r ≤ 250)) (fun i => p.n - (intOf i).toNat)
      case atStart => exact ⟨0, Nat.zero_le _, rfl, hide (fun r hr => absurd hr (Nat.not_lt_zero _))⟩
      case round =>
        obtain ⟨k, hk, rfl, Hall⟩ := hrel
        by_cases hlt : k < p.n
        · have ha := H.out.ints.addr (by omega)
          have hc := H.out.ints.cell k hlt
          have hki : (k : Int) < (p.n : Int) := by omega
          go_wp2_with fail
          go_at_call 24
          refine (between_any _ _ _ _).mono ?_
          rintro e w1 ⟨rfl, rfl⟩
          by_cases hR : 0 ≤ p.R k ∧ p.R k ≤ 250
          · have hb : (decide (0 ≤ p.R k) && decide (p.R k ≤ 250)) = true := by simp [hR]
            rw [hb]
            have HN : Hid (∀ r, r < k + 1 → 0 ≤ p.R r ∧ p.R r ≤ 250) := hide (fun r hr => by
              by_cases e : r = k
              · subst e; exact hR
              · exact Hall.out r (by omega))
            clear hR hb
            go_wp2
            go_round
            case rel =>
              (try rw [← ha]); (try refine ⟨trivial, ?_⟩); (repeat apply Exists.intro); refine ⟨?_, rfl⟩; exact ⟨k + 1, by omega, by go_num, HN⟩
            case measure => simp [intOf]; omega
          · have hb : (decide (0 ≤ p.R k) && decide (p.R k ≤ 250)) = false := by simp; omega
            have Hfin := hide (Hbad.out (by rw [HF.out, Pkt.routesIn_false (p := p.pkt) hlt hR, Bool.and_false]))
            rw [hb]
            clear hR hb
            go_wp2
            go_ret2
            exact ⟨by rw [Hfin.out.1, Hfin.out.2]; rfl, HB0.out⟩
        · have hin : p.pkt.inRange = true := by
            have : p.pkt.routesIn = true := Pkt.routesIn_iff.2 (fun r hr => Hall.out r (by have : p.pkt.n = p.n := rfl; omega))
            rw [HF.out, hF, hT, this]; rfl
          by_cases hn : 60 < p.n + 6
          · have Hfin : Hid (p.pkt.err = 2 ∧ p.pkt.text = []) := hide (by
              have : p.pkt.err = 2 := by unfold Pkt.err; rw [if_neg (by simp [hin]), if_pos (show 60 < p.pkt.n + 6 from hn)]
              exact ⟨this, by unfold Pkt.text; rw [this]; rfl⟩)
            have hni : (60 : Int) < 6 + (p.n : Int) := by omega
            clear hn hin hF hT HF Hbad
            go_wp2
            go_ret2
            exact ⟨by rw [Hfin.out.1, Hfin.out.2]; rfl, HB0.out⟩
          · have Hok : Hid (p.pkt.err = 0) := hide (Pkt.err_of hin (show p.pkt.n + 6 ≤ 60 by show p.n + 6 ≤ 60; omega))
            have hni : ¬ (60 : Int) < 6 + (p.n : Int) := by omega
            have hFb : 0 ≤ p.F ∧ p.F ≤ 250 := by unfold inB at hF; simpa using hF
            have hTb : 0 ≤ p.T ∧ p.T ≤ 250 := by unfold inB at hT; simpa using hT
            have hn54 : p.n ≤ 54 := by omega
            have hn54i : (p.n : Int) ≤ 54 := by omega
            have hp0 : bytesL (p.pkt.part 0) = [.int .u8 83, .int .u8 p.F, .int .u8 p.T, .int .u8 (p.n : Int)] := by
              show [Value.int .u8 83, .int .u8 ((u8 p.F).toNat : Int), .int .u8 ((u8 p.T).toNat : Int), .int .u8 ((u8 (p.n : Int)).toNat : Int)] = _
              rw [u8_toNat hFb.1 (by omega), u8_toNat hTb.1 (by omega), u8_toNat (by omega) (by omega)]
            have hcv := conv_lit w1 (p.pkt.part 0) #[.int .u8 83, .int .u8 p.F, .int .u8 p.T, .int .u8 (p.n : Int)] (by rw [hp0]) 4 (by rw [Pkt.part_len])
            have Hall2 : Hid (∀ r, r < p.n → 0 ≤ p.R r ∧ p.R r ≤ 250) := hide (fun r hr => Hall.out r (by omega))
            clear hn hin hF hT HF Hbad hp0 Hall
            go_wp2
            go_loopw [5, 6] (fun v i wr => ∃ k : Nat, k ≤ p.n ∧ i = .int .i64 k ∧ v = .string ⟨(p.pkt.part k).toArray⟩ ∧ Hid (Below w1.heap.size w1 wr)) (fun _ i _ => p.n - (intOf i).toNat)
            case atStart => exact ⟨0, Nat.zero_le _, rfl, rfl, hide ((Below.refl _ _).alloc (Nat.le_refl _) _)⟩
            case round =>
              obtain ⟨k, hk, rfl, rfl, HB⟩ := hrel
              have hI := H.out.below HB.out (Nat.le_refl _)
              have bb := Hb0.out.below HB.out Hb0.out.lt
              have x2' := bb.cell 2
              simp at x2'
              have hpl := p.pkt.part_len k
              have hsz : (ByteArray.mk (p.pkt.part k).toArray).size = 4 + k := by simp [ByteArray.size, hpl]
              by_cases hlt : k < p.n
              · have ha := hI.ints.addr (by omega)
                have hc : ∀ o, (wr.alloc o).cell? ⟨p.rb, p.ro + k, none⟩ = some (.int .i64 (p.R k)) := fun o => by
                  exact (hI.below ((Below.refl _ wr).alloc HB.out.size o) (Nat.le_refl _)).ints.cell k hlt
                have hc' := hI.ints.cell k hlt
                have hki : (k : Int) < (p.n : Int) := by omega
                have hR := Hall2.out k hlt
                have hR1 := hR.1
                have hR2 := hR.2
                have hcv2 := conv_lit wr [u8 (p.R k)] #[.int .u8 (p.R k)] (by
                  show _ = #[Value.int .u8 ((u8 (p.R k)).toNat : Int)]
                  rw [u8_toNat hR.1 (by omega)]) 1 rfl
                have Happ : Hid (ByteArray.mk (p.pkt.part k).toArray ++ ByteArray.mk [u8 (p.R k)].toArray = ByteArray.mk (p.pkt.part (k + 1)).toArray) := hide (by
                  rw [ByteArray.mk_append_mk, Pkt.part_succ]; rfl)
                have hs1 : (ByteArray.mk [u8 (p.R k)].toArray).size = 1 := by simp [ByteArray.size]
                have HB2 := hide (HB.out.alloc HB.out.size (.cells #[.int .u8 (p.R k)] 5))
                generalize ByteArray.mk (p.pkt.part k).toArray = sa at *
                generalize ByteArray.mk [u8 (p.R k)].toArray = sb at *
                clear hI hR hpl bb HB hcv
                go_wp2
                go_roundw
                case rel =>
                  first
                  | exact ⟨k + 1, by omega, by go_num, by rw [Happ.out], HB2⟩
                  | ((try rw [← ha]); (repeat apply Exists.intro); refine ⟨?_, rfl⟩; exact ⟨k + 1, by omega, by go_num, by rw [Happ.out], HB2⟩)
                case measure => simp [intOf]; omega
              · have hkn : k = p.n := by omega
                subst hkn
                have HS := hide (sumOf_any (p.pkt.part p.n) wr (by omega))
                have hbt : p.pkt.bytes = p.pkt.part p.n ++ tailOf (sumOf (p.pkt.part p.n)) := rfl
                have hs := sumOf_lt (p.pkt.part p.n)
                generalize sumOf (p.pkt.part p.n) = s at *
                have hcv2 := fun m => conv_lit (wr.drewN m) [UInt8.ofNat (s / 256), UInt8.ofNat (s % 256)] #[.int .u8 ((s : Int) / 256), .int .u8 ((s : Int) % 256)] (by
                  show _ = #[Value.int .u8 ((UInt8.ofNat (s / 256)).toNat : Int), .int .u8 ((UInt8.ofNat (s % 256)).toNat : Int)]
                  rw [UInt8.toNat_ofNat', UInt8.toNat_ofNat', Nat.mod_eq_of_lt (by omega), Nat.mod_eq_of_lt (by omega)]
                  rfl) 2 rfl
                have Happ : Hid (ByteArray.mk (p.pkt.part p.n).toArray ++ ByteArray.mk [UInt8.ofNat (s / 256), UInt8.ofNat (s % 256)].toArray = ByteArray.mk p.pkt.bytes.toArray) := hide (by
                  rw [ByteArray.mk_append_mk, hbt]; rfl)
                have hs1 : (ByteArray.mk [UInt8.ofNat (s / 256), UInt8.ofNat (s % 256)].toArray).size = 2 := by simp [ByteArray.size]
                have Hfin : Hid (p.pkt.err = 0 ∧ p.pkt.text = p.pkt.bytes) := hide ⟨Hok.out, by unfold Pkt.text; rw [if_pos Hok.out]⟩
                simp only [txt] at HS ⊢
                generalize ByteArray.mk (p.pkt.part p.n).toArray = sa at *
                generalize ByteArray.mk [UInt8.ofNat (s / 256), UInt8.ofNat (s % 256)].toArray = sb at *
                have hs256 : (s : Int) / 256 < 256 := by omega
                have hs0 : 0 ≤ (s : Int) / 256 := by omega
                have hcv3 : ∀ m, (convert 80 9 (.slice (some ⟨wr.heap.size, 0, none⟩) 2 2)).run Tryz.prog ((wr.drewN m).alloc (.cells #[.int .u8 ((s : Int) / 256), .int .u8 ((s : Int) % 256)] 5)) = .ok (.string sb) ((wr.drewN m).alloc (.cells #[.int .u8 ((s : Int) / 256), .int .u8 ((s : Int) % 256)] 5)) := fun m => hcv2 m
                have HBw := hide (HB0.out.trans (HB.out.mono HB0.out.size))
                clear hI hpl bb HB hcv hbt
                go_wp2_with fail
                go_at_call 66
                refine HS.out.mono ?_
                rintro e w3 ⟨rfl, m, rfl⟩
                go_wp2
                go_ret2
                exact ⟨by rw [Hfin.out.1, Hfin.out.2]; unfold txt; rw [← Happ.out]; rfl, (below_drewN HBw.out m).alloc (below_drewN HBw.out m).size _⟩
    · have hT' : inB p.T = false := by simpa using hT
      have Hfin := hide (Hbad.out (by rw [HF.out, hT', Bool.and_false, Bool.false_and]))
      rw [hT']
      clear hF hT hT' HF Hbad
      go_wp2
      go_ret2
      exact ⟨by rw [Hfin.out.1, Hfin.out.2]; rfl, HB0.out⟩
  · have hF' : inB p.F = false := by simpa using hF
    have Hfin := hide (Hbad.out (by rw [HF.out, hF', Bool.false_and, Bool.false_and]))
    rw [hF']
    clear hF hF' HF Hbad
    go_wp2
    go_ret2
    exact ⟨by rw [Hfin.out.1, Hfin.out.2]; rfl, HB0.out⟩

end Go.Proofs.YtjhkadffaephmabGreat
