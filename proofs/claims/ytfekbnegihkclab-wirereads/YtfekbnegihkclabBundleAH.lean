/-
  Our own texts, bundled: a claim holds few files.
-/
import Derived.Test.YtfekbnegihkclabBundleAE
import Derived.Test.YtfekbnegihkclabBundleAG
import Derived.Test.YtfekbnegihkclabBundleAA
import Derived.ProofKit
import Derived.OpenShut
import Derived.Below
import Derived.Lib.SmallJoins
import Derived.Deep.Matrix
/-
  signpostlaw.hops and algebraBegun: what must be in any case.
-/
namespace Go.Proofs.Ytfekbnegihkclab
open Go.RowKit

theorem Blk.new' {W : World} {B : Nat} {vs : Array Value} {t : TypeId} (h : B = W.heap.size) : Blk (W.alloc (.cells vs t)) B vs t := by subst h; exact Blk.new W vs t

def hopsB : Tab := ⟨3, fun _ => 3, fun r c => if r ≤ c then r else c⟩
def hopsE : Tab := ⟨1, fun _ => 3, fun _ c => if c = 0 then 1 else 2⟩
def idE : Tab := ⟨1, fun _ => 3, fun _ c => c⟩

def hopsBM (n : Nat) : Mat := ⟨some ⟨n + 4, 0, none⟩, n + 4, 0, 3, fun r => some ⟨n + 1 + r, 0, none⟩, fun _ => 3, fun r => n + 1 + r, fun _ => 0, hopsB⟩
def hopsEM (n : Nat) : Mat := ⟨some ⟨n + 6, 0, none⟩, n + 6, 0, 1, fun _ => some ⟨n + 5, 0, none⟩, fun _ => 3, fun _ => n + 5, fun _ => 0, hopsE⟩
def hopsM (n : Nat) : AlgM := ⟨3, hopsBM n, hopsEM n⟩
def idEM (n : Nat) : Mat := ⟨some ⟨n + 1, 0, none⟩, n + 1, 0, 1, fun _ => some ⟨n, 0, none⟩, fun _ => 3, fun _ => n, fun _ => 0, idE⟩

theorem hopsBM_in {n k : Nat} {w : World} (b1 : Blk w (n + 1) #[.int .i64 0, .int .i64 0, .int .i64 0] 3) (b2 : Blk w (n + 2) #[.int .i64 0, .int .i64 1, .int .i64 1] 3) (b3 : Blk w (n + 3) #[.int .i64 0, .int .i64 1, .int .i64 2] 3)
    (b4 : Blk w (n + 4) #[.slice (some ⟨n + 1, 0, none⟩) 3 3, .slice (some ⟨n + 2, 0, none⟩) 3 3, .slice (some ⟨n + 3, 0, none⟩) 3 3] 22) (hk : n + 4 < k) : (hopsBM n).In k w where
  ga := fun _ => rfl
  gb := fun _ => hk
  row := fun r hr => by
    have hr' : r < 3 := hr
    match r, hr' with
    | 0, _ => exact b4.cell 0
    | 1, _ => exact b4.cell 1
    | 2, _ => exact b4.cell 2
  addr := fun r hr _ => ⟨rfl, by have hr' : r < 3 := hr; show n + 1 + r < k; omega⟩
  cell := fun r hr c hc => by
    have hr' : r < 3 := hr
    have hc' : c < 3 := hc
    match r, hr', c, hc' with
    | 0, _, 0, _ => exact b1.cell 0
    | 0, _, 1, _ => exact b1.cell 1
    | 0, _, 2, _ => exact b1.cell 2
    | 1, _, 0, _ => exact b2.cell 0
    | 1, _, 1, _ => exact b2.cell 1
    | 1, _, 2, _ => exact b2.cell 2
    | 2, _, 0, _ => exact b3.cell 0
    | 2, _, 1, _ => exact b3.cell 1
    | 2, _, 2, _ => exact b3.cell 2
  len := by show 3 ≤ maxLen; unfold maxLen; omega
  lens := fun _ _ => by show 3 ≤ maxLen; unfold maxLen; omega

theorem hopsEM_in {n k : Nat} {w : World} (b5 : Blk w (n + 5) #[.int .i64 1, .int .i64 2, .int .i64 2] 3) (b6 : Blk w (n + 6) #[.slice (some ⟨n + 5, 0, none⟩) 3 3] 22) (hk : n + 6 < k) : (hopsEM n).In k w where
  ga := fun _ => rfl
  gb := fun _ => hk
  row := fun r hr => by
    have hr' : r < 1 := hr
    match r, hr' with
    | 0, _ => exact b6.cell 0
  addr := fun r hr _ => ⟨rfl, by show n + 5 < k; omega⟩
  cell := fun r hr c hc => by
    have hc' : c < 3 := hc
    match c, hc' with
    | 0, _ => exact b5.cell 0
    | 1, _ => exact b5.cell 1
    | 2, _ => exact b5.cell 2
  len := by show 1 ≤ maxLen; unfold maxLen; omega
  lens := fun _ _ => by show 3 ≤ maxLen; unfold maxLen; omega

theorem idEM_in {n k : Nat} {w : World} (b5 : Blk w n #[.int .i64 0, .int .i64 1, .int .i64 2] 3) (b6 : Blk w (n + 1) #[.slice (some ⟨n, 0, none⟩) 3 3] 22) (hk : n + 1 < k) : (idEM n).In k w where
  ga := fun _ => rfl
  gb := fun _ => hk
  row := fun r hr => by
    have hr' : r < 1 := hr
    match r, hr' with
    | 0, _ => exact b6.cell 0
  addr := fun r hr _ => ⟨rfl, by show n < k; omega⟩
  cell := fun r hr c hc => by
    have hc' : c < 3 := hc
    match c, hc' with
    | 0, _ => exact b5.cell 0
    | 1, _ => exact b5.cell 1
    | 2, _ => exact b5.cell 2
  len := by show 1 ≤ maxLen; unfold maxLen; omega
  lens := fun _ _ => by show 3 ≤ maxLen; unfold maxLen; omega

set_option maxHeartbeats 1000000 in
theorem hops_any (w : World) :
    Calls Try.prog 57 #[] w fun e w' => e = .returned (hopsM w.heap.size).val ∧ (hopsM w.heap.size).In w'.heap.size w' ∧ Below w.heap.size w w' := by
  go_enter Try.func57, Try.ntmps57
  go_wp2
  refine bodyPost_ret (v := (hopsM w.heap.size).val) (by simp [results, Try.results57, go_sem, hopsM, AlgM.val, Mat.val, hopsBM, hopsEM, hopsB, hopsE]) rfl ⟨rfl, ⟨?_, ?_⟩, ?_⟩
  · refine hopsBM_in ?_ ?_ ?_ ?_ (by simp)
    all_goals repeat (first | exact Blk.new' (by simp) | refine Blk.alloc ?_ _)
  · refine hopsEM_in ?_ ?_ (by simp)
    all_goals repeat (first | exact Blk.new' (by simp) | refine Blk.alloc ?_ _)
  · exact ((((((((Below.refl _ w).alloc (Nat.le_refl _) _).alloc (by simp) _).alloc (by simp; omega) _).alloc (by simp; omega) _).alloc (by simp; omega) _).alloc (by simp; omega) _).alloc (by simp; omega) _)

theorem hops_check : Alg.check ⟨3, hopsB, hopsE⟩ = 0 := by decide +kernel
theorem hops_laws : Alg.tell ⟨3, hopsB, hopsE⟩ [1, 2, 3, 4, 5, 6, 7] = Brk.none := Brk.same_iff.1 (by decide +kernel)
theorem id_check : Alg.check ⟨3, hopsB, idE⟩ = 0 := by decide +kernel
theorem id_strict : Alg.tell ⟨3, hopsB, idE⟩ [8] = ⟨8, 0, 0, 0, 0⟩ := Brk.same_iff.1 (by decide +kernel)
theorem id_fits : Alg.fitsB ⟨3, hopsB, idE⟩ ⟨8, 0, 0, 0, 0⟩ = true := by decide +kernel
theorem id_holds : Alg.holds ⟨3, hopsB, idE⟩ ⟨8, 0, 0, 0, 0⟩ = false := by decide +kernel

end Go.Proofs.Ytfekbnegihkclab

/-
  The arguments as they came: an algebra, and what is told to be broken, out of their readings.
-/
namespace Go.Proofs.Ytfekbnegihkclab
set_option maxRecDepth 100000
open Go.RowKit Go.ChangeShapes Go.WideShapes Go.Joins Go.Deep

theorem Try.cells38 : Try.prog.cellsOf 38 = 3 := by kernel_rfl
theorem Try.cells3 : Try.prog.cellsOf 3 = 1 := by kernel_rfl
theorem Try.cells36 : Try.prog.cellsOf 36 = 1 := by kernel_rfl
theorem Try.cells22 : Try.prog.cellsOf 22 = 1 := by kernel_rfl
theorem Try.cells64 : Try.prog.cellsOf 64 = 5 := by kernel_rfl

theorem array5 {α : Type} {cs : Array α} (h : cs.size = 5) : ∃ a b c d e, cs = #[a, b, c, d, e] := by
  obtain ⟨l⟩ := cs
  match l, h with
  | [a, b, c, d, e], _ => exact ⟨a, b, c, d, e, rfl⟩

section
variable {H : Type} {enc : TypeId × Value → H} {W : World}

theorem open_mat {n : Nat} {v : Value} {y : DataW H × List MemPlace} (h : DataW.trod enc Try.prog W 0 (fun _ => true) true n 36 [v] = some y) : ∃ m : Mat, v = m.val ∧ m.In W.heap.size W := by
  rcases open_int_rows Try.underlying36 Try.underlying22 Try.underlying3 Try.cells22 Try.cells3 h with ⟨hcs, _⟩ | ⟨a, len, cap, A, L, C, Z, hcs, _, hl, hm, _, hrows⟩
  · simp at hcs
    refine ⟨⟨none, 0, 0, 0, fun _ => none, fun _ => 0, fun _ => 0, fun _ => 0, ⟨0, fun _ => 0, fun _ _ => 0⟩⟩, hcs, ⟨?_, ?_, ?_, ?_, ?_, Nat.zero_le _, ?_⟩⟩
    all_goals intro r
    · exact absurd r (Nat.not_lt_zero _)
    · exact absurd r (Nat.not_lt_zero _)
    all_goals
      intro hr
      exact absurd hr (Nat.not_lt_zero _)
  · simp at hcs
    obtain ⟨gb, go, gs⟩ := a
    rcases Nat.eq_zero_or_pos len with hl0 | hlp
    · subst hl0
      refine ⟨⟨some ⟨gb, go, gs⟩, 0, 0, cap, A, C, fun _ => 0, fun _ => 0, ⟨0, fun _ => 0, fun _ _ => 0⟩⟩, hcs, ⟨?_, ?_, ?_, ?_, ?_, Nat.zero_le _, ?_⟩⟩
      all_goals intro r
      · exact absurd r (Nat.not_lt_zero _)
      · exact absurd r (Nat.not_lt_zero _)
      all_goals
        intro hr
        exact absurd hr (Nat.not_lt_zero _)
    · have hgs : gs = none := by simpa [Addr.add] using World.cell?_spot (hrows 0 (by omega)).1
      subst hgs
      have hrow : ∀ r, r < len → W.cell? ⟨gb, go + r, none⟩ = some (.slice (A r) (L r) (C r)) := fun r hr => by rw [← add_plain]; exact (hrows r (by omega)).1
      have hAdr : ∀ r, r < len → ∀ c, c < L r → A r = some ⟨((A r).getD default).block, ((A r).getD default).off, none⟩ ∧ W.cell? ⟨((A r).getD default).block, ((A r).getD default).off + c, none⟩ = some (.int .i64 ((Z r).getD c 0)) := fun r hr c hc => by
        obtain ⟨_, h1, _, hzl, _, h3, h4⟩ := hrows r (by omega)
        cases hA : A r with
        | none => have := h3 hA; omega
        | some a' =>
          obtain ⟨ab, ao, asp⟩ := a'
          obtain ⟨_, hcell⟩ := h4 _ hA
          have has : asp = none := by simpa [Addr.add] using World.cell?_spot (hcell 0 (by omega))
          subst has
          exact ⟨rfl, by have := hcell c (by omega); rwa [add_plain] at this⟩
      refine ⟨⟨some ⟨gb, go, none⟩, gb, go, cap, A, C, fun r => ((A r).getD default).block, fun r => ((A r).getD default).off, ⟨len, L, fun r c => (Z r).getD c 0⟩⟩, hcs, ⟨fun _ => rfl, fun _ => World.block_lt_of_cell? _ _ (hrow 0 hlp), hrow, fun r hr h0 => ⟨(hAdr r hr 0 h0).1, World.block_lt_of_cell? W ⟨((A r).getD default).block, ((A r).getD default).off + 0, none⟩ (hAdr r hr 0 h0).2⟩, fun r hr c hc => (hAdr r hr c hc).2, by show len ≤ maxLen; omega, fun r hr => ?_⟩⟩
      obtain ⟨_, h1, h2, _⟩ := hrows r (by have : r < len := hr; omega)
      show L r ≤ maxLen
      omega

theorem open_alg {b0 : Nat} {v : Value} {d : DataW H} {p : List MemPlace} (hv : Value.okWide Try.prog W .any b0 38 v) (h : DataW.Trod enc Try.prog W 0 (fun _ => true) true 38 v d p) :
    ∃ a : AlgM, v = a.val ∧ a.In W.heap.size W := by
  obtain ⟨c0, c1, c2, y0, y1, y2, m, rfl, rfl, rfl, h0, h1, h2⟩ := open_agg3 Try.underlying38 (by kernel_rfl) Try.cells38 hv h
  obtain ⟨s, e0, _, _⟩ := DataW.trod_int Try.underlying3 h0
  simp at e0
  obtain ⟨B, rfl, hB⟩ := open_mat h1
  obtain ⟨E, rfl, hE⟩ := open_mat h2
  exact ⟨⟨s, B, E⟩, by rw [e0]; rfl, hB, hE⟩

theorem open_brk {b0 : Nat} {v : Value} {d : DataW H} {p : List MemPlace} (hv : Value.okWide Try.prog W .any b0 64 v) (h : DataW.Trod enc Try.prog W 0 (fun _ => true) true 64 v d p) :
    ∃ b : Brk, v = b.val ∧ (Lit.int .i64 b.law).wf = true ∧ (Lit.int .i64 b.a).wf = true ∧ (Lit.int .i64 b.b).wf = true ∧ (Lit.int .i64 b.c).wf = true ∧ (Lit.int .i64 b.e).wf = true := by
  obtain ⟨cs, rfl, hsz⟩ := okWide_struct Try.underlying64 hv
  obtain ⟨c0, c1, c2, c3, c4, rfl⟩ := array5 (hsz.trans Try.cells64)
  obtain ⟨fuel, hf⟩ := h
  obtain ⟨xs, n, _, _, _, hlen, hfs⟩ := DataW.trod_struct Try.underlying64 hf
  match xs, hlen with
  | [y0, y1, y2, y3, y4], _ =>
    have k0 := hfs 0 _ rfl
    have k1 := hfs 1 _ rfl
    have k2 := hfs 2 _ rfl
    have k3 := hfs 3 _ rfl
    have k4 := hfs 4 _ rfl
    simp [Value.cells, Try.cells3] at k0 k1 k2 k3 k4
    obtain ⟨a0, e0, _, w0⟩ := DataW.trod_int Try.underlying3 k0
    obtain ⟨a1, e1, _, w1⟩ := DataW.trod_int Try.underlying3 k1
    obtain ⟨a2, e2, _, w2⟩ := DataW.trod_int Try.underlying3 k2
    obtain ⟨a3, e3, _, w3⟩ := DataW.trod_int Try.underlying3 k3
    obtain ⟨a4, e4, _, w4⟩ := DataW.trod_int Try.underlying3 k4
    simp at e0 e1 e2 e3 e4
    subst e0 e1 e2 e3 e4
    exact ⟨⟨a0, a1, a2, a3, a4⟩, rfl, w0, w1, w2, w3, w4⟩
end

theorem Try.own : ownKnob Try.prog.godebug = none := by kernel_rfl
theorem Try.laidOut : laidOutB Try.prog = true := by kernel_rfl

end Go.Proofs.Ytfekbnegihkclab
