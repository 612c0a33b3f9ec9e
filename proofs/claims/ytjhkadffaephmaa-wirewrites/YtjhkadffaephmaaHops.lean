/-
  signpostlaw.hops and algebraBegun: what must be in any case.
-/
import Derived.Test.YtjhkadffaephmaaLaws
import Derived.Test.YtjhkadffaephmaaHoldsF
namespace Go.Proofs.Ytjhkadffaephmaa
open Go.RowKit

theorem Blk.new' {W : World} {B : Nat} {vs : Array Value} {t : TypeId} (h : B = W.heap.size) : Blk (W.alloc (.cells vs t)) B vs t := by subst h; exact Blk.new W vs t

def hopsB : Tab := ⟨3, fun _ => 3, fun r c => if r ≤ c then r else c⟩
def hopsE : Tab := ⟨1, fun _ => 3, fun _ c => if c = 0 then 1 else 2⟩
def idE : Tab := ⟨1, fun _ => 3, fun _ c => c⟩

def hopsBM (n : Nat) : Mat := ⟨some ⟨n + 4, 0, none⟩, n + 4, 0, 3, fun r => some ⟨n + 1 + r, 0, none⟩, fun _ => 3, fun r => n + 1 + r, fun _ => 0, hopsB⟩
def hopsEM (n : Nat) : Mat := ⟨some ⟨n + 6, 0, none⟩, n + 6, 0, 1, fun _ => some ⟨n + 5, 0, none⟩, fun _ => 3, fun _ => n + 5, fun _ => 0, hopsE⟩
def hopsM (n : Nat) : AlgM := ⟨3, hopsBM n, hopsEM n⟩
def idEM (n : Nat) : Mat := ⟨some ⟨n + 1, 0, none⟩, n + 1, 0, 1, fun _ => some ⟨n, 0, none⟩, fun _ => 3, fun _ => n, fun _ => 0, idE⟩

theorem hopsBM_in {n k : Nat} {w : World} (b1 : Blk w (n + 1) #[.int .i64 0, .int .i64 0, .int .i64 0] 3) (b2 : Blk w (n + 2) #[.int .i64 0, .int .i64 1, .int .i64 1] 3) (b3 : Blk w (n + 3) #[.int .i64 0, .int .i64 1, .int .i64 2] 3)
    (b4 : Blk w (n + 4) #[.slice (some ⟨n + 1, 0, none⟩) 3 3, .slice (some ⟨n + 2, 0, none⟩) 3 3, .slice (some ⟨n + 3, 0, none⟩) 3 3] 32) (hk : n + 4 < k) : (hopsBM n).In k w where
  ga := fun _ => rfl
  gb := fun _ => hk
  row := fun r hr => by
    have hr' : r < 3 := hr
    match r, hr' with
    | 0, _ => exact b4.cell 0
    | 1, _ => exact b4.cell 1
    | 2, _ => exact b4.cell 2
  addr := fun r hr _ => ⟨rfl, by have hr' : r < 3 := hr; show n + 1 + r < k; omega⟩
  cell := fun r hr c hc => by
    have hr' : r < 3 := hr
    have hc' : c < 3 := hc
    match r, hr', c, hc' with
    | 0, _, 0, _ => exact b1.cell 0
    | 0, _, 1, _ => exact b1.cell 1
    | 0, _, 2, _ => exact b1.cell 2
    | 1, _, 0, _ => exact b2.cell 0
    | 1, _, 1, _ => exact b2.cell 1
    | 1, _, 2, _ => exact b2.cell 2
    | 2, _, 0, _ => exact b3.cell 0
    | 2, _, 1, _ => exact b3.cell 1
    | 2, _, 2, _ => exact b3.cell 2
  len := by show 3 ≤ maxLen; unfold maxLen; omega
  lens := fun _ _ => by show 3 ≤ maxLen; unfold maxLen; omega

theorem hopsEM_in {n k : Nat} {w : World} (b5 : Blk w (n + 5) #[.int .i64 1, .int .i64 2, .int .i64 2] 3) (b6 : Blk w (n + 6) #[.slice (some ⟨n + 5, 0, none⟩) 3 3] 32) (hk : n + 6 < k) : (hopsEM n).In k w where
  ga := fun _ => rfl
  gb := fun _ => hk
  row := fun r hr => by
    have hr' : r < 1 := hr
    match r, hr' with
    | 0, _ => exact b6.cell 0
  addr := fun r hr _ => ⟨rfl, by show n + 5 < k; omega⟩
  cell := fun r hr c hc => by
    have hc' : c < 3 := hc
    match c, hc' with
    | 0, _ => exact b5.cell 0
    | 1, _ => exact b5.cell 1
    | 2, _ => exact b5.cell 2
  len := by show 1 ≤ maxLen; unfold maxLen; omega
  lens := fun _ _ => by show 3 ≤ maxLen; unfold maxLen; omega

theorem idEM_in {n k : Nat} {w : World} (b5 : Blk w n #[.int .i64 0, .int .i64 1, .int .i64 2] 3) (b6 : Blk w (n + 1) #[.slice (some ⟨n, 0, none⟩) 3 3] 32) (hk : n + 1 < k) : (idEM n).In k w where
  ga := fun _ => rfl
  gb := fun _ => hk
  row := fun r hr => by
    have hr' : r < 1 := hr
    match r, hr' with
    | 0, _ => exact b6.cell 0
  addr := fun r hr _ => ⟨rfl, by show n < k; omega⟩
  cell := fun r hr c hc => by
    have hc' : c < 3 := hc
    match c, hc' with
    | 0, _ => exact b5.cell 0
    | 1, _ => exact b5.cell 1
    | 2, _ => exact b5.cell 2
  len := by show 1 ≤ maxLen; unfold maxLen; omega
  lens := fun _ _ => by show 3 ≤ maxLen; unfold maxLen; omega

set_option maxHeartbeats 1000000 in
theorem hops_any (w : World) :
    Calls Try.prog 58 #[] w fun e w' => e = .returned (hopsM w.heap.size).val ∧ (hopsM w.heap.size).In w'.heap.size w' ∧ Below w.heap.size w w' := by
  go_enter Try.func58, Try.ntmps58
  go_wp2
  refine bodyPost_ret (v := (hopsM w.heap.size).val) (by simp [results, Try.results58, go_sem, hopsM, AlgM.val, Mat.val, hopsBM, hopsEM, hopsB, hopsE]) rfl ⟨rfl, ⟨?_, ?_⟩, ?_⟩
  · refine hopsBM_in ?_ ?_ ?_ ?_ (by simp)
    all_goals repeat (first | exact Blk.new' (by simp) | refine Blk.alloc ?_ _)
  · refine hopsEM_in ?_ ?_ (by simp)
    all_goals repeat (first | exact Blk.new' (by simp) | refine Blk.alloc ?_ _)
  · exact ((((((((Below.refl _ w).alloc (Nat.le_refl _) _).alloc (by simp) _).alloc (by simp; omega) _).alloc (by simp; omega) _).alloc (by simp; omega) _).alloc (by simp; omega) _).alloc (by simp; omega) _)

theorem hops_check : Alg.check ⟨3, hopsB, hopsE⟩ = 0 := by decide +kernel
theorem hops_laws : Alg.tell ⟨3, hopsB, hopsE⟩ [1, 2, 3, 4, 5, 6, 7] = Brk.none := Brk.same_iff.1 (by decide +kernel)
theorem id_check : Alg.check ⟨3, hopsB, idE⟩ = 0 := by decide +kernel
theorem id_strict : Alg.tell ⟨3, hopsB, idE⟩ [8] = ⟨8, 0, 0, 0, 0⟩ := Brk.same_iff.1 (by decide +kernel)
theorem id_fits : Alg.fitsB ⟨3, hopsB, idE⟩ ⟨8, 0, 0, 0, 0⟩ = true := by decide +kernel
theorem id_holds : Alg.holds ⟨3, hopsB, idE⟩ ⟨8, 0, 0, 0, 0⟩ = false := by decide +kernel

end Go.Proofs.Ytjhkadffaephmaa
