/-
  signpostref.CheckAlgebra.
-/
import Derived.Test.YtjhkadffaephmaaHoldsE
import Derived.Deep.RegionLaw
import Derived.Deep.AppendSrc
namespace Go.Proofs.Ytjhkadffaephmaa
open Go.RowKit

def Tab.append (s t : Tab) : Tab where
  len := s.len + t.len
  L := fun r => if r < s.len then s.L r else t.L (r - s.len)
  Z := fun r => if r < s.len then s.Z r else t.Z (r - s.len)

theorem Tab.append_wide (s t : Tab) (n : Int) : (s.append t).wide n = (s.wide n && t.wide n) := by
  rw [Bool.eq_iff_iff, Bool.and_eq_true, Tab.wide_iff, Tab.wide_iff, Tab.wide_iff]
  constructor
  · intro h
    refine ⟨fun r hr => ?_, fun r hr => ?_⟩
    · have := h r (show r < s.len + t.len by omega)
      simpa [Tab.append, hr] using this
    · have := h (s.len + r) (show s.len + r < s.len + t.len by omega)
      simpa [Tab.append, show ¬ s.len + r < s.len by omega] using this
  · rintro ⟨h1, h2⟩ r hr
    have hr' : r < s.len + t.len := hr
    by_cases hlt : r < s.len
    · simpa [Tab.append, hlt] using h1 r hlt
    · simpa [Tab.append, hlt] using h2 (r - s.len) (by omega)

theorem Tab.append_routes (s t : Tab) (n : Int) : (s.append t).routes n = (s.routes n && t.routes n) := by
  rw [Bool.eq_iff_iff, Bool.and_eq_true, Tab.routes_iff, Tab.routes_iff, Tab.routes_iff]
  constructor
  · intro h
    refine ⟨fun r hr c hc => ?_, fun r hr c hc => ?_⟩
    · have := h r (show r < s.len + t.len by omega) c (by simpa [Tab.append, hr] using hc)
      simpa [Tab.append, hr] using this
    · have := h (s.len + r) (show s.len + r < s.len + t.len by omega) c (by simpa [Tab.append, show ¬ s.len + r < s.len by omega] using hc)
      simpa [Tab.append, show ¬ s.len + r < s.len by omega] using this
  · rintro ⟨h1, h2⟩ r hr c hc
    have hr' : r < s.len + t.len := hr
    by_cases hlt : r < s.len
    · simpa [Tab.append, hlt] using h1 r hlt c (by simpa [Tab.append, hlt] using hc)
    · simpa [Tab.append, hlt] using h2 (r - s.len) (by omega) c (by simpa [Tab.append, hlt] using hc)

/-- The rows of a table as the cells of a slice of slices. -/
def Mat.rows (m : Mat) : List Value := (List.range m.t.len).map fun r => .slice (m.A r) (m.t.L r) (m.C r)

theorem Mat.rows_length (m : Mat) : m.rows.length = m.t.len := by simp [Mat.rows]
theorem Mat.rows_get (m : Mat) (j : Nat) : m.rows[j]? = if j < m.t.len then some (.slice (m.A j) (m.t.L j) (m.C j)) else none := by
  by_cases h : j < m.t.len <;> simp [Mat.rows, h]

theorem Try.info32 : (Try.prog.info? 32).map (fun i => (i.zero, i.size, i.bytes)) = some (some (.slice none 0 0), 1, 24) := by kernel_rfl

/-- append, as one step of a region that draws, by what its run comes to. -/
theorem step_append_run {P : Program} {ops : Array Oper} {o : Oper} {a : Act} {w : World} {K : Act → World → Prop} {Q : Exit → Act → World → Prop} {E : Prop}
    (hg : o.guard = none) (s x : Operand) (t : TypeId) (hop : o.op = Op.call { callee := Callee.builtin Builtin.append, args := #[s, x], argTypes := #[t, t] })
    (sv xv : Value) (hs : a.eval s = sv) (hx : a.eval x = xv) (v' : Value) (w' : World) (hrun : (Builtin.append_ #[t, t] o.type #[sv, xv]).run P w = .ok v' w') (hK : K (a.put o.dst v') w') :
    if Region.wanted o (yielded ops a.tmps) = true then Oper.wp P o a w K Q else E := by
  have hw : Region.wanted o (yielded ops a.tmps) = true := by simp [Region.wanted, hg]
  rw [if_pos hw]
  unfold Oper.wp
  simp [execOp, hop, resolve, invoke, builtin, hs, hx, hrun, Result.andThen]
  exact hK

/-- A table's rows appended to a row of one's own. -/
theorem append_mat (W : World) (base k g cap n : Nat) (xs : List Value) (hown : W.ownsRow base 32 1 (.slice (some ⟨g, 0, none⟩) n cap) n xs) (m : Mat) (hm : m.In k W) (hb : base ≤ W.heap.size) (hsz : n + m.t.len ≤ 1000) (ty : TypeId) :
    ∃ g' cap' W', (Builtin.append_ #[22, 22] ty #[.slice (some ⟨g, 0, none⟩) n cap, m.val]).run Try.prog W = .ok (.slice (some ⟨g', 0, none⟩) (n + m.t.len) cap') W' ∧
      W'.ownsRow base 32 1 (.slice (some ⟨g', 0, none⟩) (n + m.t.len) cap') (n + m.t.len) (xs ++ m.rows) ∧ W.grownBy W' (some g) := by
  obtain ⟨i0, hi, hz0, hz1, hz2⟩ := info_parts Try.info32
  cases hga : m.ga with
  | some a =>
    obtain ⟨v', W', hrun, ho, hgr, hnil⟩ := run_append_own (P := Try.prog) W base 22 ty 32 i0 (.slice none 0 0) 1 24 Try.underlying22 hi hz0 hz1 hz2 rfl (by decide) (.slice (some ⟨g, 0, none⟩) n cap) n xs hown a m.t.len m.cap m.rows (by rw [m.rows_length, Nat.mul_one])
      (fun j u hju => by
        rw [m.rows_get] at hju
        split at hju
        · next hj =>
          have e := hm.ga (by omega)
          rw [hga] at e
          cases e
          cases hju
          have := hm.row j hj
          by_cases h0 : j = 0
          · subst h0; simpa [Addr.add] using this
          · simpa [Addr.add, h0] using this
        · cases hju)
      (fun u hu => by
        obtain ⟨r, _, rfl⟩ := List.mem_map.1 hu
        rfl)
      (by unfold maxLen; omega) (by omega) hb
    have hv' : ∃ g' cap', v' = .slice (some ⟨g', 0, none⟩) (n + m.t.len) cap' := by
      rcases ho.2 with ⟨h0, _⟩ | ⟨g', cap', cur, h1, _⟩
      · have := (hnil.1 h0).1
        cases this
      · exact ⟨g', cap', h1⟩
    obtain ⟨g', cap', rfl⟩ := hv'
    exact ⟨g', cap', W', by rw [Mat.val, hga]; exact hrun, ho, hgr⟩
  | none =>
    have h0 : m.t.len = 0 := by
      rcases Nat.eq_zero_or_pos m.t.len with h | h
      · exact h
      · have := hm.ga h; rw [hga] at this; cases this
    have hrows : m.rows = [] := by simp [Mat.rows, h0]
    have hcap : n + 0 ≤ cap := by
      rcases hown.2 with ⟨h1, _⟩ | ⟨g', cap', cur, h1, _, _, h2, _⟩
      · cases h1
      · cases h1; exact h2
    have hrun := run_append_room_src (P := Try.prog) W 22 22 ty 32 i0 Try.underlying22 hi g 0 n cap (.slice none 0 m.cap) 0 [] (Src.ofNil W Try.underlying22 m.cap) hcap (fun j hj => absurd hj (Nat.not_lt_zero _)) (fun j hj => absurd hj (Nat.not_lt_zero _))
    refine ⟨g, cap, W, ?_, ?_, ⟨rfl, rfl, rfl, Nat.le_refl _, fun _ _ _ => rfl⟩⟩
    · rw [Mat.val, hga, h0]
      exact hrun
    · rw [h0, hrows, List.append_nil]
      exact hown

/-- The rows of two tables in one row of one's own are a table. -/
theorem all_mat {W : World} {base k g cap : Nat} {B E : Mat} (hown : W.ownsRow base 32 1 (.slice (some ⟨g, 0, none⟩) (B.t.len + E.t.len) cap) (B.t.len + E.t.len) (B.rows ++ E.rows)) (hB : B.In k W) (hE : E.In k W) (hk : k ≤ W.heap.size) (hsz : B.t.len + E.t.len ≤ 1000) :
    ∃ m : Mat, m.val = .slice (some ⟨g, 0, none⟩) (B.t.len + E.t.len) cap ∧ m.In W.heap.size W ∧ m.t = B.t.append E.t := by
  have hlt := (hown.lt g rfl).2
  have hc := hown.cells (g := g) rfl
  refine ⟨⟨some ⟨g, 0, none⟩, g, 0, cap, fun r => if r < B.t.len then B.A r else E.A (r - B.t.len), fun r => if r < B.t.len then B.C r else E.C (r - B.t.len), fun r => if r < B.t.len then B.RB r else E.RB (r - B.t.len), fun r => if r < B.t.len then B.RO r else E.RO (r - B.t.len), B.t.append E.t⟩, rfl, ⟨fun _ => rfl, fun _ => hlt, ?_, ?_, ?_, ?_, ?_⟩, rfl⟩
  · intro r hr
    have hr' : r < B.t.len + E.t.len := hr
    by_cases hb : r < B.t.len
    · have := hc r (.slice (B.A r) (B.t.L r) (B.C r)) (by rw [List.getElem?_append_left (by rw [B.rows_length]; exact hb), B.rows_get, if_pos hb])
      by_cases h0 : r = 0
      · subst h0; simpa [Addr.add, Tab.append, hb] using this
      · simpa [Addr.add, h0, Tab.append, hb] using this
    · have := hc r (.slice (E.A (r - B.t.len)) (E.t.L (r - B.t.len)) (E.C (r - B.t.len))) (by rw [List.getElem?_append_right (by rw [B.rows_length]; omega), B.rows_length, E.rows_get, if_pos (by omega)])
      by_cases h0 : r = 0
      · subst h0; simpa [Addr.add, Tab.append, hb] using this
      · simpa [Addr.add, h0, Tab.append, hb] using this
  · intro r hr h0
    have hr' : r < B.t.len + E.t.len := hr
    by_cases hb : r < B.t.len
    · have := hB.addr r hb (by simpa [Tab.append, hb] using h0)
      simp only [hb, if_true]
      exact ⟨this.1, Nat.lt_of_lt_of_le this.2 hk⟩
    · have := hE.addr (r - B.t.len) (by omega) (by simpa [Tab.append, hb] using h0)
      simp only [hb, if_false]
      exact ⟨this.1, Nat.lt_of_lt_of_le this.2 hk⟩
  · intro r hr c hcc
    have hr' : r < B.t.len + E.t.len := hr
    by_cases hb : r < B.t.len
    · have := hB.cell r hb c (by simpa [Tab.append, hb] using hcc)
      simpa [Tab.append, hb] using this
    · have := hE.cell (r - B.t.len) (by omega) c (by simpa [Tab.append, hb] using hcc)
      simpa [Tab.append, hb] using this
  · show B.t.len + E.t.len ≤ maxLen
    unfold maxLen; omega
  · intro r hr
    have hr' : r < B.t.len + E.t.len := hr
    by_cases hb : r < B.t.len
    · have := hB.lens r hb
      simpa [Tab.append, hb] using this
    · have := hE.lens (r - B.t.len) (by omega)
      simpa [Tab.append, hb] using this

end Go.Proofs.Ytjhkadffaephmaa
