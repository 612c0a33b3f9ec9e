/-
  Our own texts, bundled: a claim holds few files.
-/
import Derived.Test.YtjhkadffaephmabBundleAF
import Derived.Deep.RegionLaw
import Derived.Deep.AppendSrc
import Derived.Test.YtjhkadffaephmabBundleAE
import Derived.Deep.CutRange
/-
  signpostref.CheckAlgebra.
-/
namespace Go.Proofs.Ytjhkadffaephmab
open Go.RowKit

def Tab.append (s t : Tab) : Tab where
  len := s.len + t.len
  L := fun r => if r < s.len then s.L r else t.L (r - s.len)
  Z := fun r => if r < s.len then s.Z r else t.Z (r - s.len)

theorem Tab.append_wide (s t : Tab) (n : Int) : (s.append t).wide n = (s.wide n && t.wide n) := by
  rw [Bool.eq_iff_iff, Bool.and_eq_true, Tab.wide_iff, Tab.wide_iff, Tab.wide_iff]
  constructor
  · intro h
    refine ⟨fun r hr => ?_, fun r hr => ?_⟩
    · have := h r (show r < s.len + t.len by omega)
      simpa [Tab.append, hr] using this
    · have := h (s.len + r) (show s.len + r < s.len + t.len by omega)
      simpa [Tab.append, show ¬ s.len + r < s.len by omega] using this
  · rintro ⟨h1, h2⟩ r hr
    have hr' : r < s.len + t.len := hr
    by_cases hlt : r < s.len
    · simpa [Tab.append, hlt] using h1 r hlt
    · simpa [Tab.append, hlt] using h2 (r - s.len) (by omega)

theorem Tab.append_routes (s t : Tab) (n : Int) : (s.append t).routes n = (s.routes n && t.routes n) := by
  rw [Bool.eq_iff_iff, Bool.and_eq_true, Tab.routes_iff, Tab.routes_iff, Tab.routes_iff]
  constructor
  · intro h
    refine ⟨fun r hr c hc => ?_, fun r hr c hc => ?_⟩
    · have := h r (show r < s.len + t.len by omega) c (by simpa [Tab.append, hr] using hc)
      simpa [Tab.append, hr] using this
    · have := h (s.len + r) (show s.len + r < s.len + t.len by omega) c (by simpa [Tab.append, show ¬ s.len + r < s.len by omega] using hc)
      simpa [Tab.append, show ¬ s.len + r < s.len by omega] using this
  · rintro ⟨h1, h2⟩ r hr c hc
    have hr' : r < s.len + t.len := hr
    by_cases hlt : r < s.len
    · simpa [Tab.append, hlt] using h1 r hlt c (by simpa [Tab.append, hlt] using hc)
    · simpa [Tab.append, hlt] using h2 (r - s.len) (by omega) c (by simpa [Tab.append, hlt] using hc)

/-- The rows of a table as the cells of a slice of slices. -/
def Mat.rows (m : Mat) : List Value := (List.range m.t.len).map fun r => .slice (m.A r) (m.t.L r) (m.C r)

theorem Mat.rows_length (m : Mat) : m.rows.length = m.t.len := by simp [Mat.rows]
theorem Mat.rows_get (m : Mat) (j : Nat) : m.rows[j]? = if j < m.t.len then some (.slice (m.A j) (m.t.L j) (m.C j)) else none := by
  by_cases h : j < m.t.len <;> simp [Mat.rows, h]

theorem Try.info22 : (Try.prog.info? 22).map (fun i => (i.zero, i.size, i.bytes)) = some (some (.slice none 0 0), 1, 24) := by kernel_rfl

/-- append, as one step of a region that draws, by what its run comes to. -/
theorem step_append_run {P : Program} {ops : Array Oper} {o : Oper} {a : Act} {w : World} {K : Act → World → Prop} {Q : Exit → Act → World → Prop} {E : Prop}
    (hg : o.guard = none) (s x : Operand) (t : TypeId) (hop : o.op = Op.call { callee := Callee.builtin Builtin.append, args := #[s, x], argTypes := #[t, t] })
    (sv xv : Value) (hs : a.eval s = sv) (hx : a.eval x = xv) (v' : Value) (w' : World) (hrun : (Builtin.append_ #[t, t] o.type #[sv, xv]).run P w = .ok v' w') (hK : K (a.put o.dst v') w') :
    if Region.wanted o (yielded ops a.tmps) = true then Oper.wp P o a w K Q else E := by
  have hw : Region.wanted o (yielded ops a.tmps) = true := by simp [Region.wanted, hg]
  rw [if_pos hw]
  unfold Oper.wp
  simp [execOp, hop, resolve, invoke, builtin, hs, hx, hrun, Result.andThen]
  exact hK

/-- A table's rows appended to a row of one's own. -/
theorem append_mat (W : World) (base k g cap n : Nat) (xs : List Value) (hown : W.ownsRow base 22 1 (.slice (some ⟨g, 0, none⟩) n cap) n xs) (m : Mat) (hm : m.In k W) (hb : base ≤ W.heap.size) (hsz : n + m.t.len ≤ 1000) (ty : TypeId) :
    ∃ g' cap' W', (Builtin.append_ #[36, 36] ty #[.slice (some ⟨g, 0, none⟩) n cap, m.val]).run Try.prog W = .ok (.slice (some ⟨g', 0, none⟩) (n + m.t.len) cap') W' ∧
      W'.ownsRow base 22 1 (.slice (some ⟨g', 0, none⟩) (n + m.t.len) cap') (n + m.t.len) (xs ++ m.rows) ∧ W.grownBy W' (some g) := by
  obtain ⟨i0, hi, hz0, hz1, hz2⟩ := info_parts Try.info22
  cases hga : m.ga with
  | some a =>
    obtain ⟨v', W', hrun, ho, hgr, hnil⟩ := run_append_own (P := Try.prog) W base 36 ty 22 i0 (.slice none 0 0) 1 24 Try.underlying36 hi hz0 hz1 hz2 rfl (by decide) (.slice (some ⟨g, 0, none⟩) n cap) n xs hown a m.t.len m.cap m.rows (by rw [m.rows_length, Nat.mul_one])
      (fun j u hju => by
        rw [m.rows_get] at hju
        split at hju
        · next hj =>
          have e := hm.ga (by omega)
          rw [hga] at e
          cases e
          cases hju
          have := hm.row j hj
          by_cases h0 : j = 0
          · subst h0; simpa [Addr.add] using this
          · simpa [Addr.add, h0] using this
        · cases hju)
      (fun u hu => by
        obtain ⟨r, _, rfl⟩ := List.mem_map.1 hu
        rfl)
      (by unfold maxLen; omega) (by omega) hb
    have hv' : ∃ g' cap', v' = .slice (some ⟨g', 0, none⟩) (n + m.t.len) cap' := by
      rcases ho.2 with ⟨h0, _⟩ | ⟨g', cap', cur, h1, _⟩
      · have := (hnil.1 h0).1
        cases this
      · exact ⟨g', cap', h1⟩
    obtain ⟨g', cap', rfl⟩ := hv'
    exact ⟨g', cap', W', by rw [Mat.val, hga]; exact hrun, ho, hgr⟩
  | none =>
    have h0 : m.t.len = 0 := by
      rcases Nat.eq_zero_or_pos m.t.len with h | h
      · exact h
      · have := hm.ga h; rw [hga] at this; cases this
    have hrows : m.rows = [] := by simp [Mat.rows, h0]
    have hcap : n + 0 ≤ cap := by
      rcases hown.2 with ⟨h1, _⟩ | ⟨g', cap', cur, h1, _, _, h2, _⟩
      · cases h1
      · cases h1; exact h2
    have hrun := run_append_room_src (P := Try.prog) W 36 36 ty 22 i0 Try.underlying36 hi g 0 n cap (.slice none 0 m.cap) 0 [] (Src.ofNil W Try.underlying36 m.cap) hcap (fun j hj => absurd hj (Nat.not_lt_zero _)) (fun j hj => absurd hj (Nat.not_lt_zero _))
    refine ⟨g, cap, W, ?_, ?_, ⟨rfl, rfl, rfl, Nat.le_refl _, fun _ _ _ => rfl⟩⟩
    · rw [Mat.val, hga, h0]
      exact hrun
    · rw [h0, hrows, List.append_nil]
      exact hown

/-- The rows of two tables in one row of one's own are a table. -/
theorem all_mat {W : World} {base k g cap : Nat} {B E : Mat} (hown : W.ownsRow base 22 1 (.slice (some ⟨g, 0, none⟩) (B.t.len + E.t.len) cap) (B.t.len + E.t.len) (B.rows ++ E.rows)) (hB : B.In k W) (hE : E.In k W) (hk : k ≤ W.heap.size) (hsz : B.t.len + E.t.len ≤ 1000) :
    ∃ m : Mat, m.val = .slice (some ⟨g, 0, none⟩) (B.t.len + E.t.len) cap ∧ m.In W.heap.size W ∧ m.t = B.t.append E.t := by
  have hlt := (hown.lt g rfl).2
  have hc := hown.cells (g := g) rfl
  refine ⟨⟨some ⟨g, 0, none⟩, g, 0, cap, fun r => if r < B.t.len then B.A r else E.A (r - B.t.len), fun r => if r < B.t.len then B.C r else E.C (r - B.t.len), fun r => if r < B.t.len then B.RB r else E.RB (r - B.t.len), fun r => if r < B.t.len then B.RO r else E.RO (r - B.t.len), B.t.append E.t⟩, rfl, ⟨fun _ => rfl, fun _ => hlt, ?_, ?_, ?_, ?_, ?_⟩, rfl⟩
  · intro r hr
    have hr' : r < B.t.len + E.t.len := hr
    by_cases hb : r < B.t.len
    · have := hc r (.slice (B.A r) (B.t.L r) (B.C r)) (by rw [List.getElem?_append_left (by rw [B.rows_length]; exact hb), B.rows_get, if_pos hb])
      by_cases h0 : r = 0
      · subst h0; simpa [Addr.add, Tab.append, hb] using this
      · simpa [Addr.add, h0, Tab.append, hb] using this
    · have := hc r (.slice (E.A (r - B.t.len)) (E.t.L (r - B.t.len)) (E.C (r - B.t.len))) (by rw [List.getElem?_append_right (by rw [B.rows_length]; omega), B.rows_length, E.rows_get, if_pos (by omega)])
      by_cases h0 : r = 0
      · subst h0; simpa [Addr.add, Tab.append, hb] using this
      · simpa [Addr.add, h0, Tab.append, hb] using this
  · intro r hr h0
    have hr' : r < B.t.len + E.t.len := hr
    by_cases hb : r < B.t.len
    · have := hB.addr r hb (by simpa [Tab.append, hb] using h0)
      simp only [hb, if_true]
      exact ⟨this.1, Nat.lt_of_lt_of_le this.2 hk⟩
    · have := hE.addr (r - B.t.len) (by omega) (by simpa [Tab.append, hb] using h0)
      simp only [hb, if_false]
      exact ⟨this.1, Nat.lt_of_lt_of_le this.2 hk⟩
  · intro r hr c hcc
    have hr' : r < B.t.len + E.t.len := hr
    by_cases hb : r < B.t.len
    · have := hB.cell r hb c (by simpa [Tab.append, hb] using hcc)
      simpa [Tab.append, hb] using this
    · have := hE.cell (r - B.t.len) (by omega) c (by simpa [Tab.append, hb] using hcc)
      simpa [Tab.append, hb] using this
  · show B.t.len + E.t.len ≤ maxLen
    unfold maxLen; omega
  · intro r hr
    have hr' : r < B.t.len + E.t.len := hr
    by_cases hb : r < B.t.len
    · have := hB.lens r hb
      simpa [Tab.append, hb] using this
    · have := hE.lens (r - B.t.len) (by omega)
      simpa [Tab.append, hb] using this

end Go.Proofs.Ytjhkadffaephmab

/-
  Plain mathematics: all cases of a law by one number: its digits are the routes.
-/
namespace Go.Proofs.Ytjhkadffaephmab
open Go.RowKit

/-- The number that stands in place i, when the last (many less t) places are filled. -/
def digit (many s n t i : Nat) : Nat := if t ≤ i ∧ i < many then n / s ^ (many - 1 - i) % s else 0

def caseAt (l : Int) (many s n e : Nat) : Brk := ⟨l, digit many s n 0 0, digit many s n 0 1, digit many s n 0 2, e⟩

def enumTo (l : Int) (many s ed n e : Nat) : List Brk := ((List.range n).flatMap fun k => (List.range ed).map fun j => caseAt l many s k j) ++ (List.range e).map fun j => caseAt l many s n j

theorem enumTo_snoc (l : Int) (many s ed n e : Nat) : enumTo l many s ed n (e + 1) = enumTo l many s ed n e ++ [caseAt l many s n e] := by
  simp [enumTo, List.range_succ]
theorem enumTo_row (l : Int) (many s ed n : Nat) : enumTo l many s ed n ed = enumTo l many s ed (n + 1) 0 := by
  simp [enumTo, List.range_succ, List.flatMap_append]
theorem enumTo_0 (l : Int) (many s ed : Nat) : enumTo l many s ed 0 0 = [] := by simp [enumTo]

theorem enumTo_pre {l : Int} {many s ed n e N : Nat} (hn : n < N) (he : e ≤ ed) : enumTo l many s ed n e <+: enumTo l many s ed N 0 := by
  have h1 : enumTo l many s ed n e <+: enumTo l many s ed (n + 1) 0 := by
    rw [← enumTo_row]
    unfold enumTo
    refine (List.prefix_append_right_inj _).2 ?_
    have : List.range ed = List.range e ++ (List.range (ed - e)).map (e + ·) := by
      have := @List.range_add e (ed - e)
      rwa [show e + (ed - e) = ed by omega] at this
    rw [this, List.map_append]
    exact List.prefix_append _ _
  refine h1.trans ?_
  have h2 : ∀ k, enumTo l many s ed k 0 <+: enumTo l many s ed (k + 1) 0 := fun k => by
    rw [← enumTo_row]
    unfold enumTo
    simp
  exact pre_mono h2 hn

theorem range_mul {β : Type} (m k : Nat) (f : Nat → List β) : (List.range (m * k)).flatMap f = (List.range m).flatMap fun i => (List.range k).flatMap fun j => f (i * k + j) := by
  induction m with
  | zero => simp
  | succ m ih =>
    rw [Nat.succ_mul, List.range_add, List.flatMap_append, ih, List.range_succ, List.flatMap_append]
    simp [List.flatMap_map]

theorem flatMap_congr' {α β : Type} {l : List α} {f g : α → List β} (h : ∀ x ∈ l, f x = g x) : l.flatMap f = l.flatMap g := by
  rw [List.flatMap_def, List.flatMap_def, List.map_congr_left h]

theorem enum0 (l : Int) (s ed : Nat) : enumTo l 0 s ed 1 0 = casesA l 1 1 ed 1 := by
  simp [enumTo, casesA, casesB, casesC, casesE, caseAt, digit, List.range_succ]

theorem enum1 (l : Int) (s ed : Nat) : enumTo l 1 s ed s 0 = casesA l 1 1 ed s := by
  simp only [enumTo, casesA, casesB, casesC, casesE, List.range_zero, List.map_nil, List.append_nil]
  refine flatMap_congr' fun x hx => ?_
  have hx' : x < s := List.mem_range.1 hx
  simp [caseAt, digit, List.range_succ, Nat.mod_eq_of_lt hx']

theorem enum2 (l : Int) (s ed : Nat) : enumTo l 2 s ed (s * s) 0 = casesA l s 1 ed s := by
  simp only [enumTo, casesA, casesB, casesC, casesE, List.range_zero, List.map_nil, List.append_nil]
  rw [range_mul]
  refine flatMap_congr' fun x hx => flatMap_congr' fun y hy => ?_
  have hx' : x < s := List.mem_range.1 hx
  have hy' : y < s := List.mem_range.1 hy
  have h1 : (x * s + y) % s = y := by rw [Nat.mul_add_mod_self_right]; exact Nat.mod_eq_of_lt hy'
  have h2 : (x * s + y) / s = x := by rw [Nat.mul_comm, Nat.mul_add_div (by omega), Nat.div_eq_of_lt hy', Nat.add_zero]
  simp [caseAt, digit, List.range_succ, h1, h2, Nat.mod_eq_of_lt hx']

theorem enum3 (l : Int) (s ed : Nat) : enumTo l 3 s ed (s * s * s) 0 = casesA l s s ed s := by
  simp only [enumTo, casesA, casesB, casesC, casesE, List.range_zero, List.map_nil, List.append_nil]
  rw [range_mul, range_mul]
  refine flatMap_congr' fun x hx => flatMap_congr' fun y hy => flatMap_congr' fun z hz => ?_
  have hx' : x < s := List.mem_range.1 hx
  have hy' : y < s := List.mem_range.1 hy
  have hz' : z < s := List.mem_range.1 hz
  have h1 : ((x * s + y) * s + z) % s = z := by rw [Nat.mul_add_mod_self_right]; exact Nat.mod_eq_of_lt hz'
  have h2 : ((x * s + y) * s + z) / s = x * s + y := by rw [Nat.mul_comm, Nat.mul_add_div (by omega), Nat.div_eq_of_lt hz', Nat.add_zero]
  have h3 : (x * s + y) % s = y := by rw [Nat.mul_add_mod_self_right]; exact Nat.mod_eq_of_lt hy'
  have h4 : (x * s + y) / s = x := by rw [Nat.mul_comm, Nat.mul_add_div (by omega), Nat.div_eq_of_lt hy', Nat.add_zero]
  have h5 : ((x * s + y) * s + z) / s ^ 2 = x := by rw [Nat.pow_two, ← Nat.div_div_eq_div_mul, h2, h4]
  simp [caseAt, digit, h1, h2, h3, h5, Nat.mod_eq_of_lt hx']

/-- By one number, all cases of a law come, in their order. -/
theorem enum_eq {a : Alg} {l : Int} {s many ed : Nat} (hs : a.size = s) (hm : routesOf l = many) (he : (if edgeOf l then a.E.len else 1) = ed) : enumTo l many s ed (s ^ many) 0 = a.casesOf l := by
  have hE : (spanE a l).toNat = ed := by
    unfold spanE; rw [← he]; cases edgeOf l <;> simp
  unfold Alg.casesOf spanA spanB spanC
  rw [hE, hs, hm]
  have hc : many = 0 ∨ many = 1 ∨ many = 2 ∨ many = 3 := by have := routes_cases l; omega
  rcases hc with rfl | rfl | rfl | rfl
  · exact enum0 l s ed
  · simpa using enum1 l s ed
  · rw [show s ^ 2 = s * s from Nat.pow_two s]
    simpa using enum2 l s ed
  · rw [show s ^ 3 = s * s * s by rw [Nat.pow_succ, Nat.pow_two]]
    simpa using enum3 l s ed

end Go.Proofs.Ytjhkadffaephmab

/-
  signpostref.CheckAlgebra: the walk.
-/
namespace Go.Proofs.Ytjhkadffaephmab
set_option maxRecDepth 100000
open Go.RowKit

theorem Alg.check_small {a : Alg} (h1 : 2 ≤ a.size) (h2 : a.size ≤ 24) (h3 : a.E.len ≤ 8) (h4 : (a.B.len : Int) = a.size) :
    a.check = if (a.B.append a.E).wide a.size = false then 1 else if (a.B.append a.E).routes a.size = false then 5 else 0 := by
  rw [Tab.append_wide, Tab.append_routes]
  unfold Alg.check Alg.formOk Alg.routesOk
  rw [if_neg (by omega), if_neg (by omega)]
  simp [h4]

set_option maxHeartbeats 4000000 in
theorem refCheck_small (a : AlgM) (w : World) (h : a.In w.heap.size w) (h1 : 2 ≤ a.size) (h2 : a.size ≤ 24) (h3 : a.E.t.len ≤ 8) (h4 : (a.B.t.len : Int) = a.size) :
    Calls Try.prog 97 #[a.val] w fun e w' => e = .returned (.int .i64 a.alg.check) ∧ Below w.heap.size w w' := by
  have Hck := hide (Alg.check_small (a := a.alg) h1 h2 h3 h4)
  have H4 := hide h4
  have h3' : (a.E.t.len : Int) ≤ 8 := by omega
  have h4' : ((a.B.t.len : Int) != a.size) = false := by simp [h4]
  have hbl : a.B.t.len ≤ 24 := by omega
  have hEl := h.E.len
  have hBl := h.B.len
  unfold maxLen at hEl hBl
  have hb0 : ∀ o, Below w.heap.size w (w.alloc o) := fun o => (Below.refl _ _).alloc (Nat.le_refl _) _
  clear h4
  obtain ⟨size, B, E⟩ := a
  simp only [AlgM.val, AlgM.alg] at *
  have hBv : B.val = .slice B.ga B.t.len B.cap := rfl
  have hEv : E.val = .slice E.ga E.t.len E.cap := rfl
  rw [hBv, hEv]
  have HBv := hide hBv
  have HEv := hide hEv
  clear hBv hEv
  go_enter Try.func97, Try.ntmps97
  go_wp2_with (go_at_call 99; refine (between_any _ _ _ _).mono ?_; rintro e w' ⟨rfl, rfl⟩)
  have hI1 := h.below (((hb0 (.cells #[.int .i64 size, .slice B.ga B.t.len B.cap, .slice E.ga E.t.len E.cap] 38)).alloc (by simp) (.cells #[] 22)).trans (Below.mono (below_dr _) (by simp; omega))) (Nat.le_refl _)
  have bA0 : Blk ((w.alloc (.cells #[.int .i64 size, .slice B.ga B.t.len B.cap, .slice E.ga E.t.len E.cap] 38)).alloc (.cells #[] 22)).drew w.heap.size #[.int .i64 size, .slice B.ga B.t.len B.cap, .slice E.ga E.t.len E.cap] 38 := (Blk.new w _ _).alloc _
  have hB0 := (((hb0 (.cells #[.int .i64 size, .slice B.ga B.t.len B.cap, .slice E.ga E.t.len E.cap] 38)).alloc (by simp) (.cells #[] 22)).trans (Below.mono (below_dr _) (by simp; omega)))
  have hsz0 : ((w.alloc (.cells #[.int .i64 size, .slice B.ga B.t.len B.cap, .slice E.ga E.t.len E.cap] 38)).alloc (.cells #[] 22)).drew.heap.size = w.heap.size + 2 := by
    show ((w.alloc (.cells #[.int .i64 size, .slice B.ga B.t.len B.cap, .slice E.ga E.t.len E.cap] 38)).alloc (.cells #[] 22)).heap.size = _
    simp
  have hown0 : World.ownsRow ((w.alloc (.cells #[.int .i64 size, .slice B.ga B.t.len B.cap, .slice E.ga E.t.len E.cap] 38)).alloc (.cells #[] 22)).drew (w.heap.size + 1) 22 1 (.slice (some ⟨w.heap.size + 1, 0, none⟩) 0 0) 0 [] := by
    have := World.ownsRow_made (w.alloc (.cells #[.int .i64 size, .slice B.ga B.t.len B.cap, .slice E.ga E.t.len E.cap] 38)) #[] 0 (base := w.heap.size + 1) (e := 22) (size := 1) (by simp) (Nat.zero_le _) (by simp)
    simp only [World.size_alloc] at this
    exact this
  obtain ⟨g1, c1, W1, hrun1, hown1, hgr1⟩ := append_mat _ (w.heap.size + 1) w.heap.size (w.heap.size + 1) 0 0 [] hown0 B hI1.B (by rw [hsz0]; omega) (by omega) 36
  have hW1 : Below (w.heap.size + 1) _ W1 := (Below.refl _ _).grown hgr1 (by rw [hsz0]; omega) (fun k e => by cases e; exact Nat.le_refl _)
  have bA1 := bA0.below hW1 (by omega)
  have hI2 := hI1.below hW1 (by omega)
  have hsz1 := hW1.size
  rw [hsz0] at hsz1
  simp only [Nat.zero_add, List.nil_append] at hrun1 hown1
  obtain ⟨g2, c2, W2, hrun2, hown2, hgr2⟩ := append_mat _ (w.heap.size + 1) w.heap.size g1 c1 B.t.len B.rows hown1 E hI2.E (by omega) (by omega) 36
  have hg1 := (hown1.lt g1 rfl).1
  have hW2 : Below (w.heap.size + 1) W1 W2 := (Below.refl _ _).grown hgr2 (by omega) (fun k e => by cases e; exact hg1)
  have bA2 := bA1.below hW2 (by omega)
  have hI3 := hI2.below hW2 (by omega)
  have hsz2 := hW2.size
  have hBW2 := hB0.trans ((hW1.trans hW2).mono (by omega))
  obtain ⟨m, hmv, hmI, hmt⟩ := all_mat hown2 hI3.B hI3.E (by omega) (by omega)
  have Hm := hide (show ∃ m : Mat, Value.slice (some ⟨g2, 0, none⟩) (B.t.len + E.t.len) c2 = .slice m.ga m.t.len m.cap ∧ Hid (m.In W2.heap.size W2) ∧ Hid (m.t = B.t.append E.t) ∧ Hid (Blk W2 w.heap.size #[.int .i64 size, .slice B.ga B.t.len B.cap, .slice E.ga E.t.len E.cap] 38) ∧ Hid (Below w.heap.size w W2) from ⟨m, hmv.symm, hmI, hmt, bA2, hBW2⟩)
  rw [HBv.out] at hrun1
  rw [HEv.out] at hrun2
  have d0 := bA1.cell 0
  have d1 := bA1.cell 1
  have d2 := bA1.cell 2
  simp at d0 d1 d2
  have R1 := hide hrun1
  have R2 := hide hrun2
  clear hmv hmI hmt m hBW2 hsz2 hI3 bA2 hW2 hg1 hgr2 hown2 hrun2 hrun1 hsz1 hI2 bA1 hW1 hgr1 hown1 hown0 hsz0 hB0 bA0 hI1
  go_cut [3] from 21 to 27 (fun s3 wx => ∃ m : Mat, s3 = .slice m.ga m.t.len m.cap ∧ Hid (m.In wx.heap.size wx) ∧ Hid (m.t = B.t.append E.t) ∧ Hid (Blk wx w.heap.size #[.int .i64 size, .slice B.ga B.t.len B.cap, .slice E.ga E.t.len E.cap] 38) ∧ Hid (Below w.heap.size w wx))
  case first =>
    go_region_law (first
      | (refine step_append_run rfl (.tmp 21) (.tmp 23) 36 rfl _ _ (by simp [Act.eval]) (by simp [Act.eval]) _ _ R1.out ?_)
      | (refine step_append_run rfl (.tmp 24) (.tmp 26) 36 rfl _ _ (by simp [Act.eval]) (by simp [Act.eval]) _ _ R2.out ?_))
    all_goals
      go_wp2_with fail
      go_meet
      exact Hm.out
  case rest =>
    obtain ⟨m, rfl, HI, HT, HA, HB⟩ := hcut
    clear Hm R1 R2 d0 d1 d2 HBv HEv hb0
    have hml := HI.out.len
    unfold maxLen at hml
    have hmn : Hid (m.t.len ≤ 32) := hide (by rw [HT.out]; show B.t.len + E.t.len ≤ 32; omega)
    have hck : Hid (Alg.check ⟨size, B.t, E.t⟩ = if m.t.wide size = false then 1 else if m.t.routes size = false then 5 else 0) := hide (by rw [HT.out]; exact Hck.out)
    clear Hck
    go_wp2
    go_loopw [4] (fun i wr => ∃ k : Nat, k ≤ m.t.len ∧ i = .int .i64 k ∧ Hid (∀ r, r < k → (m.t.L r : Int) = size) ∧ Hid (Below wc.heap.size wc wr)) (fun i _ => m.t.len - (intOf i).toNat)
    case atStart => exact ⟨0, Nat.zero_le _, rfl, hide (fun r hr => absurd hr (Nat.not_lt_zero _)), hide (Below.refl _ _)⟩
    case round =>
      obtain ⟨k, hk, rfl, Hall, HBr⟩ := hrel
      have bA3 := HA.out.below HBr.out HA.out.lt
      have c0 := bA3.cell 0
      simp at c0
      have hBw := hide (HB.out.trans (HBr.out.mono HB.out.size))
      by_cases hlt : k < m.t.len
      · have hI3 := HI.out.below HBr.out (Nat.le_refl _)
        have hga := HI.out.ga (by omega)
        have hrow := hI3.row k hlt
        have hlens := HI.out.lens k hlt
        unfold maxLen at hlens
        have hkz : (k : Int) < (m.t.len : Int) := by omega
        clear hI3
        by_cases he : (m.t.L k : Int) = size
        · have he' : ((m.t.L k : Int) != size) = false := by simp [he]
          have He := hide he
          clear he
          go_wp2_with fail
          go_quiet (fail)
          go_wp2
          go_roundw
          case rel => exact ⟨k + 1, by omega, by go_num, hide (fun r hr => by
            by_cases e : r = k
            · subst e; exact He.out
            · exact Hall.out r (by omega)), hide (below_drewN HBr.out _)⟩
          case measure => simp [intOf]; omega
        · have he' : ((m.t.L k : Int) != size) = true := by simp [he]
          have hfin := hide (show Alg.check ⟨size, B.t, E.t⟩ = 1 by rw [hck.out]; simp [Tab.wide_false hlt he])
          clear he
          go_wp2_with fail
          go_quiet (fail)
          go_wp2
          go_ret
          exact ⟨by rw [hfin.out]; rfl, below_drewN hBw.out _⟩
      · have hwide : m.t.wide size = true := (m.t.wide_iff size).2 (fun r hr => Hall.out r (by omega))
        have hck2 : Hid (Alg.check ⟨size, B.t, E.t⟩ = if m.t.routes size = false then 5 else 0) := hide (by rw [hck.out, hwide]; rfl)
        have HW := hide hwide
        clear hwide
        go_wp2
        go_loopw [5, 6] (fun i _ wr => ∃ k : Nat, k ≤ m.t.len ∧ i = .int .i64 k ∧ Hid (∀ r, r < k → ∀ c, c < m.t.L r → 0 ≤ m.t.Z r c ∧ m.t.Z r c < size) ∧ Hid (Below wc.heap.size wc wr)) (fun i _ _ => m.t.len - (intOf i).toNat)
        case atStart => exact ⟨0, Nat.zero_le _, rfl, hide (fun r hr => absurd hr (Nat.not_lt_zero _)), HBr⟩
        case round =>
          clear Hall bA3 c0 hBw HBr
          obtain ⟨i, hi, rfl, Hall, HBr⟩ := hrel
          by_cases hlt2 : i < m.t.len
          · have hga := HI.out.ga (by omega)
            have hlens := HI.out.lens i hlt2
            unfold maxLen at hlens
            have hLi : Hid ((m.t.L i : Int) = size) := hide ((m.t.wide_iff size).1 HW.out i hlt2)
            have hkz : (i : Int) < (m.t.len : Int) := by omega
            go_wp2
            go_loopw [6] (fun j wr => ∃ c : Nat, (c : Int) ≤ size ∧ j = .int .i64 c ∧ Hid (∀ c', c' < c → 0 ≤ m.t.Z i c' ∧ m.t.Z i c' < size) ∧ Hid (Below wc.heap.size wc wr)) (fun j _ => size.toNat - (intOf j).toNat)
            case atStart => exact ⟨0, by omega, rfl, hide (fun r hr => absurd hr (Nat.not_lt_zero _)), HBr⟩
            case round =>
              clear HBr
              obtain ⟨c, hc, rfl, Hrow, HBr⟩ := hrel
              have bA3 := HA.out.below HBr.out HA.out.lt
              have c0 := bA3.cell 0
              simp at c0
              have hBw := hide (HB.out.trans (HBr.out.mono HB.out.size))
              by_cases hcs : (c : Int) < size
              · have hI3 := HI.out.below HBr.out (Nat.le_refl _)
                have hcl : c < m.t.L i := by have := hLi.out; omega
                have hrow := hI3.row i hlt2
                have hA := (HI.out.addr i hlt2 (by omega)).1
                rw [hA] at hrow
                have hcell := hI3.cell i hlt2 c hcl
                have hcz : (c : Int) < (m.t.L i : Int) := by omega
                clear hI3 hA
                by_cases hok : 0 ≤ m.t.Z i c ∧ m.t.Z i c ≤ size - 1
                · have hb : (decide (0 ≤ m.t.Z i c) && decide (m.t.Z i c ≤ size - 1)) = true := by simp [hok]
                  have CB := hide (fun W => show Calls Try.prog 99 #[.int .i64 (m.t.Z i c), .int .i64 0, .int .i64 (size - 1)] W fun e w' => e = .returned (.bool true) ∧ w' = W from by rw [← hb]; exact between_any _ _ _ W)
                  have Hok := hide hok
                  clear hok hb
                  go_wp2_with fail
                  go_quiet ((go_at_call 99; exact Calls.quiet_of_same (CB.out _)))
                  go_wp2
                  go_roundw
                  case rel => exact ⟨c + 1, by omega, by go_num, hide (fun c' hc' => by
                    by_cases e : c' = c
                    · subst e; have := Hok.out; omega
                    · exact Hrow.out c' (by omega)), hide (below_drewN HBr.out _)⟩
                  case measure => simp [intOf]; omega
                · have hb : (decide (0 ≤ m.t.Z i c) && decide (m.t.Z i c ≤ size - 1)) = false := by rw [Bool.eq_false_iff]; simpa using hok
                  have CB := hide (fun W => show Calls Try.prog 99 #[.int .i64 (m.t.Z i c), .int .i64 0, .int .i64 (size - 1)] W fun e w' => e = .returned (.bool false) ∧ w' = W from by rw [← hb]; exact between_any _ _ _ W)
                  have hfin := hide (show Alg.check ⟨size, B.t, E.t⟩ = 5 by rw [hck2.out]; simp [Tab.routes_false (s := size) hlt2 hcl (by omega)])
                  clear hok hb
                  go_wp2_with fail
                  go_quiet ((go_at_call 99; exact Calls.quiet_of_same (CB.out _)))
                  go_wp2
                  go_ret
                  exact ⟨by rw [hfin.out]; rfl, below_drewN hBw.out _⟩
              · have hfin : ∀ r, r < i + 1 → ∀ c, c < m.t.L r → 0 ≤ m.t.Z r c ∧ m.t.Z r c < size := fun r hr => by
                  by_cases e : r = i
                  · subst e; intro c' hc'; exact Hrow.out c' (by have := hLi.out; omega)
                  · exact Hall.out r (by omega)
                have Hfin := hide hfin
                clear hfin
                go_wp2
                go_roundw
                case rel => exact ⟨i + 1, by omega, by go_num, Hfin, HBr⟩
                case measure => simp [intOf]; omega
          · have hfin := hide (show Alg.check ⟨size, B.t, E.t⟩ = 0 by rw [hck2.out]; simp [(m.t.routes_iff size).2 (fun r hr => Hall.out r (by omega))])
            have hBw := hide (HB.out.trans (HBr.out.mono HB.out.size))
            go_wp2
            go_ret
            exact ⟨by rw [hfin.out]; rfl, hBw.out⟩

set_option maxHeartbeats 1000000 in
theorem refCheck_any (a : AlgM) (w : World) (h : a.In w.heap.size w) :
    Calls Try.prog 97 #[a.val] w fun e w' => e = .returned (.int .i64 a.alg.check) ∧ Below w.heap.size w w' := by
  have hb0 : ∀ o, Below w.heap.size w (w.alloc o) := fun o => (Below.refl _ _).alloc (Nat.le_refl _) _
  by_cases h1 : 2 ≤ a.size ∧ a.size ≤ 24
  · by_cases h3 : a.E.t.len ≤ 8
    · by_cases h4 : (a.B.t.len : Int) = a.size
      · exact refCheck_small a w h h1.1 h1.2 h3 h4
      · obtain ⟨g1, g2⟩ := h1
        have hBl := h.B.len
        unfold maxLen at hBl
        have hfin := hide (show a.alg.check = 1 by simp [Alg.check, Alg.formOk, AlgM.alg, h4]; omega)
        have h3' : (a.E.t.len : Int) ≤ 8 := by omega
        have h4' : ((a.B.t.len : Int) != a.size) = true := by simp [h4]
        have H4 := hide h4
        clear h4
        simp only [AlgM.val, Mat.val]
        go_enter Try.func97, Try.ntmps97
        go_wp2_with (go_at_call 99; refine (between_any _ _ _ _).mono ?_; rintro e w' ⟨rfl, rfl⟩)
        go_ret
        exact ⟨by rw [hfin.out]; rfl, hb0 _⟩
    · obtain ⟨g1, g2⟩ := h1
      have hEl := h.E.len
      unfold maxLen at hEl
      have hfin := hide (show a.alg.check = 2 by simp [Alg.check, AlgM.alg]; omega)
      have h3' : 8 < (a.E.t.len : Int) := by omega
      simp only [AlgM.val, Mat.val]
      go_enter Try.func97, Try.ntmps97
      go_wp2_with (go_at_call 99; refine (between_any _ _ _ _).mono ?_; rintro e w' ⟨rfl, rfl⟩)
      go_ret
      exact ⟨by rw [hfin.out]; rfl, hb0 _⟩
  · have hfin := hide (show a.alg.check = 3 by simp [Alg.check, AlgM.alg]; omega)
    have hb : (decide (2 ≤ a.size) && decide (a.size ≤ 24)) = false := by rw [Bool.eq_false_iff]; simpa using h1
    have CB := hide (fun W => show Calls Try.prog 99 #[.int .i64 a.size, .int .i64 2, .int .i64 24] W fun e w' => e = .returned (.bool false) ∧ w' = W from by rw [← hb]; exact between_any _ _ _ W)
    clear hb h1
    simp only [AlgM.val]
    go_enter Try.func97, Try.ntmps97
    go_wp2_with (go_at_call 99; refine (CB.out _).mono ?_; rintro e w' ⟨rfl, rfl⟩)
    go_ret
    exact ⟨by rw [hfin.out]; rfl, hb0 _⟩

end Go.Proofs.Ytjhkadffaephmab
