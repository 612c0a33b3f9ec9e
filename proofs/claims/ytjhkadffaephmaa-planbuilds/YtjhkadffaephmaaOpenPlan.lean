/-
  A plan as it came, out of its reading: its parts within it, however deep.
-/
import Derived.Test.YtjhkadffaephmaaOpen
import Derived.Test.YtjhkadffaephmaaPlanA
import Derived.SizedLaws
namespace Go.Proofs.Ytjhkadffaephmaa
set_option maxRecDepth 100000
open Go.RowKit Go.ChangeShapes Go.WideShapes Go.Joins Go.Deep

theorem Try.cells42 : Try.prog.cellsOf 42 = 4 := by kernel_rfl
theorem Try.bytes42 : Try.prog.bytesOf 42 = 64 := by kernel_rfl
theorem Try.cells40 : Try.prog.cellsOf 40 = 1 := by kernel_rfl

theorem weightsAll_mem {H : Type} {P : Program} {e : TypeId} : ∀ {ds : List (DataW H)} {d : DataW H}, d ∈ ds → ∀ n ∈ d.weights P e, n ∈ DataW.weightsAll P e ds
  | [], _, h, _, _ => by cases h
  | d0 :: ds, d, h, n, hn => by
    simp only [DataW.weightsAll, List.mem_append]
    rcases List.mem_cons.1 h with rfl | h
    · exact Or.inl hn
    · exact Or.inr (weightsAll_mem h n hn)

section
variable {H : Type} {enc : TypeId × Value → H} {W : World}

theorem open_plan_cells : ∀ (n : Nat) (cs : List Value) (y : DataW H × List MemPlace), DataW.trod enc Try.prog W 0 (fun _ => true) true n 42 cs = some y →
    (y.1.weights Try.prog 42).all (· ≤ reachBytes) = true → ∃ p : PlanM, cs = p.head.cells.toList ∧ p.In W.heap.size W := by
  intro n
  induction n using Nat.strongRecOn with
  | _ n ih =>
    intro cs y h hw
    obtain ⟨xs, n1, rfl, rfl, hlc, hlen, hfs⟩ := DataW.trod_struct Try.underlying42 h
    rw [Try.cells42] at hlc
    match cs, hlc, xs, hlen with
    | [c0, c1, c2, c3], _, [y0, y1, y2, y3], _ =>
      have k0 := hfs 0 _ rfl
      have k1 := hfs 1 _ rfl
      have k2 := hfs 2 _ rfl
      have k3 := hfs 3 _ rfl
      simp [Try.cells3, Try.cells32, Try.cells40] at k0 k1 k2 k3
      obtain ⟨a0, e0, _, w0⟩ := DataW.trod_int Try.underlying3 k0
      obtain ⟨a1, e1, _, w1⟩ := DataW.trod_int Try.underlying3 k1
      simp at e0 e1
      subst e0 e1
      have hE : ∃ (eg : Option Addr) (en ec eb eo : Nat) (ev : Nat → Int), c2 = .slice eg en ec ∧ (0 < en → eg = some ⟨eb, eo, none⟩) ∧ (0 < en → eb < W.heap.size) ∧ (∀ i, i < en → W.cell? ⟨eb, eo + i, none⟩ = some (.int .i64 (ev i))) ∧ en ≤ maxLen := by
        rcases open_ints Try.underlying32 Try.underlying3 Try.cells3 k2 with ⟨hcs, _⟩ | ⟨a, len, cap, zs, hcs, _, hl, hm, hz, _, hcell, _⟩
        · simp at hcs
          exact ⟨none, 0, 0, 0, 0, fun _ => 0, hcs, fun h => absurd h (Nat.not_lt_zero _), fun h => absurd h (Nat.not_lt_zero _), fun _ h => absurd h (Nat.not_lt_zero _), Nat.zero_le _⟩
        · simp at hcs
          simp only [if_true] at hz
          obtain ⟨gb, go, gs⟩ := a
          rcases Nat.eq_zero_or_pos len with hl0 | hlp
          · subst hl0
            exact ⟨_, 0, cap, 0, 0, fun _ => 0, hcs, fun h => absurd h (Nat.not_lt_zero _), fun h => absurd h (Nat.not_lt_zero _), fun _ h => absurd h (Nat.not_lt_zero _), Nat.zero_le _⟩
          · have hgs : gs = none := by simpa [Addr.add] using World.cell?_spot (hcell 0 (by omega))
            subst hgs
            have hc : ∀ i, i < len → W.cell? ⟨gb, go + i, none⟩ = some (.int .i64 (zs.getD i 0)) := fun i hi => by rw [← add_plain]; exact hcell i (by omega)
            exact ⟨_, len, cap, gb, go, fun i => zs.getD i 0, hcs, fun _ => rfl, fun _ => World.block_lt_of_cell? _ _ (hc 0 hlp), hc, by omega⟩
      obtain ⟨eg, en, ec, eb, eo, ev, rfl, q1, q2, q3, q4⟩ := hE
      have hP : ∃ (pg : Option Addr) (pn pc pb po : Nat) (sub : Nat → PlanM), c3 = .slice pg pn pc ∧ (0 < pn → pg = some ⟨pb, po, none⟩) ∧ (0 < pn → pb < W.heap.size) ∧ pn * 64 ≤ 140737488355328 ∧
          ∀ i, i < pn → (sub i).head.At pb (po + i * 4) W ∧ (sub i).In W.heap.size W := by
        rcases DataW.trod_slice Try.underlying40 k3 with ⟨hcs, _⟩ | ⟨a, len, cap, elems, rest, n2, hn, hcs, hy, _, hl, hm, hel, hat, hsp, _⟩
        · simp at hcs
          exact ⟨none, 0, 0, 0, 0, fun _ => .no, hcs, fun h => absurd h (Nat.not_lt_zero _), fun h => absurd h (Nat.not_lt_zero _), by omega, fun _ h => absurd h (Nat.not_lt_zero _)⟩
        · simp at hcs
          obtain ⟨gb, go, gs⟩ := a
          have hws : ((DataW.slice (elems.map (·.1)) (rest.map (·.1)) : DataW H).weights Try.prog 40).all (· ≤ reachBytes) = true := by
            rw [List.all_eq_true] at hw ⊢
            intro k hk
            refine hw k ?_
            simp only [DataW.weights, Try.underlying42]
            refine DataW.weights_mem_each (j := 3) (t := 40) (d := y3.1) rfl rfl k ?_
            rw [hy]
            exact hk
          have hsz : len * 64 ≤ reachBytes := by
            rw [List.all_eq_true] at hws
            have := hws ((elems.length + rest.length) * Try.prog.bytesOf 42) (by simp [DataW.weights, Try.underlying40])
            rw [Try.bytes42] at this
            have := of_decide_eq_true this
            omega
          have hsz' : len * 64 ≤ 140737488355328 := by
            have : reachBytes = 140737488351232 := rfl
            omega
          rcases Nat.eq_zero_or_pos len with hl0 | hlp
          · subst hl0
            exact ⟨_, 0, cap, 0, 0, fun _ => .no, hcs, fun h => absurd h (Nat.not_lt_zero _), fun h => absurd h (Nat.not_lt_zero _), by omega, fun _ h => absurd h (Nat.not_lt_zero _)⟩
          · have each : ∀ i, i < len → ∃ cs', W.cells? 0 ((⟨gb, go, gs⟩ : Addr).add (i * 4)) 4 = some cs' ∧ ∃ p : PlanM, cs' = p.head.cells.toList ∧ p.In W.heap.size W := fun i hi => by
              have := hat i hi
              rw [Try.cells42, List.getElem?_eq_getElem (by omega)] at this
              obtain ⟨cs', h1, h2⟩ := Option.bind_eq_some_iff.1 this
              refine ⟨cs', h1, ih n2 (by omega) cs' _ h2 ?_⟩
              rw [List.all_eq_true] at hws ⊢
              intro k hk
              refine hws k ?_
              simp only [DataW.weights, Try.underlying40]
              refine List.mem_cons_of_mem _ (List.mem_append_left _ (weightsAll_mem ?_ k hk))
              exact List.mem_map.2 ⟨elems[i], List.getElem_mem _, rfl⟩
            have hgs : gs = none := by
              obtain ⟨cs', h1, p, h2, _⟩ := each 0 hlp
              have := (World.cells?_some h1).2.2 0 (by omega)
              rw [h2] at this
              simpa [Addr.add] using World.cell?_spot this
            subst hgs
            haveI : Inhabited PlanM := ⟨.no⟩
            obtain ⟨sub, hsub⟩ := choose_lt (α := PlanM) (n := len) (p := fun i p => p.head.At gb (go + i * 4) W ∧ p.In W.heap.size W) (fun i hi => by
              obtain ⟨cs', h1, p, h2, h3⟩ := each i hi
              obtain ⟨_, _, hc⟩ := World.cells?_some h1
              rw [add_plain] at hc
              have g : ∀ j, j < 4 → W.cell? ⟨gb, go + i * 4 + j, none⟩ = p.head.cells.toList[j]? := fun j hj => by rw [← add_plain, ← h2]; exact hc j hj
              exact ⟨p, ⟨g 0 (by omega), g 1 (by omega), g 2 (by omega), g 3 (by omega)⟩, h3⟩)
            exact ⟨_, len, cap, gb, go, sub, hcs, fun _ => rfl, fun _ => World.block_lt_of_cell? _ _ (hsub 0 hlp).1.c0, hsz', hsub⟩
      obtain ⟨pg, pn, pc, pb, po, sub, rfl, r1, r2, r3, r4⟩ := hP
      exact ⟨.mk ⟨a0, a1, eg, en, ec, eb, eo, ev, pg, pn, pc, pb, po⟩ sub, rfl, ⟨w0, w1, q1, q2, q3, q4, r1, r2, r3⟩, r4⟩

theorem open_plan {b0 : Nat} {v : Value} {d : DataW H} {p : List MemPlace} (hv : Value.okWide Try.prog W .any b0 42 v) (h : DataW.Trod enc Try.prog W 0 (fun _ => true) true 42 v d p)
    (hw : (d.weights Try.prog 42).all (· ≤ reachBytes) = true) : ∃ q : PlanM, v = q.head.val ∧ q.In W.heap.size W := by
  obtain ⟨cs, rfl, hsz⟩ := okWide_struct Try.underlying42 hv
  obtain ⟨fuel, hf⟩ := h
  obtain ⟨q, h1, h2⟩ := open_plan_cells fuel _ (d, p) hf hw
  refine ⟨q, ?_, h2⟩
  have e : cs.toList = q.head.cells.toList := h1
  have := Array.toList_inj.1 e
  rw [this]
  rfl
end

end Go.Proofs.Ytjhkadffaephmaa
