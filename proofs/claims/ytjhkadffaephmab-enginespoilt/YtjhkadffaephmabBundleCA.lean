/-
  Our own texts, bundled: a claim holds few files.
-/
import Derived.Test.YtjhkadffaephmabBundleAH
/-
  Maps that count: what storing anew does; how many keys there are.
-/
namespace Go.Proofs.Ytjhkadffaephmab
set_option maxRecDepth 100000
open Go.RowKit

section
variable {t k : TypeId} {ks : List Value} {cnt : Value → Int} {b : Nat} {w : World} {es : Array MapEntry} {clock : Nat}

theorem CntAt.update (h : CntAt k ks cnt b w es clock) (K : Maps.Keyed Try.prog k) (ht : Try.prog.underlying t = some (.map k 3)) {v : Value} {l : Lit} (hv : keyOf Try.prog k v = some l) (n : Int) :
    ∃ (ks' : List Value) (es2 : Array MapEntry) (clock2 : Nat), (Instr.mapUpdate t (.map (some b)) v (.int .i64 n)).run Try.prog w = .ok () (ChangeMaps.setBlock w b (.map es2 clock2)) ∧ Added ks v ks' ∧
      ∀ c : Value → Int, (∀ u, u ≠ v → c u = cnt u) → c v = n → CntAt k ks' c b (ChangeMaps.setBlock w b (.map es2 clock2)) es2 clock2 := by
  obtain ⟨st, ks', es1, clock1, hent, hadd, hC1, hsto⟩ := h.entry K ht hv
  obtain ⟨es2, hst, hnew⟩ := hsto n
  rcases h.find K hv w with ⟨h1, h2⟩ | ⟨j, x, h1, h2, h3, h4⟩
  · have e1 : (Instr.mapEntry t (.map (some b)) v).run Try.prog w = .ok (.tuple #[.int .i64 0, .int .i64 clock]) (ChangeMaps.setBlock w b (.map (es.push ⟨v, .int .i64 0, clock⟩) (clock + 1))) := by
      simp [Instr.mapEntry, run_underlying ht, MapKept.run_getObj_map h.blk, K.check w false hv, h1, zeroI w, MapKept.run_setObj_map _ h.blk, Result.andThen, ChangeMaps.setBlock, goInt]
    rw [e1] at hent
    have hsame := hC1.blk
    have hs0 : ∀ o, (ChangeMaps.setBlock w b o).heap[b]? = some o := fun o => ChangeMaps.heap_setBlock_same h.blk o
    injection hent with e2 e3
    have e4 : some (Obj.map (es.push ⟨v, .int .i64 0, clock⟩) (clock + 1)) = some (Obj.map es1 clock1) := by rw [← hs0, ← hs0, e3]
    simp only [Option.some.injEq, Obj.map.injEq] at e4
    obtain ⟨rfl, rfl⟩ := e4
    have e5 : st = clock := by
      have : (#[Value.int .i64 0, Value.int .i64 (clock : Int)] : Array Value) = #[.int .i64 (cnt v), .int .i64 (st : Int)] := by injection e2
      simp at this
      omega
    subst e5
    have hidx : (es.push ⟨v, .int .i64 0, st⟩).findIdx? (fun e => ((e.born : Nat) : Int) == ((st : Nat) : Int)) = some es.size := by
      rw [Array.findIdx?_push]
      have : es.findIdx? (fun e => ((e.born : Nat) : Int) == ((st : Nat) : Int)) = none := by
        rw [Array.findIdx?_eq_none_iff]
        intro x hx
        have := h.born x (by simpa using hx)
        simp
        omega
      rw [this]
      simp
    have hmod : (es.push ⟨v, .int .i64 0, st⟩).modify es.size (fun e => { e with val := .int .i64 n }) = es.push ⟨v, .int .i64 n, st⟩ := by
      apply Array.ext
      · simp
      · intro i i1 i2
        simp only [Array.getElem_modify, Array.getElem_push]
        by_cases e : es.size = i
        · subst e; simp
        · have : i < es.size := by simp at i2; omega
          simp [e, this]
    have e6 : (Instr.entryStore t (.map (some b)) (.int .i64 st) (.int .i64 n)).run Try.prog (ChangeMaps.setBlock w b (.map (es.push ⟨v, .int .i64 0, st⟩) (st + 1))) = .ok () (ChangeMaps.setBlock w b (.map (es.push ⟨v, .int .i64 n, st⟩) (st + 1))) := by
      have hss : ∀ o o', ChangeMaps.setBlock (ChangeMaps.setBlock w b o) b o' = ChangeMaps.setBlock w b o' := fun o o' => by simp [ChangeMaps.setBlock]
      rw [← hss (.map (es.push ⟨v, .int .i64 0, st⟩) (st + 1)) (.map (es.push ⟨v, .int .i64 n, st⟩) (st + 1))]
      simp only [Instr.entryStore, Sem.run_bind, MapKept.run_getObj_map (hs0 (.map (es.push ⟨v, .int .i64 0, st⟩) (st + 1))), Result.andThen]
      simp [asInt, asIntOf, hidx, hmod]
      exact MapKept.run_setObj_map _ (hs0 _)
    rw [e6] at hst
    injection hst with _ e7
    have e8 : some (Obj.map (es.push ⟨v, .int .i64 n, st⟩) (st + 1)) = some (Obj.map es2 (st + 1)) := by rw [← hs0, ← hs0, e7]
    simp only [Option.some.injEq, Obj.map.injEq, and_true] at e8
    subst e8
    refine ⟨ks', _, _, ?_, hadd, hnew⟩
    simp [Instr.mapUpdate, run_underlying ht, MapKept.run_getObj_map h.blk, K.check w false hv, h1, MapKept.run_setObj_map _ h.blk, Result.andThen, ChangeMaps.setBlock]
  · have hs0 : ∀ o, (ChangeMaps.setBlock w b o).heap[b]? = some o := fun o => ChangeMaps.heap_setBlock_same h.blk o
    have hj : es[j]? = some x := by simpa using h2
    have hjl : j < es.size := by
      rcases Nat.lt_or_ge j es.size with h' | h'
      · exact h'
      · rw [Array.getElem?_eq_none h'] at hj; cases hj
    have hgj : es[j] = x := by simpa [hjl] using hj
    have hsame : es.modify j (fun e => { e with key := v }) = es := by
      apply Array.ext
      · simp
      · intro i i1 i2
        rw [Array.getElem_modify]
        by_cases e : j = i
        · subst e
          simp only [if_true]
          rw [hgj, ← h3]
        · rw [if_neg e]
    have hvx := h.vals x (List.mem_of_getElem? h2)
    rw [h3] at hvx
    have e1 : (Instr.mapEntry t (.map (some b)) v).run Try.prog w = .ok (.tuple #[.int .i64 (cnt v), .int .i64 x.born]) (ChangeMaps.setBlock w b (.map es clock)) := by
      simp [Instr.mapEntry, run_underlying ht, MapKept.run_getObj_map h.blk, K.check w false hv, h1, hj, h3, K.stays w hv, hsame, MapKept.run_setObj_map _ h.blk, Result.andThen, ChangeMaps.setBlock, goInt, hvx]
    rw [e1] at hent
    injection hent with e2 e3
    have e4 : some (Obj.map es clock) = some (Obj.map es1 clock1) := by rw [← hs0, ← hs0, e3]
    simp only [Option.some.injEq, Obj.map.injEq] at e4
    obtain ⟨rfl, rfl⟩ := e4
    have e5 : st = x.born := by
      have : (#[Value.int .i64 (cnt v), Value.int .i64 (x.born : Int)] : Array Value) = #[.int .i64 (cnt v), .int .i64 (st : Int)] := by injection e2
      simp at this
      omega
    subst e5
    have hidx : es.findIdx? (fun e => ((e.born : Nat) : Int) == ((x.born : Nat) : Int)) = some j := by
      rw [Array.findIdx?_eq_some_iff_getElem]
      refine ⟨hjl, by simp [hgj], fun i hi => ?_⟩
      have hil : i < es.size := by omega
      have hne : es[i].born ≠ es[j].born := fun e => by
        have := h.apart
        rw [List.nodup_iff_pairwise_ne, List.pairwise_iff_getElem] at this
        exact this i j (by simpa using hil) (by simpa using hjl) hi (by simpa using e)
      rw [hgj] at hne
      simp
      omega
    have e6 : (Instr.entryStore t (.map (some b)) (.int .i64 x.born) (.int .i64 n)).run Try.prog (ChangeMaps.setBlock w b (.map es clock)) = .ok () (ChangeMaps.setBlock w b (.map (es.modify j (fun e => { e with val := .int .i64 n })) clock)) := by
      have hss : ∀ o o', ChangeMaps.setBlock (ChangeMaps.setBlock w b o) b o' = ChangeMaps.setBlock w b o' := fun o o' => by simp [ChangeMaps.setBlock]
      rw [← hss (.map es clock) (.map (es.modify j (fun e => { e with val := .int .i64 n })) clock)]
      simp only [Instr.entryStore, Sem.run_bind, MapKept.run_getObj_map (hs0 (.map es clock)), Result.andThen]
      simp [asInt, asIntOf, hidx]
      exact MapKept.run_setObj_map _ (hs0 _)
    rw [e6] at hst
    injection hst with _ e7
    have e8 : some (Obj.map (es.modify j (fun e => { e with val := .int .i64 n })) clock) = some (Obj.map es2 clock) := by rw [← hs0, ← hs0, e7]
    simp only [Option.some.injEq, Obj.map.injEq, and_true] at e8
    subst e8
    refine ⟨ks', _, _, ?_, hadd, hnew⟩
    have hmm : es.modify j (fun e' => { e' with key := v, val := .int .i64 n }) = es.modify j (fun e => { e with val := .int .i64 n }) := by
      apply Array.ext
      · simp
      · intro i i1 i2
        rw [Array.getElem_modify, Array.getElem_modify]
        by_cases e : j = i
        · subst e
          simp only [if_true]
          rw [hgj, ← h3]
        · rw [if_neg e, if_neg e]
    simp [Instr.mapUpdate, run_underlying ht, MapKept.run_getObj_map h.blk, K.check w false hv, h1, hj, h3, K.stays w hv, MapKept.run_setObj_map _ h.blk, Result.andThen, ChangeMaps.setBlock, hmm]
end

theorem nodeV_inj {i j : Nat} (h : Value.int .i64 (i : Int) = Value.int .i64 (j : Int)) : i = j := by
  injection h with _ h
  omega

/-- As many keys as nodes: each was met. -/
theorem keys_all {ks : List Value} {N : Nat} {p : Nat → Bool} (h : ks.Nodup) (hm : ∀ u, u ∈ ks ↔ ∃ i, i < N ∧ u = .int .i64 (i : Int) ∧ p i = true) : ks.length = ((List.range N).filter p).length := by
  have hp : ks.Perm (((List.range N).filter p).map fun i : Nat => Value.int .i64 (i : Int)) := by
    rw [List.perm_ext_iff_of_nodup h]
    · intro u
      rw [hm]
      simp only [List.mem_map, List.mem_filter, List.mem_range]
      constructor
      · rintro ⟨i, h1, rfl, h2⟩; exact ⟨i, ⟨h1, h2⟩, rfl⟩
      · rintro ⟨i, ⟨h1, h2⟩, rfl⟩; exact ⟨i, h1, rfl, h2⟩
    · have hn : ((List.range N).filter p).Pairwise (fun a b => a ≠ b) := List.Pairwise.filter _ (List.nodup_iff_pairwise_ne.1 List.nodup_range)
      rw [List.nodup_iff_pairwise_ne, List.pairwise_map]
      exact hn.imp (fun hne e => hne (nodeV_inj e))
  have := hp.length_eq
  simpa using this


end Go.Proofs.Ytjhkadffaephmab
