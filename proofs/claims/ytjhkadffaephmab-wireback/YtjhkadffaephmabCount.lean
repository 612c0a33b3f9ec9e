/-
  Maps that count: what looking up, counting up and len do, whatever the keys are.
-/
import Derived.Test.YtjhkadffaephmabOpen
import Derived.Test.YtjhkadffaephmabNames
import Derived.DeepKeys4
namespace Go.Proofs.Ytjhkadffaephmab
set_option maxRecDepth 100000
open Go.RowKit

theorem ends_keyed : Maps.Keyed Try.prog 205 :=
  Maps.Keyed.of_law (deep_law_laid Try.laidOut (m := 2) (by omega) (by decide +kernel) (by decide +kernel) (by decide +kernel))

theorem Try.cells205 : Try.prog.cellsOf 205 = 2 := by kernel_rfl

/-- The key of two ends. -/
def endsV (f t : Int) : Value := .agg #[.int .i64 f, .int .i64 t]
theorem endsV_inj {f t g u : Int} (h : endsV f t = endsV g u) : f = g ∧ t = u := by simpa [endsV] using h

theorem ends_key {f t : Int} (wf : (Lit.int .i64 f).wf = true) (wt : (Lit.int .i64 t).wf = true) : ∃ l, keyOf Try.prog 205 (endsV f t) = some l := by
  have hkt : Try.prog.keyType 205 = true := by kernel_rfl
  obtain ⟨m, hm⟩ : ∃ m, Try.prog.types.size = m + 1 := ⟨Try.prog.types.size - 1, by kernel_rfl⟩
  refine ⟨.string (keyBytes [.int .i64 f, .int .i64 t]), ?_⟩
  unfold keyOf endsV
  simp only [Try.underlying205]
  rw [if_pos (by simp [hkt, Value.formed, Try.underlying205, Try.cells205]), hm]
  unfold Program.keyLits
  simp only [Try.underlying205, Value.cells]
  simp [Try.cells205, Try.cells3, Program.keyLits, Try.underlying3, wf, wt]

theorem zeroI (w : World) : (zeroValue 3).run Try.prog w = .ok (.int .i64 0) w := by kernel_rfl

/-- The map in block b has these keys, each with its count; of others the count is 0. -/
structure CntAt (k : TypeId) (ks : List Value) (cnt : Value → Int) (b : Nat) (w : World) (es : Array MapEntry) (clock : Nat) : Prop where
  blk : w.heap[b]? = some (.map es clock)
  born : ∀ x ∈ es.toList, x.born < clock
  apart : (es.toList.map (·.born)).Nodup
  keys : es.toList.map (·.key) = ks
  once : ks.Nodup
  vals : ∀ x ∈ es.toList, x.val = .int .i64 (cnt x.key)
  zero : ∀ v, v ∉ ks → cnt v = 0
  kinds : ∀ v ∈ ks, ∃ l, keyOf Try.prog k v = some l

/-- A key more, or none. -/
def Added (ks : List Value) (v : Value) (ks' : List Value) : Prop := (v ∈ ks ∧ ks' = ks) ∨ (v ∉ ks ∧ ks' = ks ++ [v])
theorem Added.mem {ks ks' : List Value} {v : Value} (h : Added ks v ks') (u : Value) : u ∈ ks' ↔ u ∈ ks ∨ u = v := by
  rcases h with ⟨h1, rfl⟩ | ⟨h1, rfl⟩
  · exact ⟨Or.inl, fun h => by rcases h with h | rfl <;> assumption⟩
  · simp

section
variable {t k : TypeId} {ks : List Value} {cnt : Value → Int} {b : Nat} {w : World} {es : Array MapEntry} {clock : Nat}

theorem CntAt.find (h : CntAt k ks cnt b w es clock) (K : Maps.Keyed Try.prog k) {v : Value} {l : Lit} (hv : keyOf Try.prog k v = some l) (W : World) :
    ((Instr.findKey k v es.toList).run Try.prog W = .ok none W ∧ v ∉ ks) ∨ ∃ j x, (Instr.findKey k v es.toList).run Try.prog W = .ok (some (j, x.val)) W ∧ es.toList[j]? = some x ∧ x.key = v ∧ v ∈ ks := by
  rcases K.find W hv es.toList (fun e he => h.kinds e.key (by rw [← h.keys]; exact List.mem_map.2 ⟨e, he, rfl⟩)) with ⟨h1, h2⟩ | ⟨j, e, h1, h2, h3⟩
  · refine Or.inl ⟨h1, fun hm => ?_⟩
    rw [← h.keys] at hm
    obtain ⟨x, hx, e⟩ := List.mem_map.1 hm
    exact h2 x hx e
  · exact Or.inr ⟨j, e, h1, h2, h3, by rw [← h.keys, ← h3]; exact List.mem_map.2 ⟨e, List.mem_of_getElem? h2, rfl⟩⟩

theorem CntAt.look (h : CntAt k ks cnt b w es clock) (K : Maps.Keyed Try.prog k) (ht : Try.prog.underlying t = some (.map k 3)) {v : Value} {l : Lit} (hv : keyOf Try.prog k v = some l) :
    (Instr.lookup t (.map (some b)) v false).run Try.prog w = .ok (.int .i64 (cnt v)) w := by
  rcases h.find K hv w with ⟨h1, h2⟩ | ⟨j, x, h1, h2, h3, _⟩
  · rw [h.zero v h2]
    simp [Instr.lookup, run_underlying ht, MapKept.run_getObj_map h.blk, K.check w _ hv, h1, Result.andThen]
  · have hx := h.vals x (List.mem_of_getElem? h2)
    rw [h3] at hx
    simp [Instr.lookup, run_underlying ht, MapKept.run_getObj_map h.blk, K.check w _ hv, h1, hx, Result.andThen]

theorem CntAt.entry (h : CntAt k ks cnt b w es clock) (K : Maps.Keyed Try.prog k) (ht : Try.prog.underlying t = some (.map k 3)) {v : Value} {l : Lit} (hv : keyOf Try.prog k v = some l) :
    ∃ (st : Nat) (ks' : List Value) (es1 : Array MapEntry) (clock1 : Nat), (Instr.mapEntry t (.map (some b)) v).run Try.prog w = .ok (.tuple #[.int .i64 (cnt v), .int .i64 st]) (ChangeMaps.setBlock w b (.map es1 clock1)) ∧
      Added ks v ks' ∧ CntAt k ks' cnt b (ChangeMaps.setBlock w b (.map es1 clock1)) es1 clock1 ∧
      ∀ n : Int, ∃ (es2 : Array MapEntry), (Instr.entryStore t (.map (some b)) (.int .i64 st) (.int .i64 n)).run Try.prog (ChangeMaps.setBlock w b (.map es1 clock1)) = .ok () (ChangeMaps.setBlock w b (.map es2 clock1)) ∧
        ∀ c : Value → Int, (∀ u, u ≠ v → c u = cnt u) → c v = n → CntAt k ks' c b (ChangeMaps.setBlock w b (.map es2 clock1)) es2 clock1 := by
  have hs : ∀ o, (ChangeMaps.setBlock w b o).heap[b]? = some o := fun o => ChangeMaps.heap_setBlock_same h.blk o
  have hss : ∀ o o', ChangeMaps.setBlock (ChangeMaps.setBlock w b o) b o' = ChangeMaps.setBlock w b o' := fun o o' => by simp [ChangeMaps.setBlock]
  rcases h.find K hv w with ⟨h1, h2⟩ | ⟨j, x, h1, h2, h3, h4⟩
  · have hborn : ((es.push ⟨v, .int .i64 0, clock⟩).toList.map (·.born)).Nodup := by
      simp only [Array.toList_push, List.map_append, List.map_cons, List.map_nil]
      refine List.nodup_append.2 ⟨h.apart, by simp, fun a ha c hc e1 => ?_⟩
      simp only [List.mem_singleton] at hc
      obtain ⟨x, hx, rfl⟩ := List.mem_map.1 ha
      have := h.born x hx
      omega
    have mk : ∀ n : Int, ∀ c : Value → Int, (∀ u, u ≠ v → c u = cnt u) → c v = n → CntAt k (ks ++ [v]) c b (ChangeMaps.setBlock w b (.map (es.push ⟨v, .int .i64 n, clock⟩) (clock + 1))) (es.push ⟨v, .int .i64 n, clock⟩) (clock + 1) := fun n c hc hn => by
      refine ⟨hs _, fun x hx => ?_, ?_, ?_, ?_, fun x hx => ?_, fun u hu => ?_, fun u hu => ?_⟩
      · rw [Array.toList_push, List.mem_append, List.mem_singleton] at hx
        rcases hx with hx | rfl
        · have := h.born x hx; omega
        · show clock < clock + 1; omega
      · simpa using hborn
      · simp [h.keys]
      · refine List.nodup_append.2 ⟨h.once, by simp, fun a ha c hc e1 => ?_⟩
        simp only [List.mem_singleton] at hc
        subst hc
        subst e1
        exact h2 ha
      · rw [Array.toList_push, List.mem_append, List.mem_singleton] at hx
        rcases hx with hx | rfl
        · have hk : x.key ≠ v := fun e => h2 (by rw [← h.keys, ← e]; exact List.mem_map.2 ⟨x, hx, rfl⟩)
          rw [hc _ hk]
          exact h.vals x hx
        · show Value.int .i64 n = .int .i64 (c v)
          rw [hn]
      · simp only [List.mem_append, List.mem_singleton, not_or] at hu
        rw [hc u hu.2]
        exact h.zero u hu.1
      · simp only [List.mem_append, List.mem_singleton] at hu
        rcases hu with hu | rfl
        · exact h.kinds u hu
        · exact ⟨l, hv⟩
    refine ⟨clock, ks ++ [v], es.push ⟨v, .int .i64 0, clock⟩, clock + 1, ?_, Or.inr ⟨h2, rfl⟩, mk 0 cnt (fun _ _ => rfl) (h.zero v h2), fun n => ⟨es.push ⟨v, .int .i64 n, clock⟩, ?_, fun c h5 h6 => mk n c h5 h6⟩⟩
    · rw [h.zero v h2]
      simp [Instr.mapEntry, run_underlying ht, MapKept.run_getObj_map h.blk, K.check w false hv, h1, zeroI w, MapKept.run_setObj_map _ h.blk, Result.andThen, ChangeMaps.setBlock, goInt]
    · have hidx : (es.push ⟨v, .int .i64 0, clock⟩).findIdx? (fun e => ((e.born : Nat) : Int) == ((clock : Nat) : Int)) = some es.size := by
        rw [Array.findIdx?_push]
        have : es.findIdx? (fun e => ((e.born : Nat) : Int) == ((clock : Nat) : Int)) = none := by
          rw [Array.findIdx?_eq_none_iff]
          intro x hx
          have := h.born x (by simpa using hx)
          simp
          omega
        rw [this]
        simp
      have hmod : (es.push ⟨v, .int .i64 0, clock⟩).modify es.size (fun e => { e with val := .int .i64 n }) = es.push ⟨v, .int .i64 n, clock⟩ := by
        apply Array.ext
        · simp
        · intro i i1 i2
          simp only [Array.getElem_modify, Array.getElem_push]
          by_cases e : es.size = i
          · subst e; simp
          · have : i < es.size := by simp at i2; omega
            simp [e, this]
      rw [← hss (.map (es.push ⟨v, .int .i64 0, clock⟩) (clock + 1)) (.map (es.push ⟨v, .int .i64 n, clock⟩) (clock + 1))]
      simp only [Instr.entryStore, Sem.run_bind, MapKept.run_getObj_map (hs (.map (es.push ⟨v, .int .i64 0, clock⟩) (clock + 1))), Result.andThen]
      simp [asInt, asIntOf, hidx, hmod]
      exact MapKept.run_setObj_map _ (hs _)
  · have hj : es[j]? = some x := by simpa using h2
    have hjl : j < es.size := by
      rcases Nat.lt_or_ge j es.size with h' | h'
      · exact h'
      · rw [Array.getElem?_eq_none h'] at hj; cases hj
    have hgj : es[j] = x := by simpa [hjl] using hj
    have hsame : es.modify j (fun e => { e with key := v }) = es := by
      apply Array.ext
      · simp
      · intro i i1 i2
        rw [Array.getElem_modify]
        by_cases e : j = i
        · subst e
          simp only [if_true]
          rw [hgj, ← h3]
        · rw [if_neg e]
    have hself : ChangeMaps.setBlock w b (.map es clock) = w := by
      have hb := h.blk
      unfold ChangeMaps.setBlock
      have : w.heap.setIfInBounds b (.map es clock) = w.heap := by
        apply Array.ext
        · simp
        · intro i i1 i2
          by_cases e : b = i
          · subst e
            simp
            simpa [i2] using hb.symm
          · exact Array.getElem_setIfInBounds_ne i2 e
      rw [this]
    have hvx := h.vals x (List.mem_of_getElem? h2)
    rw [h3] at hvx
    refine ⟨x.born, ks, es, clock, ?_, Or.inl ⟨h4, rfl⟩, by rw [hself]; exact h, fun n => ⟨es.modify j (fun e => { e with val := .int .i64 n }), ?_, fun c h5 h6 => ?_⟩⟩
    · simp [Instr.mapEntry, run_underlying ht, MapKept.run_getObj_map h.blk, K.check w false hv, h1, hj, h3, K.stays w hv, hsame, MapKept.run_setObj_map _ h.blk, Result.andThen, ChangeMaps.setBlock, goInt, hvx]
    · have hidx : es.findIdx? (fun e => ((e.born : Nat) : Int) == ((x.born : Nat) : Int)) = some j := by
        rw [Array.findIdx?_eq_some_iff_getElem]
        refine ⟨hjl, by simp [hgj], fun i hi => ?_⟩
        have hil : i < es.size := by omega
        have hne : es[i].born ≠ es[j].born := fun e => by
          have := h.apart
          rw [List.nodup_iff_pairwise_ne, List.pairwise_iff_getElem] at this
          exact this i j (by simpa using hil) (by simpa using hjl) hi (by simpa using e)
        rw [hgj] at hne
        simp
        omega
      rw [hself]
      simp only [Instr.entryStore, Sem.run_bind, MapKept.run_getObj_map h.blk, Result.andThen]
      simp [asInt, asIntOf, hidx, MapKept.run_setObj_map _ h.blk, ChangeMaps.setBlock]
    · have hget : ∀ (i : Nat) (h' : i < es.size), (es.modify j (fun e => { e with val := .int .i64 n }))[i]'(by simpa using h') = if j = i then { es[i] with val := .int .i64 n } else es[i] := fun i h' => by rw [Array.getElem_modify]
      have hmem : ∀ y ∈ (es.modify j (fun e => { e with val := .int .i64 n })).toList, ∃ i, ∃ h' : i < es.size, y = if j = i then { es[i] with val := .int .i64 n } else es[i] := fun y hy => by
        obtain ⟨i, i1, rfl⟩ := List.getElem_of_mem hy
        have i2 : i < es.size := by simpa using i1
        exact ⟨i, i2, by rw [Array.getElem_toList]; exact hget i i2⟩
      have hmk : ∀ (g : MapEntry → Nat), (∀ y, g { y with val := .int .i64 n } = g y) → (es.modify j (fun e => { e with val := .int .i64 n })).toList.map g = es.toList.map g := fun g hg => by
        apply List.ext_getElem
        · simp
        · intro i i1 i2
          have i3 : i < es.size := by simpa using i2
          simp only [List.getElem_map, Array.getElem_toList]
          rw [hget i i3]
          split
          · rw [hg]
          · rfl
      have hmk2 : (es.modify j (fun e => { e with val := .int .i64 n })).toList.map (·.key) = es.toList.map (·.key) := by
        apply List.ext_getElem
        · simp
        · intro i i1 i2
          have i3 : i < es.size := by simpa using i2
          simp only [List.getElem_map, Array.getElem_toList]
          rw [hget i i3]
          split <;> rfl
      refine ⟨hs _, fun y hy => ?_, by rw [hmk (·.born) (fun _ => rfl)]; exact h.apart, by rw [hmk2]; exact h.keys, h.once, fun y hy => ?_, fun u hu => ?_, h.kinds⟩
      · obtain ⟨i, hi, rfl⟩ := hmem y hy
        have := h.born es[i] (by simp)
        split <;> exact this
      · obtain ⟨i, hi, rfl⟩ := hmem y hy
        split
        · next e =>
          subst e
          show Value.int .i64 n = .int .i64 (c es[j].key)
          rw [hgj, h3, h6]
        · next e =>
          have hk : es[i].key ≠ v := fun e' => by
            have := h.once
            rw [← h.keys, List.nodup_iff_pairwise_ne, List.pairwise_iff_getElem] at this
            rcases Nat.lt_or_gt_of_ne e with hlt | hlt
            · exact this j i (by simpa using hjl) (by simpa using hi) hlt (by simp [hgj, h3, e'])
            · exact this i j (by simpa using hi) (by simpa using hjl) hlt (by simp [hgj, h3, e'])
          rw [h5 _ hk]
          exact h.vals es[i] (by simp)
      · rw [h5 u (fun e => hu (by rw [e]; exact h4))]
        exact h.zero u hu

theorem CntAt.len (h : CntAt k ks cnt b w es clock) (ht : Try.prog.underlying t = some (.map k 3)) (ty : TypeId) : (Builtin.len_ #[t] ty #[.map (some b)]).run Try.prog w = .ok (.int .i64 ks.length) w := by
  have e : ks.length = es.size := by rw [← h.keys]; simp
  rw [e]
  simp [Builtin.len_, run_underlying ht, MapKept.run_getObj_map h.blk, Result.andThen, goInt]

theorem CntAt.keep (h : CntAt k ks cnt b w es clock) {W : World} (e : W.heap[b]? = w.heap[b]?) : CntAt k ks cnt b W es clock :=
  ⟨e.trans h.blk, h.born, h.apart, h.keys, h.once, h.vals, h.zero, h.kinds⟩
theorem CntAt.lt (h : CntAt k ks cnt b w es clock) : b < w.heap.size := (Array.getElem?_eq_some_iff.1 h.blk).1
theorem CntAt.alloc (h : CntAt k ks cnt b w es clock) (o : Obj) : CntAt k ks cnt b (w.alloc o) es clock :=
  h.keep ((World.grownBy_alloc w o none).block b h.lt (by simp))
theorem CntAt.below (h : CntAt k ks cnt b w es clock) {W : World} {m : Nat} (hb : Below m w W) (hm : b < m) : CntAt k ks cnt b W es clock := h.keep (hb.block b hm)
theorem CntAt.grown (h : CntAt k ks cnt b w es clock) (o : Obj) : w.grownBy (ChangeMaps.setBlock w b o) (some b) :=
  ⟨rfl, rfl, rfl, by simp [ChangeMaps.setBlock], fun i _ hi => ChangeMaps.heap_setBlock_other h.blk _ (fun e => hi (by rw [e]))⟩

theorem CntAt.made (w : World) (k : TypeId) : CntAt k [] (fun _ => 0) w.heap.size (w.alloc (.map #[] 0)) #[] 0 where
  blk := (MapKept.heap_alloc w _).1
  born := fun x hx => by simp at hx
  apart := by simp
  keys := by simp
  once := by simp
  vals := fun x hx => by simp at hx
  zero := fun _ _ => rfl
  kinds := fun v hv => by simp at hv
end

end Go.Proofs.Ytjhkadffaephmab
