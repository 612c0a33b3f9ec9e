/-
  Our own texts, bundled: a claim holds few files.
-/
import Derived.Test.YtjhkadffaephmabGreatCutEnginePlaysAF
import Derived.Test.YtjhkadffaephmabGreatCutEnginePlaysAA
import Derived.DeepKeys4
import Derived.Test.YtjhkadffaephmabGreatCutEnginePlaysAD
/-
  Maps that count: what looking up, counting up and len do, whatever the keys are.
-/
namespace Go.Proofs.YtjhkadffaephmabGreat
set_option maxRecDepth 100000
open Go.RowKit

theorem ends_keyed : Maps.Keyed Tryz.prog 125 :=
  Maps.Keyed.of_law (deep_law_laid Tryz.laidOut (m := 2) (by omega) (by decide +kernel) (by decide +kernel) (by decide +kernel))

theorem Tryz.cells125 : Tryz.prog.cellsOf 125 = 2 := by kernel_rfl

/-- The key of two ends. -/
def endsV (f t : Int) : Value := .agg #[.int .i64 f, .int .i64 t]
theorem endsV_inj {f t g u : Int} (h : endsV f t = endsV g u) : f = g ∧ t = u := by simpa [endsV] using h

theorem ends_key {f t : Int} (wf : (Lit.int .i64 f).wf = true) (wt : (Lit.int .i64 t).wf = true) : ∃ l, keyOf Tryz.prog 125 (endsV f t) = some l := by
  have hkt : Tryz.prog.keyType 125 = true := by kernel_rfl
  obtain ⟨m, hm⟩ : ∃ m, Tryz.prog.types.size = m + 1 := ⟨Tryz.prog.types.size - 1, by kernel_rfl⟩
  refine ⟨.string (keyBytes [.int .i64 f, .int .i64 t]), ?_⟩
  unfold keyOf endsV
  simp only [Tryz.underlying125]
  rw [if_pos (by simp [hkt, Value.formed, Tryz.underlying125, Tryz.cells125]), hm]
  unfold Program.keyLits
  simp only [Tryz.underlying125, Value.cells]
  simp [Tryz.cells125, Tryz.cells3, Program.keyLits, Tryz.underlying3, wf, wt]

theorem zeroI (w : World) : (zeroValue 3).run Tryz.prog w = .ok (.int .i64 0) w := by kernel_rfl

/-- The map in block b has these keys, each with its count; of others the count is 0. -/
structure CntAt (k : TypeId) (ks : List Value) (cnt : Value → Int) (b : Nat) (w : World) (es : Array MapEntry) (clock : Nat) : Prop where
  blk : w.heap[b]? = some (.map es clock)
  born : ∀ x ∈ es.toList, x.born < clock
  apart : (es.toList.map (·.born)).Nodup
  keys : es.toList.map (·.key) = ks
  once : ks.Nodup
  vals : ∀ x ∈ es.toList, x.val = .int .i64 (cnt x.key)
  zero : ∀ v, v ∉ ks → cnt v = 0
  kinds : ∀ v ∈ ks, ∃ l, keyOf Tryz.prog k v = some l

/-- A key more, or none. -/
def Added (ks : List Value) (v : Value) (ks' : List Value) : Prop := (v ∈ ks ∧ ks' = ks) ∨ (v ∉ ks ∧ ks' = ks ++ [v])
section
variable {t k : TypeId} {ks : List Value} {cnt : Value → Int} {b : Nat} {w : World} {es : Array MapEntry} {clock : Nat}

theorem CntAt.find (h : CntAt k ks cnt b w es clock) (K : Maps.Keyed Tryz.prog k) {v : Value} {l : Lit} (hv : keyOf Tryz.prog k v = some l) (W : World) :
    ((Instr.findKey k v es.toList).run Tryz.prog W = .ok none W ∧ v ∉ ks) ∨ ∃ j x, (Instr.findKey k v es.toList).run Tryz.prog W = .ok (some (j, x.val)) W ∧ es.toList[j]? = some x ∧ x.key = v ∧ v ∈ ks := by
  rcases K.find W hv es.toList (fun e he => h.kinds e.key (by rw [← h.keys]; exact List.mem_map.2 ⟨e, he, rfl⟩)) with ⟨h1, h2⟩ | ⟨j, e, h1, h2, h3⟩
  · refine Or.inl ⟨h1, fun hm => ?_⟩
    rw [← h.keys] at hm
    obtain ⟨x, hx, e⟩ := List.mem_map.1 hm
    exact h2 x hx e
  · exact Or.inr ⟨j, e, h1, h2, h3, by rw [← h.keys, ← h3]; exact List.mem_map.2 ⟨e, List.mem_of_getElem? h2, rfl⟩⟩

theorem CntAt.look (h : CntAt k ks cnt b w es clock) (K : Maps.Keyed Tryz.prog k) (ht : Tryz.prog.underlying t = some (.map k 3)) {v : Value} {l : Lit} (hv : keyOf Tryz.prog k v = some l) :
    (Instr.lookup t (.map (some b)) v false).run Tryz.prog w = .ok (.int .i64 (cnt v)) w := by
  rcases h.find K hv w with ⟨h1, h2⟩ | ⟨j, x, h1, h2, h3, _⟩
  · rw [h.zero v h2]
    simp [Instr.lookup, run_underlying ht, MapKept.run_getObj_map h.blk, K.check w _ hv, h1, Result.andThen]
  · have hx := h.vals x (List.mem_of_getElem? h2)
    rw [h3] at hx
    simp [Instr.lookup, run_underlying ht, MapKept.run_getObj_map h.blk, K.check w _ hv, h1, hx, Result.andThen]

theorem CntAt.entry (h : CntAt k ks cnt b w es clock) (K : Maps.Keyed Tryz.prog k) (ht : Tryz.prog.underlying t = some (.map k 3)) {v : Value} {l : Lit} (hv : keyOf Tryz.prog k v = some l) :
    ∃ (st : Nat) (ks' : List Value) (es1 : Array MapEntry) (clock1 : Nat), (Instr.mapEntry t (.map (some b)) v).run Tryz.prog w = .ok (.tuple #[.int .i64 (cnt v), .int .i64 st]) (ChangeMaps.setBlock w b (.map es1 clock1)) ∧
      Added ks v ks' ∧ CntAt k ks' cnt b (ChangeMaps.setBlock w b (.map es1 clock1)) es1 clock1 ∧
      ∀ n : Int, ∃ (es2 : Array MapEntry), (Instr.entryStore t (.map (some b)) (.int .i64 st) (.int .i64 n)).run Tryz.prog (ChangeMaps.setBlock w b (.map es1 clock1)) = .ok () (ChangeMaps.setBlock w b (.map es2 clock1)) ∧
        ∀ c : Value → Int, (∀ u, u ≠ v → c u = cnt u) → c v = n → CntAt k ks' c b (ChangeMaps.setBlock w b (.map es2 clock1)) es2 clock1 := by
  have hs : ∀ o, (ChangeMaps.setBlock w b o).heap[b]? = some o := fun o => ChangeMaps.heap_setBlock_same h.blk o
  have hss : ∀ o o', ChangeMaps.setBlock (ChangeMaps.setBlock w b o) b o' = ChangeMaps.setBlock w b o' := fun o o' => by simp [ChangeMaps.setBlock]
  rcases h.find K hv w with ⟨h1, h2⟩ | ⟨j, x, h1, h2, h3, h4⟩
  · have hborn : ((es.push ⟨v, .int .i64 0, clock⟩).toList.map (·.born)).Nodup := by
      simp only [Array.toList_push, List.map_append, List.map_cons, List.map_nil]
      refine List.nodup_append.2 ⟨h.apart, by simp, fun a ha c hc e1 => ?_⟩
      simp only [List.mem_singleton] at hc
      obtain ⟨x, hx, rfl⟩ := List.mem_map.1 ha
      have := h.born x hx
      omega
    have mk : ∀ n : Int, ∀ c : Value → Int, (∀ u, u ≠ v → c u = cnt u) → c v = n → CntAt k (ks ++ [v]) c b (ChangeMaps.setBlock w b (.map (es.push ⟨v, .int .i64 n, clock⟩) (clock + 1))) (es.push ⟨v, .int .i64 n, clock⟩) (clock + 1) := fun n c hc hn => by
      refine ⟨hs _, fun x hx => ?_, ?_, ?_, ?_, fun x hx => ?_, fun u hu => ?_, fun u hu => ?_⟩
      · rw [Array.toList_push, List.mem_append, List.mem_singleton] at hx
        rcases hx with hx | rfl
        · have := h.born x hx; omega
        · show clock < clock + 1; omega
      · simpa using hborn
      · simp [h.keys]
      · refine List.nodup_append.2 ⟨h.once, by simp, fun a ha c hc e1 => ?_⟩
        simp only [List.mem_singleton] at hc
        subst hc
        subst e1
        exact h2 ha
      · rw [Array.toList_push, List.mem_append, List.mem_singleton] at hx
        rcases hx with hx | rfl
        · have hk : x.key ≠ v := fun e => h2 (by rw [← h.keys, ← e]; exact List.mem_map.2 ⟨x, hx, rfl⟩)
          rw [hc _ hk]
          exact h.vals x hx
        · show Value.int .i64 n = .int .i64 (c v)
          rw [hn]
      · simp only [List.mem_append, List.mem_singleton, not_or] at hu
        rw [hc u hu.2]
        exact h.zero u hu.1
      · simp only [List.mem_append, List.mem_singleton] at hu
        rcases hu with hu | rfl
        · exact h.kinds u hu
        · exact ⟨l, hv⟩
    refine ⟨clock, ks ++ [v], es.push ⟨v, .int .i64 0, clock⟩, clock + 1, ?_, Or.inr ⟨h2, rfl⟩, mk 0 cnt (fun _ _ => rfl) (h.zero v h2), fun n => ⟨es.push ⟨v, .int .i64 n, clock⟩, ?_, fun c h5 h6 => mk n c h5 h6⟩⟩
    · rw [h.zero v h2]
      simp [Instr.mapEntry, run_underlying ht, MapKept.run_getObj_map h.blk, K.check w false hv, h1, zeroI w, MapKept.run_setObj_map _ h.blk, Result.andThen, ChangeMaps.setBlock, goInt]
    · have hidx : (es.push ⟨v, .int .i64 0, clock⟩).findIdx? (fun e => ((e.born : Nat) : Int) == ((clock : Nat) : Int)) = some es.size := by
        rw [Array.findIdx?_push]
        have : es.findIdx? (fun e => ((e.born : Nat) : Int) == ((clock : Nat) : Int)) = none := by
          rw [Array.findIdx?_eq_none_iff]
          intro x hx
          have := h.born x (by simpa using hx)
          simp
          omega
        rw [this]
        simp
      have hmod : (es.push ⟨v, .int .i64 0, clock⟩).modify es.size (fun e => { e with val := .int .i64 n }) = es.push ⟨v, .int .i64 n, clock⟩ := by
        apply Array.ext
        · simp
        · intro i i1 i2
          simp only [Array.getElem_modify, Array.getElem_push]
          by_cases e : es.size = i
          · subst e; simp
          · have : i < es.size := by simp at i2; omega
            simp [e, this]
      rw [← hss (.map (es.push ⟨v, .int .i64 0, clock⟩) (clock + 1)) (.map (es.push ⟨v, .int .i64 n, clock⟩) (clock + 1))]
      simp only [Instr.entryStore, Sem.run_bind, MapKept.run_getObj_map (hs (.map (es.push ⟨v, .int .i64 0, clock⟩) (clock + 1))), Result.andThen]
      simp [asInt, asIntOf, hidx, hmod]
      exact MapKept.run_setObj_map _ (hs _)
  · have hj : es[j]? = some x := by simpa using h2
    have hjl : j < es.size := by
      rcases Nat.lt_or_ge j es.size with h' | h'
      · exact h'
      · rw [Array.getElem?_eq_none h'] at hj; cases hj
    have hgj : es[j] = x := by simpa [hjl] using hj
    have hsame : es.modify j (fun e => { e with key := v }) = es := by
      apply Array.ext
      · simp
      · intro i i1 i2
        rw [Array.getElem_modify]
        by_cases e : j = i
        · subst e
          simp only [if_true]
          rw [hgj, ← h3]
        · rw [if_neg e]
    have hself : ChangeMaps.setBlock w b (.map es clock) = w := by
      have hb := h.blk
      unfold ChangeMaps.setBlock
      have : w.heap.setIfInBounds b (.map es clock) = w.heap := by
        apply Array.ext
        · simp
        · intro i i1 i2
          by_cases e : b = i
          · subst e
            simp
            simpa [i2] using hb.symm
          · exact Array.getElem_setIfInBounds_ne i2 e
      rw [this]
    have hvx := h.vals x (List.mem_of_getElem? h2)
    rw [h3] at hvx
    refine ⟨x.born, ks, es, clock, ?_, Or.inl ⟨h4, rfl⟩, by rw [hself]; exact h, fun n => ⟨es.modify j (fun e => { e with val := .int .i64 n }), ?_, fun c h5 h6 => ?_⟩⟩
    · simp [Instr.mapEntry, run_underlying ht, MapKept.run_getObj_map h.blk, K.check w false hv, h1, hj, h3, K.stays w hv, hsame, MapKept.run_setObj_map _ h.blk, Result.andThen, ChangeMaps.setBlock, goInt, hvx]
    · have hidx : es.findIdx? (fun e => ((e.born : Nat) : Int) == ((x.born : Nat) : Int)) = some j := by
        rw [Array.findIdx?_eq_some_iff_getElem]
        refine ⟨hjl, by simp [hgj], fun i hi => ?_⟩
        have hil : i < es.size := by omega
        have hne : es[i].born ≠ es[j].born := fun e => by
          have := h.apart
          rw [List.nodup_iff_pairwise_ne, List.pairwise_iff_getElem] at this
          exact this i j (by simpa using hil) (by simpa using hjl) hi (by simpa using e)
        rw [hgj] at hne
        simp
        omega
      rw [hself]
      simp only [Instr.entryStore, Sem.run_bind, MapKept.run_getObj_map h.blk, Result.andThen]
      simp [asInt, asIntOf, hidx, MapKept.run_setObj_map _ h.blk, ChangeMaps.setBlock]
    · have hget : ∀ (i : Nat) (h' : i < es.size), (es.modify j (fun e => { e with val := .int .i64 n }))[i]'(by simpa using h') = if j = i then { es[i] with val := .int .i64 n } else es[i] := fun i h' => by rw [Array.getElem_modify]
      have hmem : ∀ y ∈ (es.modify j (fun e => { e with val := .int .i64 n })).toList, ∃ i, ∃ h' : i < es.size, y = if j = i then { es[i] with val := .int .i64 n } else es[i] := fun y hy => by
        obtain ⟨i, i1, rfl⟩ := List.getElem_of_mem hy
        have i2 : i < es.size := by simpa using i1
        exact ⟨i, i2, by rw [Array.getElem_toList]; exact hget i i2⟩
      have hmk : ∀ (g : MapEntry → Nat), (∀ y, g { y with val := .int .i64 n } = g y) → (es.modify j (fun e => { e with val := .int .i64 n })).toList.map g = es.toList.map g := fun g hg => by
        apply List.ext_getElem
        · simp
        · intro i i1 i2
          have i3 : i < es.size := by simpa using i2
          simp only [List.getElem_map, Array.getElem_toList]
          rw [hget i i3]
          split
          · rw [hg]
          · rfl
      have hmk2 : (es.modify j (fun e => { e with val := .int .i64 n })).toList.map (·.key) = es.toList.map (·.key) := by
        apply List.ext_getElem
        · simp
        · intro i i1 i2
          have i3 : i < es.size := by simpa using i2
          simp only [List.getElem_map, Array.getElem_toList]
          rw [hget i i3]
          split <;> rfl
      refine ⟨hs _, fun y hy => ?_, by rw [hmk (·.born) (fun _ => rfl)]; exact h.apart, by rw [hmk2]; exact h.keys, h.once, fun y hy => ?_, fun u hu => ?_, h.kinds⟩
      · obtain ⟨i, hi, rfl⟩ := hmem y hy
        have := h.born es[i] (by simp)
        split <;> exact this
      · obtain ⟨i, hi, rfl⟩ := hmem y hy
        split
        · next e =>
          subst e
          show Value.int .i64 n = .int .i64 (c es[j].key)
          rw [hgj, h3, h6]
        · next e =>
          have hk : es[i].key ≠ v := fun e' => by
            have := h.once
            rw [← h.keys, List.nodup_iff_pairwise_ne, List.pairwise_iff_getElem] at this
            rcases Nat.lt_or_gt_of_ne e with hlt | hlt
            · exact this j i (by simpa using hjl) (by simpa using hi) hlt (by simp [hgj, h3, e'])
            · exact this i j (by simpa using hi) (by simpa using hjl) hlt (by simp [hgj, h3, e'])
          rw [h5 _ hk]
          exact h.vals es[i] (by simp)
      · rw [h5 u (fun e => hu (by rw [e]; exact h4))]
        exact h.zero u hu

theorem CntAt.keep (h : CntAt k ks cnt b w es clock) {W : World} (e : W.heap[b]? = w.heap[b]?) : CntAt k ks cnt b W es clock :=
  ⟨e.trans h.blk, h.born, h.apart, h.keys, h.once, h.vals, h.zero, h.kinds⟩
theorem CntAt.lt (h : CntAt k ks cnt b w es clock) : b < w.heap.size := (Array.getElem?_eq_some_iff.1 h.blk).1
theorem CntAt.alloc (h : CntAt k ks cnt b w es clock) (o : Obj) : CntAt k ks cnt b (w.alloc o) es clock :=
  h.keep ((World.grownBy_alloc w o none).block b h.lt (by simp))
theorem CntAt.grown (h : CntAt k ks cnt b w es clock) (o : Obj) : w.grownBy (ChangeMaps.setBlock w b o) (some b) :=
  ⟨rfl, rfl, rfl, by simp [ChangeMaps.setBlock], fun i _ hi => ChangeMaps.heap_setBlock_other h.blk _ (fun e => hi (by rw [e]))⟩

theorem CntAt.made (w : World) (k : TypeId) : CntAt k [] (fun _ => 0) w.heap.size (w.alloc (.map #[] 0)) #[] 0 where
  blk := (MapKept.heap_alloc w _).1
  born := fun x hx => by simp at hx
  apart := by simp
  keys := by simp
  once := by simp
  vals := fun x hx => by simp at hx
  zero := fun _ _ => rfl
  kinds := fun v hv => by simp at hv
end

end Go.Proofs.YtjhkadffaephmabGreat

/-
  net.checkLinks, net.Check, net.Fit.
-/
namespace Go.Proofs.YtjhkadffaephmabGreat
set_option maxRecDepth 100000
open Go.RowKit

theorem wf64 {x a : Int} (h0 : 0 ≤ x) (h1 : x < a) (h2 : a ≤ 100) : (Lit.int .i64 x).wf = true := WalkArith.wf_i64 (by omega)

/-- So many links are met, each with its own ends. -/
def Met (n : NetM) (k b : Nat) (w : World) : Prop :=
  ∃ (ks : List Value) (cnt : Value → Int) (es : Array MapEntry) (clock : Nat), CntAt 125 ks cnt b w es clock ∧ (∀ f t : Int, cnt (endsV f t) = if (List.range k).any (fun j => n.F j == f && n.T j == t) = true then 1 else 0)

theorem linkErr_none {n : Net} {k : Nat} (h : (n.F k < 0 ∨ n.nodes ≤ n.F k) ∨ (n.T k < 0 ∨ n.nodes ≤ n.T k) ∨ (n.E k < 0 ∨ (n.a.E.len : Int) ≤ n.E k)) : n.linkErr k = 5 := by
  unfold Net.linkErr; rw [if_pos h]

set_option maxHeartbeats 4000000 in
theorem checkLinks_any (n : NetM) (w : World) (h : n.In w.heap.size w) (h1 : 1 ≤ n.nodes) (h6 : n.nodes ≤ 6) :
    Calls Tryz.prog 53 #[n.val] w fun e w' => e = .returned (.int .i64 (firstErr n.net.linkErr n.ln)) ∧ Below w.heap.size w w' := by
  have hlen := h.len
  unfold maxLen at hlen
  have hmm := @run_makeMap Tryz.prog
  simp only [NetM.val, NetM.cells, Mat.val]
  go_enter Tryz.func53, Tryz.ntmps53
  go_wp2
  go_loopw [2, 5, 6, 11] (fun _ _ _ i wr => ∃ k : Nat, k ≤ n.ln ∧ i = .int .i64 k ∧ Hid (∀ r, r < k → n.net.linkErr r = 0) ∧ Hid (Met n k (w.heap.size + 1) wr) ∧ Hid (Below (w.heap.size + 1) (w.alloc (.cells #[.int .i64 n.a.size, .slice n.a.B.ga n.a.B.t.len n.a.B.cap, .slice n.a.E.ga n.a.E.t.len n.a.E.cap, .int .i64 n.nodes, .slice n.la n.ln n.lc] 27)) wr)) (fun _ _ _ i _ => n.ln - (intOf i).toNat)
  case atStart => 
    refine ⟨0, Nat.zero_le _, rfl, hide fun r hr => absurd hr (Nat.not_lt_zero _), hide ⟨[], fun _ => 0, #[], 0, ?_, fun f t => by simp⟩, hide ((Below.refl _ _).alloc (by simp) _)⟩
    have := CntAt.made (w.alloc (.cells #[.int .i64 n.a.size, .slice n.a.B.ga n.a.B.t.len n.a.B.cap, .slice n.a.E.ga n.a.E.t.len n.a.E.cap, .int .i64 n.nodes, .slice n.la n.ln n.lc] 27)) 125
    simpa using this
  case round =>
    obtain ⟨k, hk, rfl, Hall, HM, HB⟩ := hrel
    have hB : Below w.heap.size w wr := ((Below.refl _ w).alloc (Nat.le_refl _) _).trans (HB.out.mono (by omega))
    have HB0 := hide hB
    by_cases hlt : k < n.ln
    · have hla := h.la (by omega)
      have c0 := (h.below hB (Nat.le_refl _)).f k hlt
      have c1 := (h.below hB (Nat.le_refl _)).t k hlt
      have c2 := (h.below hB (Nat.le_refl _)).e k hlt
      have bN := (Blk.new w #[.int .i64 n.a.size, .slice n.a.B.ga n.a.B.t.len n.a.B.cap, .slice n.a.E.ga n.a.E.t.len n.a.E.cap, .int .i64 n.nodes, .slice n.la n.ln n.lc] 27).below HB.out (by omega)
      have n2 : ∀ o, (wr.alloc o).cell? ⟨w.heap.size, 2, none⟩ = some (.slice n.a.E.ga n.a.E.t.len n.a.E.cap) := fun o => (bN.alloc o).cell 2
      have n3 : ∀ o, (wr.alloc o).cell? ⟨w.heap.size, 3, none⟩ = some (.int .i64 n.nodes) := fun o => (bN.alloc o).cell 3
      go_wp2_with fail
      go_at_call 62
      refine (sbelow_any _ _ _).mono ?_
      rintro e w' ⟨rfl, rfl⟩
      have hW1 : Below w.heap.size w (wr.alloc (.cells #[.int .i64 (n.F k), .int .i64 (n.T k), .int .i64 (n.E k)] 65)) := hB.alloc hB.size _
      have HW1 := hide hW1
      have Herr : Hid (n.net.linkErr k ≠ 0 → firstErr n.net.linkErr n.ln = n.net.linkErr k) := hide (fun hne => firstErr_at hlt Hall.out hne)
      by_cases hF : 0 ≤ n.F k ∧ n.F k < n.nodes
      rotate_left
      · have hb : (decide (0 ≤ n.F k) && decide (n.F k < n.nodes)) = false := by simp; omega
        have hfin := hide ((Herr.out (by rw [linkErr_none (n := n.net) (k := k) (Or.inl (by show n.F k < 0 ∨ n.nodes ≤ n.F k; omega))]; decide)).trans (linkErr_none (n := n.net) (k := k) (Or.inl (by show n.F k < 0 ∨ n.nodes ≤ n.F k; omega))))
        rw [hb]
        clear hb hF hB hW1
        go_wp2
        go_ret
        exact ⟨by rw [hfin.out]; rfl, HW1.out⟩
      have hb : (decide (0 ≤ n.F k) && decide (n.F k < n.nodes)) = true := by simp [hF]
      rw [hb]
      have HF := hide hF
      clear hb hF hB hW1
      go_wp2_with fail
      go_at_call 62
      refine (sbelow_any _ _ _).mono ?_
      rintro e w' ⟨rfl, rfl⟩
      by_cases hT : 0 ≤ n.T k ∧ n.T k < n.nodes
      rotate_left
      · have hb : (decide (0 ≤ n.T k) && decide (n.T k < n.nodes)) = false := by simp; omega
        have hfin := hide ((Herr.out (by rw [linkErr_none (n := n.net) (k := k) (Or.inr (Or.inl (by show n.T k < 0 ∨ n.nodes ≤ n.T k; omega)))]; decide)).trans (linkErr_none (n := n.net) (k := k) (Or.inr (Or.inl (by show n.T k < 0 ∨ n.nodes ≤ n.T k; omega)))))
        rw [hb]
        clear hb hT
        go_wp2
        go_ret
        exact ⟨by rw [hfin.out]; rfl, HW1.out⟩
      have hb : (decide (0 ≤ n.T k) && decide (n.T k < n.nodes)) = true := by simp [hT]
      rw [hb]
      have HT := hide hT
      clear hb hT
      go_wp2_with fail
      go_at_call 62
      refine (sbelow_any _ _ _).mono ?_
      rintro e w' ⟨rfl, rfl⟩
      by_cases hE : 0 ≤ n.E k ∧ n.E k < n.a.E.t.len
      rotate_left
      · have hb : (decide (0 ≤ n.E k) && decide (n.E k < n.a.E.t.len)) = false := by simp; omega
        have hfin := hide ((Herr.out (by rw [linkErr_none (n := n.net) (k := k) (Or.inr (Or.inr (by show n.E k < 0 ∨ (n.a.E.t.len : Int) ≤ n.E k; omega)))]; decide)).trans (linkErr_none (n := n.net) (k := k) (Or.inr (Or.inr (by show n.E k < 0 ∨ (n.a.E.t.len : Int) ≤ n.E k; omega)))))
        rw [hb]
        clear hb hE
        go_wp2
        go_ret
        exact ⟨by rw [hfin.out]; rfl, HW1.out⟩
      have hb : (decide (0 ≤ n.E k) && decide (n.E k < n.a.E.t.len)) = true := by simp [hE]
      rw [hb]
      have Hno : Hid (¬ ((n.net.F k < 0 ∨ n.net.nodes ≤ n.net.F k) ∨ (n.net.T k < 0 ∨ n.net.nodes ≤ n.net.T k) ∨ (n.net.E k < 0 ∨ (n.net.a.E.len : Int) ≤ n.net.E k))) := hide (by
        have h1 := HF.out
        have h2 := HT.out
        show ¬ ((n.F k < 0 ∨ n.nodes ≤ n.F k) ∨ (n.T k < 0 ∨ n.nodes ≤ n.T k) ∨ (n.E k < 0 ∨ (n.a.E.t.len : Int) ≤ n.E k))
        omega)
      clear hb hE
      by_cases hft : n.F k = n.T k
      · have hle : n.net.linkErr k = 1 := by unfold Net.linkErr; rw [if_neg Hno.out, if_pos (show n.net.F k = n.net.T k from hft)]
        have hfin := hide ((Herr.out (by rw [hle]; decide)).trans hle)
        have hft' : (n.F k == n.T k) = true := by simp [hft]
        clear hft hle
        go_wp2
        go_ret
        exact ⟨by rw [hfin.out]; rfl, HW1.out⟩
      have hft' : (n.F k == n.T k) = false := by simp [hft]
      have Hft := hide hft
      clear hft
      obtain ⟨ks, cnt, es, clock, hC, hcnt⟩ := HM.out
      have wF : (Lit.int .i64 (n.F k)).wf = true := wf64 HF.out.1 HF.out.2 (by omega)
      have wT : (Lit.int .i64 (n.T k)).wf = true := wf64 HT.out.1 HT.out.2 (by omega)
      obtain ⟨l, hl⟩ := ends_key wF wT
      have hC2 := (hC.alloc (.cells #[.int .i64 (n.F k), .int .i64 (n.T k), .int .i64 (n.E k)] 65)).alloc (.cells #[.int .i64 (n.F k), .int .i64 (n.T k)] 125)
      have hlook := hC2.look ends_keyed Tryz.underlying123 hl
      have hW2 := HW1.out.alloc HW1.out.size (.cells #[.int .i64 (n.F k), .int .i64 (n.T k)] 125)
      have hc := hcnt (n.F k) (n.T k)
      by_cases htw : (List.range k).any (fun j => n.F j == n.F k && n.T j == n.T k) = true
      · rw [if_pos htw] at hc
        rw [hc] at hlook
        have hle : n.net.linkErr k = 6 := by unfold Net.linkErr; rw [if_neg Hno.out, if_neg (show ¬ n.net.F k = n.net.T k from Hft.out), if_pos (show n.net.twice k = true from htw)]
        have hfin := hide ((Herr.out (by rw [hle]; decide)).trans hle)
        have HW2 := hide hW2
        clear hle htw hc hcnt hW2 hC hC2
        unfold endsV at hlook
        go_wp2
        go_ret
        exact ⟨by rw [hfin.out]; rfl, HW2.out⟩
      rw [if_neg htw] at hc
      have hC3 : CntAt 125 ks cnt (w.heap.size + 1) (World.drew ((wr.alloc (.cells #[.int .i64 (n.F k), .int .i64 (n.T k), .int .i64 (n.E k)] 65)).alloc (.cells #[.int .i64 (n.F k), .int .i64 (n.T k)] 125))) es clock := hC2.keep rfl
      have hlook2 := hC3.look ends_keyed Tryz.underlying123 hl
      obtain ⟨st, ks', es1, clock1, hent, hadd, hC4, hsto⟩ := hC3.entry ends_keyed Tryz.underlying123 hl
      have hlook3 := hC4.look ends_keyed Tryz.underlying123 hl
      obtain ⟨es2, hst, hnew⟩ := hsto 1
      have hle : n.net.linkErr k = 0 := by unfold Net.linkErr; rw [if_neg Hno.out, if_neg (show ¬ n.net.F k = n.net.T k from Hft.out), if_neg (show ¬ n.net.twice k = true from htw)]
      rw [hc] at hlook hlook2 hlook3 hent
      have HMn : Hid (Met n (k + 1) (w.heap.size + 1) (ChangeMaps.setBlock (World.drew ((wr.alloc (.cells #[.int .i64 (n.F k), .int .i64 (n.T k), .int .i64 (n.E k)] 65)).alloc (.cells #[.int .i64 (n.F k), .int .i64 (n.T k)] 125))) (w.heap.size + 1) (.map es2 clock1))) := hide (by
        classical
        refine ⟨ks', fun v => if v = endsV (n.F k) (n.T k) then 1 else cnt v, es2, clock1, hnew _ (fun u hu => by simp [hu]) (by simp), fun f t => ?_⟩
        show (if endsV f t = endsV (n.F k) (n.T k) then 1 else cnt (endsV f t)) = _
        rw [hcnt f t]
        by_cases e : endsV f t = endsV (n.F k) (n.T k)
        · obtain ⟨rfl, rfl⟩ := endsV_inj e
          simp [List.range_succ]
        · rw [if_neg e]
          have hne : (n.F k == f && n.T k == t) = false := by
            rw [Bool.eq_false_iff]
            intro hx
            simp at hx
            exact e (by rw [hx.1, hx.2])
          rw [List.range_succ, List.any_append]
          simp [hne])
      have HBn : Hid (Below (w.heap.size + 1) (w.alloc (.cells #[.int .i64 n.a.size, .slice n.a.B.ga n.a.B.t.len n.a.B.cap, .slice n.a.E.ga n.a.E.t.len n.a.E.cap, .int .i64 n.nodes, .slice n.la n.ln n.lc] 27)) (ChangeMaps.setBlock (World.drew ((wr.alloc (.cells #[.int .i64 (n.F k), .int .i64 (n.T k), .int .i64 (n.E k)] 65)).alloc (.cells #[.int .i64 (n.F k), .int .i64 (n.T k)] 125))) (w.heap.size + 1) (.map es2 clock1))) := hide ((below_drewN ((HB.out.alloc (by have := HB.out.size; simp at this; omega) _).alloc (by have := HB.out.size; simp at this ⊢; omega) _) 1).grown (hC3.grown _) (by have := HB.out.size; simp at this ⊢; omega) (fun j hj => by cases hj; exact Nat.le_refl _))
      have HAn : Hid (∀ r, r < k + 1 → n.net.linkErr r = 0) := hide (fun r hr => by
        by_cases e : r = k
        · subst e; exact hle
        · exact Hall.out r (by omega))
      clear hle htw hc hcnt hW2 hC hC2 hC3 hC4 hsto hnew hadd
      unfold endsV at *
      go_wp2_with fail
      go_region
      go_wp2
      go_roundw
      case rel =>
        first
        | exact ⟨k + 1, by omega, by go_num, HAn, HMn, HBn⟩
        | (rw [← hla]; (repeat apply Exists.intro); refine ⟨?_, rfl⟩; exact ⟨k + 1, by omega, by go_num, HAn, HMn, HBn⟩)
      case measure => simp [intOf]; omega
    · have hkl : k = n.ln := by omega
      have hfin := hide (firstErr_zero.2 (fun r (hr : r < n.ln) => Hall.out r (by omega)))
      clear hB
      go_wp2
      go_ret
      exact ⟨by rw [hfin.out]; rfl, HB0.out⟩

set_option maxHeartbeats 1000000 in
theorem netCheck_any (n : NetM) (w : World) (h : n.In w.heap.size w) :
    Calls Tryz.prog 27 #[n.val] w fun e w' => e = .returned (.int .i64 n.net.check) ∧ Below w.heap.size w w' := by
  have hB0 : Below w.heap.size w (w.alloc (.cells n.cells 27)) := (Below.refl _ w).alloc (Nat.le_refl _) _
  have b0 := Blk.new w n.cells 27
  have HL := hide (laws_any n.a _ ((h.a.below hB0 (Nat.le_refl _)).mono hB0.size))
  have Hdef : Hid (n.net.check = if n.a.alg.check ≠ 0 then n.a.alg.check else if (n.a.alg.tell [1, 2, 3, 4, 5, 6, 7]).law ≠ 0 then 4
    else if n.nodes < 1 ∨ 6 < n.nodes then 3 else firstErr n.net.linkErr n.ln) := hide rfl
  generalize n.a.alg.tell [1, 2, 3, 4, 5, 6, 7] = fb at *
  generalize n.a.alg.check = ck at *
  simp only [NetM.val, NetM.cells, AlgM.val, Mat.val] at *
  go_enter Tryz.func27, Tryz.ntmps27
  go_wp2_with fail
  go_at_call 52
  refine HL.out.mono ?_
  rintro e w1 ⟨rfl, hb1⟩
  have hB1 := hB0.trans (hb1.mono hB0.size)
  have b1 := b0.below hb1 b0.lt
  obtain ⟨fl, fa, fb', fc, fe⟩ := fb
  simp only [Brk.val]
  have hB2 := hB1.alloc hB1.size (.cells #[.int .i64 fl, .int .i64 fa, .int .i64 fb', .int .i64 fc, .int .i64 fe] 93)
  have b2 := b1.alloc (.cells #[.int .i64 fl, .int .i64 fa, .int .i64 fb', .int .i64 fc, .int .i64 fe] 93)
  by_cases hc : ck = 0
  · subst hc
    by_cases hn : fl = 0
    · subst hn
      have x0 := b2.cell 0
      have x1 := b2.cell 1
      have x2 := b2.cell 2
      have x3 := b2.cell 3
      have x4 := b2.cell 4
      simp at x0 x1 x2 x3 x4
      by_cases hlo : n.nodes < 1
      · have hfin : Hid (n.net.check = 3) := hide (by rw [Hdef.out]; simp [hlo])
        clear Hdef
        go_wp2
        go_ret
        exact ⟨by rw [hfin.out]; rfl, hB2⟩
      by_cases hhi : 6 < n.nodes
      · have hfin : Hid (n.net.check = 3) := hide (by rw [Hdef.out]; simp [hhi])
        clear Hdef
        go_wp2
        go_ret
        exact ⟨by rw [hfin.out]; rfl, hB2⟩
      have hfin : Hid (n.net.check = firstErr n.net.linkErr n.ln) := hide (by rw [Hdef.out]; simp [hlo, hhi])
      have HC := hide (checkLinks_any n _ (h.grown hB2) (by omega) (by omega))
      have HB2 := hide hB2
      simp only [NetM.val, NetM.cells, Mat.val] at HC
      clear Hdef hB2
      go_wp2_with fail
      go_at_call 53
      refine HC.out.mono ?_
      rintro e w3 ⟨rfl, hb3⟩
      go_wp2
      go_ret
      exact ⟨by rw [hfin.out]; rfl, HB2.out.trans (hb3.mono HB2.out.size)⟩
    · have hfin : Hid (n.net.check = 4) := hide (by rw [Hdef.out]; simp [hn])
      have hn' : (fl != 0) = true := by simp [hn]
      clear Hdef hn
      go_wp2
      go_ret
      exact ⟨by rw [hfin.out]; rfl, hB2⟩
  · have hfin : Hid (n.net.check = ck) := hide (by rw [Hdef.out]; simp [hc])
    have hc' : (ck != 0) = true := by simp [hc]
    clear Hdef hc
    go_wp2
    go_ret
    exact ⟨by rw [hfin.out]; rfl, hB2⟩

end Go.Proofs.YtjhkadffaephmabGreat

/-
  engine.shaped, checkRouters, checkBag, Check.
-/
namespace Go.Proofs.YtjhkadffaephmabGreat
set_option maxRecDepth 100000
open Go.RowKit

theorem calls_shaped1 (args : Array Value) (W : World) : (callFunc 81 args).run Tryz.prog W = .ok (.enter 81 args) W := by rfl
theorem calls_cr1 (args : Array Value) (W : World) : (callFunc 54 args).run Tryz.prog W = .ok (.enter 54 args) W := by rfl
theorem calls_cr2 (args : Array Value) (W : World) : (callFunc 57 args).run Tryz.prog W = .ok (.enter 57 args) W := by rfl
theorem calls_cr3 (args : Array Value) (W : World) : (callFunc 59 args).run Tryz.prog W = .ok (.enter 59 args) W := by rfl
theorem calls_cb1 (args : Array Value) (W : World) : (callFunc 61 args).run Tryz.prog W = .ok (.enter 61 args) W := by rfl
theorem calls_cb2 (args : Array Value) (W : World) : (callFunc 64 args).run Tryz.prog W = .ok (.enter 64 args) W := by rfl

set_option maxHeartbeats 400000 in
theorem shaped1_any (a : Option Addr) (l q bx : Nat) (n : Int) (w : World) (_hl : l ≤ maxLen) (hx : w.cell? ⟨bx, 3, none⟩ = some (.int .i64 n)) :
    Calls Tryz.prog 81 #[.slice a l q, .pointer (some ⟨bx, 0, none⟩)] w fun e w' => e = .returned (.bool ((l : Int) != 0 && (l : Int) != n)) ∧ w' = w := by
  unfold maxLen at _hl
  by_cases h0 : l = 0
  · have h0' : ((l : Int) != 0) = false := by simp [h0]
    have Hf : Hid (((l : Int) != 0 && (l : Int) != n) = false) := hide (by rw [h0']; rfl)
    clear h0
    go_enter Tryz.func81, Tryz.ntmps81
    go_wp2
    go_ret
    exact ⟨by rw [Hf.out]; rfl, rfl⟩
  · have h0' : ((l : Int) != 0) = true := by simp [h0]
    have Hf : Hid (((l : Int) != 0 && (l : Int) != n) = ((l : Int) != n)) := hide (by rw [h0']; rfl)
    clear h0
    go_enter Tryz.func81, Tryz.ntmps81
    go_wp2
    go_ret
    exact ⟨by rw [Hf.out]; rfl, rfl⟩

set_option maxHeartbeats 1000000 in
theorem shaped_any (n : NetM) (r : RtrM) (w : World) (h : r.In w.heap.size w) :
    Calls Tryz.prog 55 #[n.val, r.val] w fun e w' => e = .returned (.bool (r.shaped n.nodes)) ∧ Below w.heap.size w w' := by
  obtain ⟨W2, hW2⟩ : ∃ W2, W2 = (w.alloc (.cells n.cells 27)).alloc (.cells r.cells 59) := ⟨_, rfl⟩
  have b0 : Blk W2 w.heap.size n.cells 27 := by rw [hW2]; exact (Blk.new w _ _).alloc _
  have b1 : Blk W2 (w.heap.size + 1) r.cells 59 := by rw [hW2]; exact Blk.new' (by simp)
  have hB : Below w.heap.size w W2 := by rw [hW2]; exact ((Below.refl _ w).alloc (Nat.le_refl _) _).alloc (by simp) _
  have hT := (h.below hB (Nat.le_refl _)).T.mono hB.size
  have hrl := h.ints.len
  have htl := h.T.len
  unfold maxLen at hrl htl
  have HC := hide (containsFunc_rows 81 #[.pointer (some ⟨w.heap.size, 0, none⟩)] r.T (fun k => (r.T.t.L k : Int) != 0 && (r.T.t.L k : Int) != n.nodes) W2 hT calls_shaped1 (fun i W hi hBi => by
    refine (shaped1_any (r.T.A i) (r.T.t.L i) (r.T.C i) w.heap.size n.nodes W (h.T.lens i hi) ((b0.below hBi b0.lt).cell 3)).mono ?_
    rintro e w' ⟨rfl, rfl⟩
    exact ⟨rfl, Below.refl _ _⟩))
  have Hs : Hid (r.shaped n.nodes = (((r.rl : Int) == n.nodes) && ((r.T.t.len : Int) == n.nodes) && !((List.range r.T.t.len).any fun k => (r.T.t.L k : Int) != 0 && (r.T.t.L k : Int) != n.nodes))) := hide (by
    unfold RtrM.shaped
    congr 1
    rw [List.all_eq_not_any_not]
    congr 2
    funext k
    rw [Bool.not_not])
  have x3 := b0.cell 3
  have y0 := b1.cell 0
  have y1 := b1.cell 1
  simp [NetM.cells, RtrM.cells, Mat.val] at x3 y0 y1
  have HB := hide hB
  simp only [NetM.val, NetM.cells, RtrM.val, RtrM.cells, Mat.val] at *
  generalize ((List.range r.T.t.len).any fun k => (r.T.t.L k : Int) != 0 && (r.T.t.L k : Int) != n.nodes) = vt at *
  clear h hT hB b0 b1
  by_cases h1 : (r.rl : Int) = n.nodes
  · by_cases h2 : (r.T.t.len : Int) = n.nodes
    · have h1' : ((r.rl : Int) != n.nodes) = false := by simp [h1]
      have h2' : ((r.T.t.len : Int) != n.nodes) = false := by simp [h2]
      have Hv : Hid (r.shaped n.nodes = !vt) := hide (by rw [Hs.out]; simp [h1, h2])
      clear h1 h2 Hs
      go_enter Tryz.func55, Tryz.ntmps55
      go_wp2_with fail
      try rw [← hW2]
      go_at_call 60
      refine HC.out.mono ?_
      rintro e w1 ⟨rfl, hb1⟩
      have HB1 := hide (HB.out.trans (hb1.mono HB.out.size))
      clear hb1 HB HC
      go_wp2
      go_ret
      exact ⟨by rw [Hv.out]; rfl, HB1.out⟩
    · have h1' : ((r.rl : Int) != n.nodes) = false := by simp [h1]
      have h2' : ((r.T.t.len : Int) != n.nodes) = true := by simp [h2]
      have Hv : Hid (r.shaped n.nodes = false) := hide (by rw [Hs.out]; simp [h2])
      rw [hW2] at HB
      clear h1 h2 Hs HC hW2 x3 y0 y1
      go_enter Tryz.func55, Tryz.ntmps55
      go_wp2
      go_ret
      exact ⟨by rw [Hv.out]; rfl, HB.out⟩
  · have h1' : ((r.rl : Int) != n.nodes) = true := by simp [h1]
    have Hv : Hid (r.shaped n.nodes = false) := hide (by rw [Hs.out]; simp [h1])
    rw [hW2] at HB
    clear h1 Hs HC hW2 x3 y0 y1
    go_enter Tryz.func55, Tryz.ntmps55
    go_wp2
    go_ret
    exact ⟨by rw [Hv.out]; rfl, HB.out⟩

end Go.Proofs.YtjhkadffaephmabGreat

/-
  engine.checkRouters, checkBag, Check.
-/
namespace Go.Proofs.YtjhkadffaephmabGreat
set_option maxRecDepth 100000
open Go.RowKit

set_option maxHeartbeats 1000000 in
theorem cr1_any (n : NetM) (r : RtrM) (bx : Nat) (w : World) (h : r.In w.heap.size w) (hx : Blk w bx n.cells 27) :
    Calls Tryz.prog 54 #[r.val, .pointer (some ⟨bx, 0, none⟩)] w fun e w' => e = .returned (.bool (!r.shaped n.nodes)) ∧ Below w.heap.size w w' := by
  have hB : Below w.heap.size w (w.alloc (.cells r.cells 59)) := (Below.refl _ w).alloc (Nat.le_refl _) _
  have HS := hide (shaped_any n r (w.alloc (.cells r.cells 59)) ((h.below hB (Nat.le_refl _)).mono hB.size))
  have HB := hide hB
  have b1 := hx.alloc (.cells r.cells 59)
  have x0 := b1.cell 0
  have x1 := b1.cell 1
  have x2 := b1.cell 2
  have x3 := b1.cell 3
  have x4 := b1.cell 4
  generalize r.shaped n.nodes = v at *
  simp only [NetM.val, NetM.cells, RtrM.val, RtrM.cells, Mat.val] at *
  simp at x0 x1 x2 x3 x4
  clear h hx hB b1
  go_enter Tryz.func54, Tryz.ntmps54
  go_wp2_with fail
  go_at_call 55
  refine HS.out.mono ?_
  rintro e w1 ⟨rfl, hb1⟩
  have HB1 := hide (HB.out.trans (hb1.mono HB.out.size))
  clear hb1 HB HS
  go_wp2
  go_ret
  exact ⟨rfl, HB1.out⟩

set_option maxHeartbeats 1000000 in
theorem cr2_any (a : Option Addr) (l q b o bx : Nat) (f : Nat → Int) (s : Int) (w : World) (h : Ints a l b o f w) (hb : 0 < l → b < w.heap.size) (hx : w.cell? ⟨bx, 0, none⟩ = some (.int .i64 s)) :
    Calls Tryz.prog 57 #[.slice a l q, .pointer (some ⟨bx, 0, none⟩)] w fun e w' => e = .returned (.bool (!rowIn l f s)) ∧ Below w.heap.size w w' := by
  have HS := hide (sallBelow_any a l q b o f s w h hb)
  generalize rowIn l f s = v at HS ⊢
  clear h hb
  go_enter Tryz.func57, Tryz.ntmps57
  go_wp2_with fail
  go_at_call 58
  refine HS.out.mono ?_
  rintro e w1 ⟨rfl, hb1⟩
  have HB := hide hb1
  clear hb1
  go_wp2
  go_ret
  exact ⟨rfl, HB.out⟩

set_option maxHeartbeats 2000000 in
theorem cr3_any (r : RtrM) (bx b6 : Nat) (s : Int) (w : World) (h : r.In w.heap.size w) (hbx : bx < w.heap.size) (hx : w.cell? ⟨bx, 0, none⟩ = some (.int .i64 s)) (hb6 : b6 < w.heap.size)
    (h6 : w.cell? ⟨b6, 0, none⟩ = some (.func (.func 57) #[] #[.pointer (some ⟨bx, 0, none⟩)])) :
    Calls Tryz.prog 59 #[r.val, .pointer (some ⟨b6, 0, none⟩)] w fun e w' => e = .returned (.bool (!r.sound s)) ∧ Below w.heap.size w w' := by
  obtain ⟨W1, hW1⟩ : ∃ W1, W1 = w.alloc (.cells r.cells 59) := ⟨_, rfl⟩
  have hB : Below w.heap.size w W1 := by rw [hW1]; exact (Below.refl _ w).alloc (Nat.le_refl _) _
  have b1 : Blk W1 w.heap.size r.cells 59 := by rw [hW1]; exact Blk.new w _ _
  have hI := (h.below hB (Nat.le_refl _)).mono hB.size
  have x1 : W1.cell? ⟨bx, 0, none⟩ = some (.int .i64 s) := by rw [hB.cell (p := ⟨bx, 0, none⟩) hbx]; exact hx
  have y1 : W1.cell? ⟨b6, 0, none⟩ = some (.func (.func 57) #[] #[.pointer (some ⟨bx, 0, none⟩)]) := by rw [hB.cell (p := ⟨b6, 0, none⟩) hb6]; exact h6
  have HR := hide (cr2_any r.ra r.rl r.rc r.rb r.ro bx r.R s W1 hI.ints hI.lt x1)
  have HC := hide (fun W (hb : Below W1.heap.size W1 W) => containsFunc_rows 57 #[.pointer (some ⟨bx, 0, none⟩)] r.T (fun k => !rowIn (r.T.t.L k) (r.T.t.Z k) s) W (hI.T.grown hb) calls_cr2 (fun i W' hi hB' => by
    have hI2 := (hI.T.grown hb).below hB' (Nat.le_refl _)
    refine cr2_any (r.T.A i) (r.T.t.L i) (r.T.C i) (r.T.RB i) (r.T.RO i) bx (r.T.t.Z i) s W' (hI2.ints hi) (fun h0 => Nat.lt_of_lt_of_le (hI2.addr i hi h0).2 hB'.size) ?_
    rw [(hb.trans (hB'.mono hb.size)).cell (p := ⟨bx, 0, none⟩) (Nat.lt_of_lt_of_le hbx hB.size)]; exact x1))
  have Hs : Hid (r.sound s = (rowIn r.rl r.R s && !((List.range r.T.t.len).any fun k => !rowIn (r.T.t.L k) (r.T.t.Z k) s))) := hide (by
    unfold RtrM.sound; rw [List.all_eq_not_any_not])
  have hcf := calls_cr2
  have HB := hide hB
  have Hb1 := hide b1
  have Hy := hide y1
  have Hb6 := hide (Nat.lt_of_lt_of_le hb6 hB.size)
  generalize ((List.range r.T.t.len).any fun k => !rowIn (r.T.t.L k) (r.T.t.Z k) s) = vt at *
  generalize rowIn r.rl r.R s = vr at *
  simp only [RtrM.val, RtrM.cells, Mat.val] at *
  rw [hW1] at y1 HR
  have HW1 := hide hW1
  clear h hx h6 hB b1 hI x1 hW1
  go_enter Tryz.func59, Tryz.ntmps59
  go_wp2_with fail
  refine HR.out.mono ?_
  rintro e w2 ⟨rfl, hb2⟩
  rw [← HW1.out] at hb2
  have HB2 := hide (HB.out.trans (hb2.mono HB.out.size))
  have b2 := Hb1.out.below hb2 Hb1.out.lt
  have z1 := b2.cell 1
  simp at z1
  have y2 : w2.cell? ⟨b6, 0, none⟩ = some (.func (.func 57) #[] #[.pointer (some ⟨bx, 0, none⟩)]) := by rw [hb2.cell (p := ⟨b6, 0, none⟩) Hb6.out]; exact Hy.out
  have HC2 := hide (HC.out w2 hb2)
  clear hb2 HC HB Hb1 HR HW1 b2 y1
  by_cases hv : vr = true
  · have Hv : Hid (r.sound s = !vt) := hide (by rw [Hs.out, hv]; rfl)
    subst hv
    go_wp2_with fail
    go_at_call 60
    refine HC2.out.mono ?_
    rintro e w3 ⟨rfl, hb3⟩
    have HB3 := hide (HB2.out.trans (hb3.mono HB2.out.size))
    clear hb3 HB2 HC2
    go_wp2
    go_ret
    exact ⟨by rw [Hv.out, Bool.not_not]; rfl, HB3.out⟩
  · have hv' : vr = false := by simpa using hv
    have Hv : Hid (r.sound s = false) := hide (by rw [Hs.out, hv']; rfl)
    subst hv'
    clear hv HC2
    go_wp2
    go_ret
    exact ⟨by rw [Hv.out]; rfl, HB2.out⟩

end Go.Proofs.YtjhkadffaephmabGreat
