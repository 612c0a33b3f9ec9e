/-
  Our own texts, bundled: a claim holds few files.
-/
import Derived.Test.YtjhkadffaephmabBundleDG
import Derived.Test.YtjhkadffaephmabBundleBF
import Derived.Test.YtjhkadffaephmabBundleBG
/-
  slices.IndexFunc at links, to the number; table.areNodes, table.Weigh.
-/
namespace Go.Proofs.Ytjhkadffaephmab
set_option maxRecDepth 100000
open Go.RowKit

/-- The numbers of a row as a list. -/
def listOf (l : Nat) (f : Nat → Int) : List Int := (List.range l).map f
theorem listOf_length (l : Nat) (f : Nat → Int) : (listOf l f).length = l := by simp [listOf]
theorem listOf_get {l : Nat} {f : Nat → Int} {i : Nat} (h : i < l) : (listOf l f)[i]? = some (f i) := by simp [listOf, h]
theorem listOf_mem {l : Nat} {f : Nat → Int} {c : Int} : c ∈ listOf l f ↔ ∃ i, i < l ∧ c = f i := by
  simp only [listOf, List.mem_map, List.mem_range]
  exact ⟨fun ⟨i, h, e⟩ => ⟨i, h, e.symm⟩, fun ⟨i, h, e⟩ => ⟨i, h, e.symm⟩⟩
theorem listOf_cons (l : Nat) (f : Nat → Int) : listOf (l + 1) f = f 0 :: listOf l (fun i => f (i + 1)) := by
  unfold listOf
  rw [List.range_succ_eq_map, List.map_cons, List.map_map]
  rfl
theorem listOf_succ (l : Nat) (f : Nat → Int) : listOf (l + 1) f = listOf l f ++ [f l] := by
  unfold listOf
  rw [List.range_succ, List.map_append]
  rfl
theorem listOf_drop {l : Nat} {f : Nat → Int} {k : Nat} (h : k < l) : (listOf l f).drop k = f k :: (listOf l f).drop (k + 1) := by
  rw [List.drop_eq_getElem_cons (by rw [listOf_length]; exact h)]
  simp [listOf]
theorem listOf_congr {l : Nat} {f g : Nat → Int} (h : ∀ i, i < l → f i = g i) : listOf l f = listOf l g := by
  unfold listOf
  exact List.map_congr_left (fun i hi => h i (List.mem_range.1 hi))

/-- Which link is the first. -/
def FirstAt (l : Nat) (p : Nat → Bool) (r : Int) : Prop := (r = -1 ∧ ∀ i, i < l → p i = false) ∨ ∃ k : Nat, k < l ∧ r = k ∧ p k = true ∧ ∀ i, i < k → p i = false

set_option maxHeartbeats 1000000 in
theorem indexLinks_any (fid : Nat) (cap : Array Value) (x : NetM) (p : Nat → Bool) (w : World) (h : x.In w.heap.size w)
    (hcf : ∀ (args : Array Value) (W : World), (callFunc fid args).run Try.prog W = .ok (.enter fid args) W)
    (hat : ∀ (i : Nat) (W : World), i < x.ln → Below w.heap.size w W → Calls Try.prog fid (#[.agg #[.int .i64 (x.F i), .int .i64 (x.T i), .int .i64 (x.E i)]] ++ cap) W fun e w' => e = .returned (.bool (p i)) ∧ Below W.heap.size W w') :
    Calls Try.prog 112 #[.slice x.la x.ln x.lc, .func (.func fid) #[] cap] w fun e w' => (∃ r : Int, e = .returned (.int .i64 r) ∧ FirstAt x.ln p r) ∧ Below w.heap.size w w' := by
  have hlen := h.len
  unfold maxLen at hlen
  have HA := hide hat
  have H := hide h
  clear hat h
  go_enter Try.func112, Try.ntmps112
  go_wp2
  go_loopw [5, 8] (fun _ i wr => ∃ k : Nat, k ≤ x.ln ∧ i = .int .i64 k ∧ Hid (∀ r, r < k → p r = false) ∧ Hid (Below w.heap.size w wr)) (fun _ i _ => x.ln - (intOf i).toNat)
  case atStart => exact ⟨0, Nat.zero_le _, rfl, hide (fun r hr => absurd hr (Nat.not_lt_zero _)), hide (Below.refl _ _)⟩
  case round =>
    obtain ⟨k, hk, rfl, Hall, HB⟩ := hrel
    by_cases hlt : k < x.ln
    · have ha := H.out.la (by omega)
      have hI := H.out.below HB.out (Nat.le_refl _)
      have hc0 := hI.f k hlt
      have hc1 := hI.t k hlt
      have hc2 := hI.e k hlt
      clear hI
      have hki : (k : Int) < (x.ln : Int) := by omega
      have HC := hide (HA.out k wr hlt HB.out)
      by_cases hp : p k = true
      · rw [hp] at HC
        have Hw : Hid (FirstAt x.ln p (k : Int)) := hide (Or.inr ⟨k, hlt, rfl, hp, Hall.out⟩)
        clear hp
        go_wp2_with fail
        refine HC.out.mono ?_
        rintro e w2 ⟨rfl, hb2⟩
        have HB2 := hide (HB.out.trans (hb2.mono HB.out.size))
        clear hb2
        go_wp2
        go_ret
        exact ⟨⟨(k : Int), rfl, Hw.out⟩, HB2.out⟩
      · have hpf : p k = false := by simpa using hp
        rw [hpf] at HC
        have Hpf := hide hpf
        clear hp hpf
        go_wp2_with fail
        refine HC.out.mono ?_
        rintro e w2 ⟨rfl, hb2⟩
        have HB2 := hide (HB.out.trans (hb2.mono HB.out.size))
        clear hb2
        have Hn : Hid (∀ r, r < k + 1 → p r = false) := hide (fun r hr => by
          by_cases e : r = k
          · subst e; exact Hpf.out
          · exact Hall.out r (by omega))
        go_wp2
        go_roundw
        case rel =>
          first
          | exact ⟨k + 1, by omega, by go_num, Hn, HB2⟩
          | ((try rw [← ha]); (repeat apply Exists.intro); refine ⟨?_, rfl⟩; exact ⟨k + 1, by omega, by go_num, Hn, HB2⟩)
        case measure => simp [intOf]; omega
    · have Hw : Hid (FirstAt x.ln p (-1)) := hide (Or.inl ⟨rfl, fun r hr => Hall.out r (by omega)⟩)
      go_wp2
      go_ret
      exact ⟨⟨-1, rfl, Hw.out⟩, HB.out⟩

set_option maxHeartbeats 400000 in
theorem areNodes_any (n : NetM) (a : Option Addr) (l q b o : Nat) (f : Nat → Int) (w : World) (h : Ints a l b o f w) (hb : 0 < l → b < w.heap.size) :
    Calls Try.prog 111 #[n.val, .slice a l q] w fun e w' => e = .returned (.bool (rowIn l f n.nodes)) ∧ Below w.heap.size w w' := by
  have hB0 : Below w.heap.size w (w.alloc (.cells n.cells 41)) := (Below.refl _ w).alloc (Nat.le_refl _) _
  have HC := hide (sallBelow_any a l q b o f n.nodes _ (h.below hB0 hb) (fun h0 => Nat.lt_of_lt_of_le (hb h0) hB0.size))
  have HB0 := hide hB0
  simp only [NetM.val, NetM.cells, Mat.val] at HC HB0 ⊢
  generalize rowIn l f n.nodes = v at *
  clear h hb hB0
  go_enter Try.func111, Try.ntmps111
  go_wp2_with fail
  go_at_call 133
  refine HC.out.mono ?_
  rintro e w1 ⟨rfl, hb1⟩
  have HB := hide (HB0.out.trans (hb1.mono HB0.out.size))
  clear hb1 HC HB0
  go_wp2
  go_ret
  exact ⟨rfl, HB.out⟩

theorem calls_weigh1 (args : Array Value) (W : World) : (callFunc 113 args).run Try.prog W = .ok (.enter 113 args) W := by rfl

set_option maxHeartbeats 2000000 in
theorem weigh1_any (F T E : Int) (l q b o k bp bk : Nat) (f : Nat → Int) (w : World) (hk0 : 0 < k) (hk : k < l) (hl : l ≤ maxLen) (h : Ints (some ⟨b, o, none⟩) l b o f w) (lb : b < w.heap.size)
    (hp : w.cell? ⟨bp, 0, none⟩ = some (.slice (some ⟨b, o, none⟩) l q)) (hkc : w.cell? ⟨bk, 0, none⟩ = some (.int .i64 (k : Int))) (lp : bp < w.heap.size) (lk : bk < w.heap.size) :
    Calls Try.prog 113 #[.agg #[.int .i64 F, .int .i64 T, .int .i64 E], .pointer (some ⟨bp, 0, none⟩), .pointer (some ⟨bk, 0, none⟩)] w fun e w' => e = .returned (.bool (F == f (k - 1) && T == f k)) ∧ Below w.heap.size w w' := by
  obtain ⟨c, rfl⟩ : ∃ c, k = c + 1 := ⟨k - 1, by omega⟩
  have HB : Hid (∀ m, Below w.heap.size w ((w.alloc (.cells #[.int .i64 F, .int .i64 T, .int .i64 E] 79)).drewN m)) := hide (fun m => below_drewN ((Below.refl _ w).alloc (Nat.le_refl _) _) m)
  have ha : ∀ {a : Nat} {i : Nat} {v : Value}, a < w.heap.size → w.cell? ⟨a, i, none⟩ = some v → ∀ o, (w.alloc o).cell? ⟨a, i, none⟩ = some v := fun {a i v} hl hv o => by rw [((Below.refl w.heap.size w).alloc (Nat.le_refl _) o).cell (p := ⟨a, i, none⟩) hl]; exact hv
  have xp := ha lp hp
  have xk := ha lk hkc
  have x0 := ha lb (h.cell c (by omega))
  have x1 := ha lb (h.cell (c + 1) hk)
  have hci : (c : Int) < (l : Int) := by omega
  have hci1 : ((c + 1 : Nat) : Int) < (l : Int) := by omega
  have e1 : ((c + 1 : Nat) : Int) - 1 = (c : Int) := by omega
  unfold maxLen at hl
  have hcs : (c + 1 - 1) = c := rfl
  simp only [Nat.add_sub_cancel]
  clear ha h hp hkc
  by_cases hF : F = f c
  · have h' : (F == f c) = true := by simp [hF]
    have Hf : Hid ((F == f c && T == f (c + 1)) = (T == f (c + 1))) := hide (by rw [h']; rfl)
    clear hF
    go_enter Try.func113, Try.ntmps113
    go_wp2
    go_region
    all_goals
      go_wp2
      go_ret
      exact ⟨by rw [Hf.out]; rfl, HB.out 1⟩
  · have h' : (F == f c) = false := by simp [hF]
    have Hf : Hid ((F == f c && T == f (c + 1)) = false) := hide (by rw [h']; rfl)
    clear hF
    go_enter Try.func113, Try.ntmps113
    go_wp2
    go_region
    all_goals
      go_wp2
      go_ret
      exact ⟨by rw [Hf.out]; rfl, HB.out 1⟩

end Go.Proofs.Ytjhkadffaephmab

/-
  table.Weigh.
-/
namespace Go.Proofs.Ytjhkadffaephmab
set_option maxRecDepth 100000
open Go.RowKit

/-- What stands in the edges' table. -/
theorem NetM.In.edgeAt {n : NetM} {N : Nat} {w : World} (h : n.In N w) (g : n.net.Good) {e s : Nat} (he : (e : Int) < n.a.E.t.len) (hs : (s : Int) < n.a.size) :
    n.a.E.ga = some ⟨n.a.E.gb, n.a.E.go, none⟩ ∧ w.cell? ⟨n.a.E.gb, n.a.E.go + e, none⟩ = some (.slice (some ⟨n.a.E.RB e, n.a.E.RO e, none⟩) (n.a.E.t.L e) (n.a.E.C e)) ∧ w.cell? ⟨n.a.E.RB e, n.a.E.RO e + s, none⟩ = some (.int .i64 (n.net.a.E.get e s)) ∧ (s : Int) < (n.a.E.t.L e : Int) := by
  have hL : s < n.a.E.t.L e := by
    have e1 := g.law.good.ew e (show e < n.a.E.t.len by omega)
    have e3 : n.net.a.E.L e = n.a.E.t.L e := rfl
    have e4 : n.net.a.size = n.a.size := rfl
    omega
  obtain ⟨a1, a2, a3⟩ := h.a.E.at (show e < n.a.E.t.len by omega) hL
  exact ⟨a1, a2, by rw [a3]; show _ = some (Value.int .i64 (n.a.E.t.Z (e : Int).toNat (s : Int).toNat)); rw [Int.toNat_natCast, Int.toNat_natCast], by omega⟩
/-- What stands in the best's table. -/
theorem NetM.In.bestAt {n : NetM} {N : Nat} {w : World} (h : n.In N w) (g : n.net.Good) {r s : Nat} (hr : (r : Int) < n.a.size) (hs : (s : Int) < n.a.size) :
    n.a.B.ga = some ⟨n.a.B.gb, n.a.B.go, none⟩ ∧ w.cell? ⟨n.a.B.gb, n.a.B.go + r, none⟩ = some (.slice (some ⟨n.a.B.RB r, n.a.B.RO r, none⟩) (n.a.B.t.L r) (n.a.B.C r)) ∧ w.cell? ⟨n.a.B.RB r, n.a.B.RO r + s, none⟩ = some (.int .i64 (n.net.a.B.get r s)) ∧ (s : Int) < (n.a.B.t.L r : Int) ∧ (r : Int) < (n.a.B.t.len : Int) := by
  have e4 : n.net.a.size = n.a.size := rfl
  have hl : r < n.a.B.t.len := by
    have e1 := g.law.good.bl
    have e3 : n.net.a.B.len = n.a.B.t.len := rfl
    omega
  have hL : s < n.a.B.t.L r := by
    have e1 := g.law.good.bw r hl
    have e3 : n.net.a.B.L r = n.a.B.t.L r := rfl
    omega
  obtain ⟨a1, a2, a3⟩ := h.a.B.at hl hL
  exact ⟨a1, a2, by rw [a3]; show _ = some (Value.int .i64 (n.a.B.t.Z (r : Int).toNat (s : Int).toNat)); rw [Int.toNat_natCast, Int.toNat_natCast], by omega, by omega⟩

/-- What a counter's box holds. -/
def cntOf (s : Value) (w : World) : Nat :=
  match s with
  | .pointer (some p) => (match w.cell? p with
    | some (.int _ z) => z.toNat
    | _ => 0)
  | _ => 0
theorem cntOf_cell {p : Addr} {w : World} {k : IntKind} {z : Int} (h : w.cell? p = some (.int k z)) : cntOf (.pointer (some p)) w = z.toNat := by
  unfold cntOf
  simp only [h]

/-- What Weigh answers. -/
def Net.weighErr (n : Net) (l : Nat) (f : Nat → Int) : Int :=
  if n.check ≠ 0 then n.check else if l = 0 then 1 else if rowIn l f n.nodes = false then 5 else if n.weigh (listOf l f) = none then 5 else 0
def Net.weighVal (n : Net) (l : Nat) (f : Nat → Int) : Int := if n.weighErr l f = 0 then (n.weigh (listOf l f)).getD 0 else 0

theorem Net.weigh_suffix {n : Net} : ∀ {pre q : List Int} {w : Int}, n.weigh (pre ++ q) = some w → q ≠ [] → ∃ v, n.weigh q = some v
  | [], q, w, h, _ => ⟨w, h⟩
  | c :: pre, q, w, h, hq => by
    obtain ⟨_, _, v, _, _, hv, _⟩ := Net.weigh_tail (l := pre ++ q) h (by simp [hq])
    exact Net.weigh_suffix hv hq

/-- A link more, from the end on. -/
theorem Net.weigh_step {n : Net} (hck : n.check = 0) {l : Nat} {f : Nat → Int} {k : Nat} {r W : Int} (hk : k + 1 < l) (hw : n.weigh ((listOf l f).drop (k + 1)) = some W) (hr : FirstAt n.ln (fun i => n.F i == f k && n.T i == f (k + 1)) r) :
    (r = -1 ∧ n.weigh (listOf l f) = none) ∨ ∃ i : Nat, i < n.ln ∧ r = i ∧ n.weigh ((listOf l f).drop k) = some (n.a.E.get (n.E i) W) := by
  have hd : (listOf l f).drop k = f k :: f (k + 1) :: (listOf l f).drop (k + 2) := by rw [listOf_drop (by omega), listOf_drop hk]
  have hd1 : (listOf l f).drop (k + 1) = f (k + 1) :: (listOf l f).drop (k + 2) := listOf_drop hk
  rcases hr with ⟨e, hn⟩ | ⟨i, hi, e, hp, _⟩
  · left
    refine ⟨e, ?_⟩
    have he : ¬ 0 ≤ n.edge (f k) (f (k + 1)) := fun h0 => by
      obtain ⟨i, hi, e1, e2, _⟩ := n.link_edge h0
      have := hn i hi
      simp [e1, e2] at this
    cases h : n.weigh (listOf l f) with
    | none => rfl
    | some v =>
      exfalso
      rw [← List.take_append_drop k (listOf l f), hd] at h
      exact he (n.weigh_mid h)
  · right
    simp only [Bool.and_eq_true, beq_iff_eq] at hp
    refine ⟨i, hi, e, ?_⟩
    have g := Net.good_of_check hck
    have he := n.edge_link hck hi
    rw [hp.1, hp.2] at he
    rw [hd, n.weigh_two, he, if_pos (g.link i hi).2.2.2.2.1, ← hd1, hw]
    rfl

set_option maxHeartbeats 4000000 in
theorem tableWeigh_any (n : NetM) (a : Option Addr) (l q b o : Nat) (f : Nat → Int) (w : World) (h : n.In w.heap.size w) (hf : Ints a l b o f w) (hb : 0 < l → b < w.heap.size) :
    Calls Try.prog 49 #[n.val, .slice a l q] w fun e w' => e = .returned (.tuple #[.int .i64 (n.net.weighVal l f), .int .i64 (n.net.weighErr l f)]) ∧ Below w.heap.size w w' := by
  have hlen := hf.len
  unfold maxLen at hlen
  obtain ⟨W1, hW1⟩ : ∃ W1, W1 = (w.alloc (.cells n.cells 41)).alloc (.cells #[.slice a l q] 22) := ⟨_, rfl⟩
  have hB1 : Below w.heap.size w W1 := by rw [hW1]; exact ((Below.refl _ w).alloc (Nat.le_refl _) _).alloc (by simp) _
  have bn : Blk W1 w.heap.size n.cells 41 := by rw [hW1]; exact (Blk.new w _ _).alloc _
  have bp : Blk W1 (w.heap.size + 1) #[.slice a l q] 22 := by rw [hW1]; exact Blk.new' (by simp)
  have HC := hide (netCheck_any n W1 (h.grown hB1))
  have HA := hide (fun W (hb' : Below w.heap.size w W) => areNodes_any n a l q b o f W (hf.below hb' hb) (fun h0 => Nat.lt_of_lt_of_le (hb h0) hb'.size))
  have Herr : Hid (n.net.weighErr l f = if n.net.check ≠ 0 then n.net.check else if l = 0 then 1 else if rowIn l f n.nodes = false then 5 else if n.net.weigh (listOf l f) = none then 5 else 0) := hide rfl
  have Hval : Hid (n.net.weighVal l f = if n.net.weighErr l f = 0 then (n.net.weigh (listOf l f)).getD 0 else 0) := hide rfl
  have Hok := hide (fun (hc : n.net.check = 0) => Net.good_of_check hc)
  have Hst := hide (fun (hc : n.net.check = 0) (k : Nat) (r W : Int) (hk : k + 1 < l) hw hr => Net.weigh_step (n := n.net) (l := l) (f := f) (k := k) (r := r) (W := W) hc hk hw hr)
  have HB1 := hide hB1
  have Hbn := hide bn
  have Hbp := hide bp
  have H := hide h
  have HF := hide hf
  have Hb := hide hb
  rw [hW1] at HC
  simp only [NetM.val, NetM.cells, Mat.val] at HC HA hW1 ⊢
  clear h hf hb hB1 bn bp
  by_cases hc : n.net.check = 0
  rotate_left
  · have He : Hid (n.net.weighErr l f = n.net.check) := hide (by rw [Herr.out, if_pos hc])
    have Hv : Hid (n.net.weighVal l f = 0) := hide (by rw [Hval.out, He.out, if_neg hc])
    generalize n.net.check = ck at *
    have hc' : (ck != 0) = true := by simp [hc]
    clear hc Herr Hval Hok Hst HA
    go_enter Try.func49, Try.ntmps49
    go_wp2_with fail
    go_at_call 70
    refine HC.out.mono ?_
    rintro e w1 ⟨rfl, hb1⟩
    rw [← hW1] at hb1
    have HB := hide (HB1.out.trans (hb1.mono HB1.out.size))
    clear hb1 HC hW1
    go_wp2
    exact bodyPost_ret (v := .tuple #[.int .i64 0, .int .i64 ck]) (by simp [results, Try.results49, go_sem]) rfl ⟨by rw [He.out, Hv.out], HB.out⟩
  have g := Hok.out hc
  have hs0 : 2 ≤ n.a.size := g.law.good.lo
  have hs1 : n.a.size ≤ 24 := g.law.good.hi
  have G := hide g
  have HS1 := hide (Hst.out hc)
  have He1 : Hid (n.net.weighErr l f = if l = 0 then 1 else if rowIn l f n.nodes = false then 5 else if n.net.weigh (listOf l f) = none then 5 else 0) := hide (by rw [Herr.out, if_neg (by simp [hc])])
  rw [hc] at HC
  clear g hc Herr Hok Hst
  go_enter Try.func49, Try.ntmps49
  go_wp2_with fail
  go_at_call 70
  refine HC.out.mono ?_
  rintro e w1 ⟨rfl, hb1⟩
  rw [← hW1] at hb1
  have hB2 := HB1.out.trans (hb1.mono HB1.out.size)
  have bn := Hbn.out.below hb1 Hbn.out.lt
  have bp := Hbp.out.below hb1 Hbp.out.lt
  have x0 := bn.cell 0
  have x1 := bn.cell 1
  have x2 := bn.cell 2
  have x3 := bn.cell 3
  have x4 := bn.cell 4
  have y0 := bp.cell 0
  simp [NetM.cells, Mat.val] at x0 x1 x2 x3 x4 y0
  have HA1 := hide (HA.out w1 hB2)
  have HB2 := hide hB2
  have Hbn1 := hide bn
  have Hbp1 := hide bp
  clear hb1 HC hW1 HA hB2 bn bp
  by_cases hl0 : l = 0
  · subst hl0
    have He : Hid (n.net.weighErr 0 f = 1) := hide (by rw [He1.out]; simp)
    have Hv : Hid (n.net.weighVal 0 f = 0) := hide (by rw [Hval.out, He.out]; simp)
    clear He1 Hval HS1 HA1
    go_wp2
    exact bodyPost_ret (v := .tuple #[.int .i64 0, .int .i64 1]) (by simp [results, Try.results49, go_sem]) rfl ⟨by rw [He.out, Hv.out], HB2.out⟩
  have hl0' : ((l : Int) == 0) = false := by simp; omega
  have ha := HF.out.addr (by omega)
  subst ha
  have He2 : Hid (n.net.weighErr l f = if rowIn l f n.nodes = false then 5 else if n.net.weigh (listOf l f) = none then 5 else 0) := hide (by rw [He1.out, if_neg hl0])
  have hl1 : 1 ≤ l := by omega
  clear hl0 He1
  go_wp2_with fail
  go_at_call 111
  refine HA1.out.mono ?_
  rintro e w2 ⟨rfl, hb2⟩
  have hB3 := HB2.out.trans (hb2.mono HB2.out.size)
  have bn := Hbn1.out.below hb2 Hbn1.out.lt
  have bp := Hbp1.out.below hb2 Hbp1.out.lt
  have y0 := bp.cell 0
  simp at y0
  have HB3 := hide hB3
  have Hbn2 := hide bn
  have Hbp2 := hide bp
  clear hb2 HA1 x0 x1 x2 x3 x4 hB3 bn bp
  by_cases hr : rowIn l f n.nodes = true
  rotate_left
  · have hr' : rowIn l f n.nodes = false := by simpa using hr
    have He : Hid (n.net.weighErr l f = 5) := hide (by rw [He2.out, if_pos hr'])
    have Hv : Hid (n.net.weighVal l f = 0) := hide (by rw [Hval.out, He.out]; simp)
    rw [hr']
    clear He2 Hval HS1 hr hr'
    go_wp2
    exact bodyPost_ret (v := .tuple #[.int .i64 0, .int .i64 5]) (by simp [results, Try.results49, go_sem]) rfl ⟨by rw [He.out, Hv.out], HB3.out⟩
  have He3 : Hid (n.net.weighErr l f = if n.net.weigh (listOf l f) = none then 5 else 0) := hide (by rw [He2.out, if_neg (by simp [hr])])
  rw [hr]
  obtain ⟨m, rfl⟩ : ∃ m, l = m + 1 := ⟨l - 1, by omega⟩
  have Hw0 : Hid (n.net.weigh ((listOf (m + 1) f).drop m) = some 0) := hide (by rw [listOf_drop (by omega), List.drop_eq_nil_of_le (by rw [listOf_length]; omega)]; exact n.net.weigh_one _)
  clear He2 hr
  go_wp2_with fail
  go_loopw [7, 8] (fun v s wr => ∃ (k W bk : Nat), k < m + 1 ∧ s = .pointer (some ⟨bk, 0, none⟩) ∧ v = .int .i64 W ∧ (W : Int) < n.a.size ∧ Hid (n.net.weigh ((listOf (m + 1) f).drop k) = some (W : Int)) ∧ Hid (Blk wr bk #[.int .i64 k] 3) ∧ Hid (w2.heap.size ≤ bk) ∧ Hid (Below w2.heap.size w2 wr)) (fun _ s wr => cntOf s wr)
  case atStart =>
    have e0 : ((m + 1 : Nat) : Int) - 1 = (m : Int) := by omega
    refine ⟨m, 0, w2.heap.size, by omega, rfl, rfl, by omega, Hw0, hide ?_, hide (Nat.le_refl _), hide ((Below.refl _ _).alloc (Nat.le_refl _) _)⟩
    have := Blk.new w2 #[.int .i64 (m : Int)] 3
    first
    | exact this
    | (simpa using this)
  case round =>
    obtain ⟨k, W, bk, hk, rfl, rfl, hW, HW, Hbk, Hle, HB⟩ := hrel
    have c0 := Hbk.out.cell 0
    simp at c0
    have hBw := HB3.out.trans (HB.out.mono HB3.out.size)
    by_cases hk0 : k = 0
    · subst hk0
      have hw : n.net.weigh (listOf (m + 1) f) = some (W : Int) := by have := HW.out; simpa using this
      have He : Hid (n.net.weighErr (m + 1) f = 0) := hide (by rw [He3.out, if_neg (by rw [hw]; simp)])
      have Hv : Hid (n.net.weighVal (m + 1) f = (W : Int)) := hide (by rw [Hval.out, He.out, hw]; simp)
      have HBw := hide hBw
      clear He3 Hval HS1 hw HW hBw
      go_wp2
      exact bodyPost_ret (v := .tuple #[.int .i64 (W : Int), .int .i64 0]) (by simp [results, Try.results49, go_sem]) rfl ⟨by rw [He.out, Hv.out], HBw.out⟩
    obtain ⟨c, rfl⟩ : ∃ c, k = c + 1 := ⟨k - 1, by omega⟩
    have hki : (0 : Int) < ((c + 1 : Nat) : Int) := by omega
    have bn := Hbn2.out.below HB.out Hbn2.out.lt
    have bp := Hbp2.out.below HB.out Hbp2.out.lt
    have x2 := bn.cell 2
    have x4 := bn.cell 4
    have y0 := bp.cell 0
    simp [NetM.cells, Mat.val] at x2 x4 y0
    have HI := hide (indexLinks_any 113 #[.pointer (some ⟨w.heap.size + 1, 0, none⟩), .pointer (some ⟨bk, 0, none⟩)] n (fun i => n.F i == f c && n.T i == f (c + 1)) wr (H.out.grown hBw) calls_weigh1 (fun i W' hi hb => by
      have hB' := hBw.trans (hb.mono hBw.size)
      have bp' := bp.below hb bp.lt
      have y0' := bp'.cell 0
      simp at y0'
      have c0' := (Hbk.out.below hb Hbk.out.lt).cell 0
      simp at c0'
      exact weigh1_any (n.F i) (n.T i) (n.E i) (m + 1) q b o (c + 1) (w.heap.size + 1) bk f W' (by omega) hk (by unfold maxLen; omega) (HF.out.below hB' Hb.out) (Nat.lt_of_lt_of_le (Hb.out (by omega)) hB'.size) y0' (by simpa using c0') (Nat.lt_of_lt_of_le bp.lt hb.size) (Nat.lt_of_lt_of_le Hbk.out.lt hb.size)))
    have HBw := hide hBw
    clear bn bp hBw hk0
    go_wp2_with fail
    go_at_call 112
    refine HI.out.mono ?_
    rintro e w3 ⟨⟨r, rfl, hr⟩, hb3⟩
    have hB4 := HBw.out.trans (hb3.mono HBw.out.size)
    rcases HS1.out c r W hk HW.out hr with ⟨er, hno⟩ | ⟨i, hi, er, hyes⟩
    · subst er
      have He : Hid (n.net.weighErr (m + 1) f = 5) := hide (by rw [He3.out, if_pos hno])
      have Hv : Hid (n.net.weighVal (m + 1) f = 0) := hide (by rw [Hval.out, He.out]; simp)
      have HB4 := hide hB4
      clear He3 Hval HS1 hno hB4 hb3 hr HI
      go_wp2
      exact bodyPost_ret (v := .tuple #[.int .i64 0, .int .i64 5]) (by simp [results, Try.results49, go_sem]) rfl ⟨by rw [He.out, Hv.out], HB4.out⟩
    · subst er
      have gl := G.out.link i hi
      obtain ⟨ke, hke⟩ : ∃ ke : Nat, n.E i = ke := ⟨(n.E i).toNat, by have := gl.2.2.2.2.1; have e : n.net.E i = n.E i := rfl; omega⟩
      have hkeE : (ke : Int) < n.a.E.t.len := by have := gl.2.2.2.2.2; have e : n.net.E i = n.E i := rfl; have e2 : n.net.a.E.len = n.a.E.t.len := rfl; omega
      have hI := H.out.below hB4 (Nat.le_refl _)
      obtain ⟨a1, a2, a3, a4⟩ := hI.edgeAt G.out hkeE hW
      have hEz := G.out.law.good.edge (e := ke) (s := W) (by omega) hkeE (by omega) hW
      obtain ⟨V, hV⟩ : ∃ V : Nat, n.net.a.E.get ke W = V := ⟨(n.net.a.E.get ke W).toNat, by omega⟩
      rw [hV] at a3 hEz
      have hyes' : n.net.weigh ((listOf (m + 1) f).drop c) = some (V : Int) := by
        rw [hyes]
        show some (n.net.a.E.get (n.E i) W) = _
        rw [hke, hV]
      have hiln : i < n.ln := hi
      have hla := H.out.la (by omega)
      have c2 := hI.e i hi
      rw [hke] at c2
      have hlen' := H.out.len
      unfold maxLen at hlen'
      have bn := Hbn2.out.below (HB.out.trans (hb3.mono HB.out.size)) Hbn2.out.lt
      have z2 := bn.cell 2
      have z4 := bn.cell 4
      simp [NetM.cells, Mat.val] at z2 z4
      have bk3 := Hbk.out.below hb3 Hbk.out.lt
      have d0 := bk3.cell 0
      simp at d0
      have hii : (i : Int) < (n.ln : Int) := by have : n.net.ln = n.ln := rfl; omega
      have hVs : (V : Int) < n.a.size := hEz.2
      have HW' := hide hyes'
      have HB5 := hide (HB.out.trans (hb3.mono HB.out.size))
      clear gl hke hI hEz hV hyes hyes' hr hb3 hB4 HI bn x2 x4 y0
      have e9 : ((c + 1 : Nat) : Int) - 1 = (c : Int) := by omega
      go_wp2
      go_region
      all_goals
        go_wp2
        go_roundw
        case rel =>
          first
          | exact ⟨c, V, w3.heap.size, by omega, rfl, rfl, hVs, HW', hide (Blk.new w3 #[.int .i64 (c : Int)] 3), hide HB5.out.size, hide (below_drewN (HB5.out.alloc HB5.out.size _) 1)⟩
          | ((try rw [← hla]); (try rw [← a1]); (repeat apply Exists.intro); refine ⟨?_, rfl⟩; exact ⟨c, V, w3.heap.size, by omega, rfl, rfl, hVs, HW', hide (Blk.new w3 #[.int .i64 (c : Int)] 3), hide HB5.out.size, hide (below_drewN (HB5.out.alloc HB5.out.size _) 1)⟩)
        case measure =>
          have m1 := cntOf_cell c0
          have m2 := cntOf_cell ((Blk.new w3 #[.int .i64 (c : Int)] 3).cell 0)
          simp at m1 m2
          rw [show ∀ (w : World) (s : Value), cntOf s w.drew = cntOf s w from fun _ _ => rfl]
          simp
          rw [m1, m2]
          omega

end Go.Proofs.Ytjhkadffaephmab
