/-
  Our own texts, bundled: a claim holds few files.
-/
import Derived.Test.YtjhkadffaephmaaBundleCB
import Derived.Test.YtjhkadffaephmaaBundleBG
import Derived.Test.YtjhkadffaephmaaBundleAJ
/-
  async.behind, async.Run.
-/
namespace Go.Proofs.Ytjhkadffaephmaa
set_option maxRecDepth 100000
open Go.RowKit

/-- It is a state, as it lies. -/
structure IsSt (N : Nat) (Y : Nat → Nat → Int) (m : Mat) (W : World) : Prop where
  mem : m.In W.heap.size W
  len : m.t.len = N
  wide : ∀ i, i < N → m.t.L i = N
  val : ∀ i, i < N → ∀ j, j < N → m.t.Z i j = Y i j
theorem IsSt.grown {N : Nat} {Y : Nat → Nat → Int} {m : Mat} {W W' : World} (h : IsSt N Y m W) (hb : Below W.heap.size W W') : IsSt N Y m W' := ⟨h.mem.grown hb, h.len, h.wide, h.val⟩
theorem Fresh.st {N lo : Nat} {Z Y : Nat → Nat → Int} {m : Mat} {W : World} (h : Fresh N lo Z m W) (e : ∀ i, i < N → ∀ j, j < N → Z i j = Y i j) : IsSt N Y m W :=
  ⟨h.2.1, by rw [h.1], fun i _ => by rw [h.1], fun i hi j hj => by rw [h.1]; exact e i hi j hj⟩

/-- States, one behind the other, as they lie. -/
structure Sts (N g len : Nat) (ms : Nat → Mat) (Y : Nat → Nat → Nat → Int) (W : World) : Prop where
  lt : g < W.heap.size
  cell : ∀ r, r < len → W.cell? ⟨g, r, none⟩ = some (ms r).val
  each : ∀ r, r < len → IsSt N (Y r) (ms r) W
theorem Sts.grown {N g len : Nat} {ms : Nat → Mat} {Y : Nat → Nat → Nat → Int} {W W' : World} (h : Sts N g len ms Y W) (hb : Below W.heap.size W W') : Sts N g len ms Y W' :=
  ⟨Nat.lt_of_lt_of_le h.lt hb.size, fun r hr => by rw [hb.cell (p := ⟨g, r, none⟩) h.lt]; exact h.cell r hr, fun r hr => (h.each r hr).grown hb⟩

theorem calls_behind1 (args : Array Value) (W : World) : (callFunc 124 args).run Try.prog W = .ok (.enter 124 args) W := by rfl

set_option maxHeartbeats 4000000 in
theorem behind1_any (N g k cap : Nat) (ms : Nat → Mat) (Y : Nat → Nat → Nat → Int) (t : TurnM) (b i v j : Nat) (K1 : Nat) (W : World) (hS : Sts N g (k + 1) ms Y W) (hk : k ≤ 1000) (ht : t.In K1 W) (hok : t.Ok N) (hi : i < N) (hv : v < N) (hj : j < N)
    (c1 : W.cell? ⟨b, 0, none⟩ = some (.slice (some ⟨g, 0, none⟩) (k + 1) cap)) (c2 : W.cell? ⟨b + 1, 1, none⟩ = some t.ages.val) (b3 : Nat) (c3 : W.cell? ⟨b3, 0, none⟩ = some (.int .i64 i)) :
    Calls Try.prog 124 #[.int .i64 v, .int .i64 j, .pointer (some ⟨b, 0, none⟩), .pointer (some ⟨b + 1, 0, none⟩), .pointer (some ⟨b3, 0, none⟩)] W fun e w' => e = .returned (.int .i64 (Y (((k : Int) + 1 - t.ages.t.Z i v).toNat) v j)) ∧ ∃ m, w' = W.drewN m := by
  have hage := hok.age i hi v hv
  obtain ⟨a1, a2, a3⟩ := ht.ages.at (show i < t.ages.t.len by rw [hok.len]; exact hi) (show v < t.ages.t.L i by rw [hok.wide i hi]; exact hv)
  have HU := hide (fun W => used_any k (t.ages.t.Z i v) W hk hage.1 hage.2)
  have hus : ((k : Int) + 1 - t.ages.t.Z i v).toNat < k + 1 := by omega
  generalize ((k : Int) + 1 - t.ages.t.Z i v).toNat = us at *
  have e1 := hS.cell us hus
  have hE := hS.each us hus
  obtain ⟨d1, d2, d3⟩ := hE.mem.at (show v < (ms us).t.len by rw [hE.len]; exact hv) (show j < (ms us).t.L v by rw [hE.wide v hv]; exact hj)
  rw [hE.val v hv j hj] at d3
  have h1 : (i : Int) < (t.ages.t.len : Int) := by have := hok.len; omega
  have h2 : (v : Int) < (t.ages.t.L i : Int) := by have := hok.wide i hi; omega
  have h3 : (us : Int) < ((k : Int) + 1) := by omega
  have h4 : (v : Int) < ((ms us).t.len : Int) := by have := hE.len; omega
  have h5 : (j : Int) < ((ms us).t.L v : Int) := by have := hE.wide v hv; omega
  rw [Mat.val, a1] at c2
  rw [Mat.val, d1] at e1
  clear hS ht hok hE a1 d1 hage
  go_enter Try.func124, Try.ntmps124
  go_wp2_with fail
  go_quiet ((go_at_call 125; exact Calls.quiet_of (HU.out _)))
  go_wp2
  go_ret
  exact ⟨rfl, _, rfl⟩

/-- What stands all through a round of behind. -/
structure BehI (lo ob : Nat) (W0 : World) (g c : Nat → Nat) (N : Nat) (Z : Nat → Nat → Int) (i bi : Nat) (W : World) : Prop where
  below : Below ob W0 W
  made : MadeI lo ob g c N N Z i W
  box : Blk W bi #[.int .i64 (i : Int)] 3
  lo : lo ≤ ob
theorem BehI.keep {lo ob : Nat} {W0 : World} {g c : Nat → Nat} {N : Nat} {Z : Nat → Nat → Int} {i bi : Nat} {W W' : World} (h : BehI lo ob W0 g c N Z i bi W) (hb : Below W.heap.size W W') : BehI lo ob W0 g c N Z i bi W' :=
  ⟨h.below.trans (hb.mono (Nat.le_of_lt h.made.out.lt)), h.made.below hb, h.box.below hb h.box.lt, h.lo⟩

/-- What comes of a round of behind. -/
def BehEnd (lo ob : Nat) (W0 : World) (N : Nat) (Z : Nat → Nat → Int) (i : Nat) (W : World) : Prop := Below ob W0 W ∧ ∃ g c : Nat → Nat, MadeI lo ob g c N N Z i W

/-- A new row, as it lies. -/
def NewRow (lo ob N : Nat) (f : Nat → Int) (v : Value) (W : World) : Prop := ∃ gn cn : Nat, v = .slice (some ⟨gn, 0, none⟩) N cn ∧ lo ≤ gn ∧ gn < W.heap.size ∧ gn ≠ ob ∧ ∀ j, j < N → W.cell? ⟨gn, j, none⟩ = some (.int .i64 (f j))

theorem BehI.put {lo ob : Nat} {W0 : World} {g c : Nat → Nat} {N : Nat} {Z : Nat → Nat → Int} {i bi : Nat} {W : World} (h : BehI lo ob W0 g c N Z i bi W) {gn cn : Nat} (h1 : lo ≤ gn) (h2 : gn < W.heap.size) (h3 : gn ≠ ob) (h4 : ∀ j, j < N → W.cell? ⟨gn, j, none⟩ = some (.int .i64 (Z i j))) :
    BehEnd lo ob W0 N Z (i + 1) (W.setCell ⟨ob, i, none⟩ (.slice (some ⟨gn, 0, none⟩) N cn)) :=
  ⟨h.below.setCell (p := ⟨ob, i, none⟩) (Nat.le_refl _) _, _, _, h.made.put h1 h2 h3 h4⟩

/-- What the operations of a region leave: all but number q whatever the world; number q a new row. -/
def rowE (vs : List Value) (q lo ob N : Nat) (f : Nat → Int) (k : Nat) (v : Value) (W : World) : Prop := if k = q then NewRow lo ob N f v W else vs[k]? = some v
theorem rowE_get {vs : List Value} {q lo ob N : Nat} {f : Nat → Int} {k : Nat} {v u : Value} {w : World} (h : rowE vs q lo ob N f k v w) (hk : k ≠ q) (hu : vs[k]? = some u) : v = u := by
  unfold rowE at h
  rw [if_neg hk, hu] at h
  exact (Option.some.inj h).symm
theorem rowE_row {vs : List Value} {q lo ob N : Nat} {f : Nat → Int} {v : Value} {w : World} (h : rowE vs q lo ob N f q v w) : NewRow lo ob N f v w := by
  unfold rowE at h
  rw [if_pos rfl] at h
  exact h
theorem rowE_new {vs : List Value} {q lo ob N : Nat} {f : Nat → Int} {v : Value} {w : World} (h : NewRow lo ob N f v w) : rowE vs q lo ob N f q v w := by
  unfold rowE
  rw [if_pos rfl]
  exact h
theorem rowE_keep {vs : List Value} {q lo ob N : Nat} {f : Nat → Int} {w w' : World} {j : Nat} {u : Value} (hj : j ≠ q) (h : rowE vs q lo ob N f j u w) : rowE vs q lo ob N f j u w' := by
  unfold rowE at *
  rw [if_neg hj] at *
  exact h
theorem rowE_mk {vs : List Value} {q lo ob N : Nat} {f : Nat → Int} {k : Nat} {v : Value} {w : World} (hk : k ≠ q) (hu : vs[k]? = some v) : rowE vs q lo ob N f k v w := by
  unfold rowE
  rw [if_neg hk]
  exact hu

end Go.Proofs.Ytjhkadffaephmaa

/-
  async.behind: under way (see NOTES.md, dead ends).
-/
namespace Go.Proofs.Ytjhkadffaephmaa
set_option maxRecDepth 100000
open Go.RowKit

set_option maxHeartbeats 4000000 in
theorem behind_any (n : NetM) (g k cap : Nat) (ms : Nat → Mat) (Y : Nat → Nat → Nat → Int) (t : TurnM) (Z : Nat → Nat → Int) (w : World) (h : n.In w.heap.size w) (ht : t.In w.heap.size w) (hck : n.net.check = 0) (hS : Sts n.net.N g (k + 1) ms Y w) (hk : k ≤ 200) (hok : t.Ok n.net.N)
    (hY : ∀ r, r < k + 1 → n.net.State (Y r))
    (hZ : ∀ i, i < n.net.N → ∀ j, j < n.net.N → Z i j = if t.act i = true then n.net.route i j (fun v => Y (((k : Int) + 1 - t.ages.t.Z i v).toNat) v j) else Y k i j) :
    Calls Try.prog 90 #[n.val, .slice (some ⟨g, 0, none⟩) (k + 1) cap, t.val] w fun e w' => (∃ m : Mat, e = .returned m.val ∧ Fresh n.net.N w.heap.size Z m w') ∧ Below w.heap.size w w' := by
  have gd := Net.good_of_check hck
  have lo := gd.lo
  have hi6 := gd.hi
  obtain ⟨N, hN⟩ : ∃ N : Nat, n.nodes = N := ⟨n.nodes.toNat, by have : n.net.nodes = n.nodes := rfl; omega⟩
  have hNN : n.net.N = N := by show n.nodes.toNat = N; omega
  have hN6 : N ≤ 6 := by have : n.net.nodes = n.nodes := rfl; omega
  have hN1 : 0 < N := by have : n.net.nodes = n.nodes := rfl; omega
  obtain ⟨i2, hi2, hx0, hx1, hx2⟩ := info_parts Try.infoInts
  have hmkA : ∀ u : World, (Instr.makeSlice 22 (.int .i64 (N : Int)) (.int .i64 (N : Int))).run Try.prog u = .ok (.slice (some ⟨u.heap.size, 0, none⟩) N N) (u.alloc (.cells (madeCells #[.slice none 0 0] N) 32)) := fun u => by
    have h := run_make (P := Try.prog) u 22 32 i2 (.slice none 0 0) Try.underlying22 hi2 hx0 .i64 .i64 (N : Int) (N : Int) (by omega) (Int.le_refl _) (by rw [hx2]; omega) (by omega)
    simpa [hx1, Value.cells] using h
  have hval : n.val = .agg #[.int .i64 n.a.size, .slice n.a.B.ga n.a.B.t.len n.a.B.cap, .slice n.a.E.ga n.a.E.t.len n.a.E.cap, .int .i64 N, .slice n.la n.ln n.lc] := by simp only [NetM.val, NetM.cells, Mat.val, hN]
  obtain ⟨W0, hW0⟩ : ∃ W0, W0 = ((w.alloc (.cells #[.int .i64 n.a.size, .slice n.a.B.ga n.a.B.t.len n.a.B.cap, .slice n.a.E.ga n.a.E.t.len n.a.E.cap, .int .i64 N, .slice n.la n.ln n.lc] 50)).alloc (.cells #[.slice (some ⟨g, 0, none⟩) (k + 1) cap] 68)).alloc (.cells #[.slice t.ag t.an t.ac, .slice t.ages.ga t.ages.t.len t.ages.cap] 123) := ⟨_, rfl⟩
  have B0 : Hid (Below w.heap.size w W0) := hide (by rw [hW0]; exact (((Below.refl _ w).alloc (Nat.le_refl _) _).alloc (by simp) _).alloc (by simp; omega) _)
  have bN0 : Blk W0 w.heap.size #[.int .i64 n.a.size, .slice n.a.B.ga n.a.B.t.len n.a.B.cap, .slice n.a.E.ga n.a.E.t.len n.a.E.cap, .int .i64 N, .slice n.la n.ln n.lc] 50 := by rw [hW0]; exact ((Blk.new w _ _).alloc _).alloc _
  have bS0 : Blk W0 (w.heap.size + 1) #[.slice (some ⟨g, 0, none⟩) (k + 1) cap] 68 := by rw [hW0]; exact (Blk.new' (by simp)).alloc _
  have bT0 : Blk W0 (w.heap.size + 1 + 1) #[.slice t.ag t.an t.ac, .slice t.ages.ga t.ages.t.len t.ages.cap] 123 := by rw [hW0]; exact Blk.new' (by simp)
  have hsz : W0.heap.size = w.heap.size + 1 + 1 + 1 := by rw [hW0]; simp
  have S0 : Hid (Sts N g (k + 1) ms Y W0) := hide (by rw [← hNN]; exact hS.grown B0.out)
  have T0 : Hid (t.In w.heap.size W0) := hide (ht.below B0.out (Nat.le_refl _))
  have HN0 := hide (fun W (hb : Below W0.heap.size W0 W) => h.grown (B0.out.trans (hb.mono B0.out.size)))
  have HK := hide hck
  have HOk : Hid (t.Ok N) := hide (by rw [← hNN]; exact hok)
  have HYs := hide hY
  have HZ : Hid (∀ i, i < N → ∀ j, j < N → Z i j = if t.act i = true then n.net.route i j (fun v => Y (((k : Int) + 1 - t.ages.t.Z i v).toNat) v j) else Y k i j) := hide (fun i hi j hj => hZ i (by rw [hNN]; exact hi) j (by rw [hNN]; exact hj))
  have HNN := hide hNN
  have Hval := hide hval
  have e1 := S0.out.cell k (by omega)
  have hE := S0.out.each k (by omega)
  have HL := hide hE
  rw [Mat.val] at e1
  have s0 := bS0.cell 0
  have n3 := bN0.cell 3
  simp at s0 n3
  have hkk : ((k + 1 : Nat) : Int) = (k : Int) + 1 := by omega
  simp only [TurnM.val, TurnM.cells, Mat.val]
  rw [hval]
  have hr1 : (((w.alloc (.cells #[.int .i64 n.a.size, .slice n.a.B.ga n.a.B.t.len n.a.B.cap, .slice n.a.E.ga n.a.E.t.len n.a.E.cap, .int .i64 N, .slice n.la n.ln n.lc] 50)).alloc (.cells #[.slice (some ⟨g, 0, none⟩) (k + 1) cap] 68)).alloc (.cells #[.slice t.ag t.an t.ac, .slice t.ages.ga t.ages.t.len t.ages.cap] 123)).cell? ⟨g, k, none⟩ = some (.slice (ms k).ga (ms k).t.len (ms k).cap) := by rw [← hW0]; exact e1
  have hr2 : (((w.alloc (.cells #[.int .i64 n.a.size, .slice n.a.B.ga n.a.B.t.len n.a.B.cap, .slice n.a.E.ga n.a.E.t.len n.a.E.cap, .int .i64 N, .slice n.la n.ln n.lc] 50)).alloc (.cells #[.slice (some ⟨g, 0, none⟩) (k + 1) cap] 68)).alloc (.cells #[.slice t.ag t.an t.ac, .slice t.ages.ga t.ages.t.len t.ages.cap] 123)).cell? ⟨w.heap.size + 1, 0, none⟩ = some (.slice (some ⟨g, 0, none⟩) (k + 1) cap) := by rw [← hW0]; exact s0
  have hr3 : (((w.alloc (.cells #[.int .i64 n.a.size, .slice n.a.B.ga n.a.B.t.len n.a.B.cap, .slice n.a.E.ga n.a.E.t.len n.a.E.cap, .int .i64 N, .slice n.la n.ln n.lc] 50)).alloc (.cells #[.slice (some ⟨g, 0, none⟩) (k + 1) cap] 68)).alloc (.cells #[.slice t.ag t.an t.ac, .slice t.ages.ga t.ages.t.len t.ages.cap] 123)).cell? ⟨w.heap.size, 3, none⟩ = some (.int .i64 N) := by rw [← hW0]; exact n3
  have HB0 : Hid (BehEnd w.heap.size W0.heap.size W0 N Z 0 (W0.alloc (.cells (madeCells #[.slice none 0 0] N) 32))) := hide ⟨(Below.refl _ _).alloc (Nat.le_refl _) _, _, _, MadeI.start W0 w.heap.size N N Z (by omega)⟩
  clear hval gd lo hi6 hN hNN h ht hck hS hok hY hZ hE e1 s0 n3
  go_enter Try.func90, Try.ntmps90
  go_wp2_with fail
  rw [← hW0]
  clear hW0 hr1 hr2 hr3
  obtain ⟨ob, hob⟩ : ∃ ob, ob = w.heap.size + 1 + 1 + 1 := ⟨_, rfl⟩
  rw [← hob] at hsz
  rw [hsz] at HB0 HN0
  rw [← hob]
  have hob2 : w.heap.size + 2 < ob := by omega
  have hlo : w.heap.size ≤ ob := by omega
  clear hob
  go_loopw [9, 21] (fun _ q wr => ∃ i : Nat, i ≤ N ∧ q = .int .i64 i ∧ Hid (BehEnd w.heap.size ob W0 N Z i wr)) (fun _ q _ => N - (intOf q).toNat)
  case atStart => exact ⟨0, Nat.zero_le _, rfl, HB0⟩
  case round =>
    obtain ⟨i, hi, rfl, HE⟩ := hrel
    by_cases hlt : i < N
    · have hii : (i : Int) < (N : Int) := by omega
      obtain ⟨hBe, gr, cr, hM⟩ := HE.out
      have hBa : Below wr.heap.size wr (wr.alloc (.cells #[.int .i64 (i : Int)] 3)) := (Below.refl _ wr).alloc (Nat.le_refl _) _
      have hBwa : Below ob W0 (wr.alloc (.cells #[.int .i64 (i : Int)] 3)) := hBe.trans (hBa.mono (Nat.le_of_lt hM.out.lt))
      have bT := bT0.below hBwa (by omega)
      have y0 := bT.cell 0
      simp at y0
      have hTa := T0.out.below hBwa hlo
      have han := HOk.out.an
      have haa := T0.out.aa (by omega)
      have hac := hTa.cell i (by omega)
      rw [haa, han] at y0
      clear haa han
      have HI1 : Hid (BehI w.heap.size ob W0 gr cr N Z i wr.heap.size (wr.alloc (.cells #[.int .i64 (i : Int)] 3))) := hide ⟨hBwa, hM.below hBa, Blk.new wr _ _, hlo⟩
      have Hzi := hide (fun j hj => HZ.out i hlt j hj)
      clear hTa bT hBa hBwa hBe hM
      cases hact : t.act i with
      | false =>
        rw [hact] at hac
        have Hz2 : Hid (∀ j, j < N → Z i j = Y k i j) := hide (fun j hj => by rw [Hzi.out j hj, if_neg (by simp [hact])])
        clear hact Hzi
        go_wp2_with fail
        refine wp_region_last 8 _ (BehI w.heap.size ob W0 gr cr N Z i wr.heap.size)
          (rowE [.slice (some ⟨ob, 0, none⟩) N N, .int .i64 i, .slice (ms k).ga (ms k).t.len (ms k).cap, .int .i64 i, .pointer (some ⟨(ms k).gb, (ms k).go + i, none⟩), .slice ((ms k).A i) N ((ms k).C i), .slice none 0 0, .pointer (some ⟨ob, i, none⟩)] 6 w.heap.size ob N (Z i))
          (fun _ W => BehEnd w.heap.size ob W0 N Z (i + 1) W) (fun _ _ _ => True) (by kernel_rfl) (by kernel_rfl) (by kernel_rfl) (by kernel_rfl) (by kernel_rfl) rfl (HI1.out.keep ⟨rfl, rfl, rfl, Nat.le_refl _, fun _ _ => rfl⟩) ⟨?_, ?_, ?_, ?_, ?_, ?_, ?_, ?_, trivial⟩ ?_ trivial ?_
        rotate_right
        · intro t' W hG _
          have HG := hide hG
          clear hG
          simp only [fill, Act.put, List.setIfInBounds_toArray, List.set_cons_zero, List.set_cons_succ]
          go_wp2
          go_roundw
          case rel =>
            first
            | exact ⟨i + 1, by omega, by go_num, HG⟩
            | ((repeat apply Exists.intro); refine ⟨?_, rfl⟩; exact ⟨i + 1, by omega, by go_num, HG⟩)
          case measure => simp [intOf]; omega
        rotate_right
        · intro t' W hG hE ht K hK
          clear ht
          have h6 := rowE_row (hE 6 (by omega))
          have e7 := rowE_get (hE 7 (by omega)) (by decide) rfl
          clear hE
          simp only [fill, Act.put, List.setIfInBounds_toArray, List.set_cons_zero, List.set_cons_succ, e7] at hK ⊢
          rw [if_pos (by rfl)]
          obtain ⟨gn, cn, e6, h1, h2, h3, h4⟩ := h6
          have c1 := hG.made.out.cell i
          rw [outG_get hlt, if_neg (Nat.lt_irrefl _)] at c1
          have cf := hG.made.out.frozen i
          have hput := hG.put (cn := cn) h1 h2 h3 h4
          clear hG h4
          simp only [e6] at hK ⊢
          go_simp
          exact hK undef _ hput
        all_goals intro t' W hG hp ht K hK
        all_goals clear ht
        all_goals simp only [fill, Act.put, List.setIfInBounds_toArray, List.set_cons_zero, List.set_cons_succ] at hK ⊢
        all_goals rw [if_pos (by rfl)]
        · go_simp
          exact hK _ W hG (rowE_mk (by decide) rfl) (fun _ _ _ h => h)
        · have c1 := hG.box.cell 0
          simp at c1
          go_simp
          exact hK _ W hG (rowE_mk (by decide) rfl) (fun _ _ _ h => h)
        · go_simp
          exact hK _ W hG (rowE_mk (by decide) rfl) (fun _ _ _ h => h)
        · have c1 := hG.box.cell 0
          simp at c1
          go_simp
          exact hK _ W hG (rowE_mk (by decide) rfl) (fun _ _ _ h => h)
        · have e2 := rowE_get (hp 2 (by decide)) (by decide) rfl
          have e3 := rowE_get (hp 3 (by decide)) (by decide) rfl
          have hga := HL.out.mem.ga (by rw [HL.out.len]; omega)
          have hli : (i : Int) < ((ms k).t.len : Int) := by have := HL.out.len; omega
          simp only [e2, e3, hga] at hK ⊢
          go_simp
          exact hK _ W hG (rowE_mk (by decide) rfl) (fun _ _ _ h => h)
        · have e4 := rowE_get (hp 4 (by decide)) (by decide) rfl
          have c1 := (HL.out.grown (hG.below.mono (by omega))).mem.row i (by rw [HL.out.len]; exact hlt)
          rw [HL.out.wide i hlt] at c1
          simp only [e4] at hK ⊢
          go_simp
          exact hK _ W hG (rowE_mk (by decide) rfl) (fun _ _ _ h => h)
        · have e5 := rowE_get (hp 5 (by decide)) (by decide) rfl
          have hSt := HL.out.grown (hG.below.mono (by omega))
          have hil : i < (ms k).t.len := by rw [HL.out.len]; exact hlt
          have hIn := hSt.mem.ints hil
          rw [HL.out.wide i hlt] at hIn
          have had := hSt.mem.addr i hil (by rw [HL.out.wide i hlt]; omega)
          have hobs := hG.made.out.lt
          have HC := hide (clone_any ((ms k).A i) N ((ms k).C i) ((ms k).RB i) ((ms k).RO i) ((ms k).t.Z i) W hIn (by omega) (by omega) had.2)
          clear had hIn hSt
          simp only [e5] at hK ⊢
          go_simp
          go_at_call 120
          refine HC.out.mono ?_
          rintro e W' ⟨gn, cn, rfl, hb, h1, h2, h3⟩
          go_simp
          refine hK _ W' (hG.keep hb) (rowE_new ⟨gn, cn, rfl, by omega, h2, by omega, fun j hj => ?_⟩) (fun j u hj => rowE_keep hj)
          rw [h3 j hj, HL.out.val i hlt j hj, Hz2.out j hj]
        · have e0 := rowE_get (hp 0 (by decide)) (by decide) rfl
          have e1 := rowE_get (hp 1 (by decide)) (by decide) rfl
          simp only [e0, e1] at hK ⊢
          go_simp
          exact hK _ W hG (rowE_mk (by decide) rfl) (fun _ _ _ h => h)
      | true =>
        rw [hact] at hac
        have Hz2 : Hid (∀ j, j < N → Z i j = n.net.route i j (fun v => Y (((k : Int) + 1 - t.ages.t.Z i v).toNat) v j)) := hide (fun j hj => by rw [Hzi.out j hj, if_pos hact])
        clear hact Hzi
        go_wp2_with fail
        refine wp_region_last 7 _ (BehI w.heap.size ob W0 gr cr N Z i wr.heap.size)
          (rowE [.slice (some ⟨ob, 0, none⟩) N N, .int .i64 i, n.val, .int .i64 i, .func (.func 124) #[] #[.pointer (some ⟨w.heap.size + 1, 0, none⟩), .pointer (some ⟨w.heap.size + 1 + 1, 0, none⟩), .pointer (some ⟨wr.heap.size, 0, none⟩)], .slice none 0 0, .pointer (some ⟨ob, i, none⟩)] 5 w.heap.size ob N (Z i))
          (fun _ W => BehEnd w.heap.size ob W0 N Z (i + 1) W) (fun _ _ _ => True) (by kernel_rfl) (by kernel_rfl) (by kernel_rfl) (by kernel_rfl) (by kernel_rfl) rfl (HI1.out.keep ⟨rfl, rfl, rfl, Nat.le_refl _, fun _ _ => rfl⟩) ⟨?_, ?_, ?_, ?_, ?_, ?_, ?_, trivial⟩ ?_ trivial ?_
        rotate_right
        · intro t' W hG _
          have HG := hide hG
          clear hG
          simp only [fill, Act.put, List.setIfInBounds_toArray, List.set_cons_zero, List.set_cons_succ]
          go_wp2
          go_roundw
          case rel =>
            first
            | exact ⟨i + 1, by omega, by go_num, HG⟩
            | ((repeat apply Exists.intro); refine ⟨?_, rfl⟩; exact ⟨i + 1, by omega, by go_num, HG⟩)
          case measure => simp [intOf]; omega
        rotate_right
        · intro t' W hG hE ht K hK
          clear ht
          have h6 := rowE_row (hE 5 (by omega))
          have e7 := rowE_get (hE 6 (by omega)) (by decide) rfl
          clear hE
          simp only [fill, Act.put, List.setIfInBounds_toArray, List.set_cons_zero, List.set_cons_succ, e7] at hK ⊢
          rw [if_pos (by rfl)]
          obtain ⟨gn, cn, e6, h1, h2, h3, h4⟩ := h6
          have c1 := hG.made.out.cell i
          rw [outG_get hlt, if_neg (Nat.lt_irrefl _)] at c1
          have cf := hG.made.out.frozen i
          have hput := hG.put (cn := cn) h1 h2 h3 h4
          clear hG h4
          simp only [e6] at hK ⊢
          go_simp
          exact hK undef _ hput
        all_goals intro t' W hG hp ht K hK
        all_goals clear ht
        all_goals simp only [fill, Act.put, List.setIfInBounds_toArray, List.set_cons_zero, List.set_cons_succ] at hK ⊢
        all_goals rw [if_pos (by rfl)]
        · go_simp
          exact hK _ W hG (rowE_mk (by decide) rfl) (fun _ _ _ h => h)
        · have c1 := hG.box.cell 0
          simp at c1
          go_simp
          exact hK _ W hG (rowE_mk (by decide) rfl) (fun _ _ _ h => h)
        · have bN := bN0.below hG.below (by omega)
          have x0 := bN.cell 0
          have x1 := bN.cell 1
          have x2 := bN.cell 2
          have x3 := bN.cell 3
          have x4 := bN.cell 4
          simp at x0 x1 x2 x3 x4
          go_simp
          exact hK _ W hG (rowE_mk (by decide) (by show some n.val = _; rw [Hval.out])) (fun _ _ _ h => h)
        · have c1 := hG.box.cell 0
          simp at c1
          go_simp
          exact hK _ W hG (rowE_mk (by decide) rfl) (fun _ _ _ h => h)
        · go_simp
          exact hK _ W hG (rowE_mk (by decide) rfl) (fun _ _ _ h => h)
        · have e2 := rowE_get (hp 2 (by decide)) (by decide) rfl
          have e3 := rowE_get (hp 3 (by decide)) (by decide) rfl
          have e4 := rowE_get (hp 4 (by decide)) (by decide) rfl
          have hobs := hG.made.out.lt
          have hbW : Below W0.heap.size W0 W := hG.below.mono (by omega)
          have HC := hide (look_any 124 #[.pointer (some ⟨w.heap.size + 1, 0, none⟩), .pointer (some ⟨w.heap.size + 1 + 1, 0, none⟩), .pointer (some ⟨wr.heap.size, 0, none⟩)] n i (fun j v => Y (((k : Int) + 1 - t.ages.t.Z i v).toNat) v j) W (HN0.out W (by rw [← hsz]; exact hbW)) HK.out
            (fun j hj v hv => by
              have hage := HOk.out.age i hlt v (by rw [← HNN.out]; exact hv)
              exact HYs.out _ (by omega) v j hv hj) calls_behind1
            (fun v j W2 hv hj hb2 => by
              have hbb : Below ob W0 W2 := hG.below.trans (hb2.mono (by omega))
              have bS2 := (bS0.below hbb (by omega)).cell 0
              have bT2 := (bT0.below hbb (by omega)).cell 1
              have bI2 := (hG.box.below hb2 hG.box.lt).cell 0
              have := behind1_any N g k cap ms Y t (w.heap.size + 1) i v j w.heap.size W2 (S0.out.grown (hbb.mono (by omega))) (by omega) (T0.out.below hbb hlo) HOk.out hlt (by rw [← HNN.out]; exact hv) (by rw [← HNN.out]; exact hj) bS2 bT2 wr.heap.size bI2
              simpa using this))
          rw [HNN.out, Hval.out] at HC
          rw [Hval.out] at e2
          simp only [e2, e3, e4] at hK ⊢
          clear hbW
          go_simp
          go_at_call 114
          refine HC.out.mono ?_
          rintro e W' ⟨rfl, hb, h2, h3⟩
          go_simp
          refine hK _ W' (hG.keep hb) (rowE_new ⟨W.heap.size + 1, N, rfl, by omega, h2, by omega, fun j hj => ?_⟩) (fun j u hj => rowE_keep hj)
          rw [h3 j hj, Hz2.out j hj]
        · have e0 := rowE_get (hp 0 (by decide)) (by decide) rfl
          have e1 := rowE_get (hp 1 (by decide)) (by decide) rfl
          simp only [e0, e1] at hK ⊢
          go_simp
          exact hK _ W hG (rowE_mk (by decide) rfl) (fun _ _ _ h => h)
    · have hin : i = N := by omega
      subst hin
      have hii : (i : Int) ≤ (i : Int) := Int.le_refl _
      obtain ⟨hBe, gr, cr, hM⟩ := HE.out
      obtain ⟨m, e1, e2, e3, e4⟩ := hM.mat (by omega) (by omega)
      have He := hide e1
      have HF : Hid (Fresh n.net.N w.heap.size Z m wr) := hide ⟨by rw [HNN.out]; exact e2, e3, e4⟩
      have HBw := hide (B0.out.trans (hBe.mono (by omega)))
      clear hM e1 e2 e3 e4 HE hBe
      go_wp2
      go_ret
      exact ⟨⟨m, congrArg Ending.returned He.out, HF.out⟩, HBw.out⟩

end Go.Proofs.Ytjhkadffaephmaa

/-
  async.Run.
-/
namespace Go.Proofs.Ytjhkadffaephmaa
set_option maxRecDepth 100000
open Go.RowKit

theorem Try.infoState : (Try.prog.info? 22).map (fun i => (i.zero, i.size, i.bytes)) = some (some (.slice none 0 0), 1, 24) := by kernel_rfl

/-- It has nothing in block g. -/
structure Mat.Off (m : Mat) (g : Nat) : Prop where
  gb : 0 < m.t.len → m.gb ≠ g
  rows : ∀ r, r < m.t.len → 0 < m.t.L r → m.RB r ≠ g
theorem Mat.From.off {m : Mat} {b g : Nat} (h : m.From b) (hg : g < b) : m.Off g :=
  ⟨fun h0 => by have := h.gb h0; omega, fun r hr h0 => by have := h.rows r hr h0; omega⟩
theorem Mat.In.off {m : Mat} {g : Nat} {w : World} (h : m.In g w) : m.Off g :=
  ⟨fun h0 => by have := h.gb h0; omega, fun r hr h0 => by have := (h.addr r hr h0).2; omega⟩
theorem Mat.In.grownBy {m : Mat} {w w' : World} {row : Option Nat} (h : m.In w.heap.size w) (hg : w.grownBy w' row) (ho : ∀ g, row = some g → m.Off g) : m.In w'.heap.size w' where
  ga := h.ga
  gb := fun h0 => Nat.lt_of_lt_of_le (h.gb h0) hg.size
  row := fun r hr => by
    rw [hg.cell_far ⟨m.gb, m.go + r, none⟩ (h.gb (by omega)) (fun e => (ho _ e.symm).gb (by omega) rfl)]
    exact h.row r hr
  addr := fun r hr h0 => ⟨(h.addr r hr h0).1, Nat.lt_of_lt_of_le (h.addr r hr h0).2 hg.size⟩
  cell := fun r hr c hc => by
    rw [hg.cell_far ⟨m.RB r, m.RO r + c, none⟩ (h.addr r hr (by omega)).2 (fun e => (ho _ e.symm).rows r hr (by omega) rfl)]
    exact h.cell r hr c hc
  len := h.len
  lens := h.lens
theorem IsSt.grownBy {N : Nat} {Y : Nat → Nat → Int} {m : Mat} {w w' : World} {row : Option Nat} (h : IsSt N Y m w) (hg : w.grownBy w' row) (ho : ∀ g, row = some g → m.Off g) : IsSt N Y m w' := ⟨h.mem.grownBy hg ho, h.len, h.wide, h.val⟩

/-- The values of states. -/
def stL (ms : Nat → Mat) (n : Nat) : List Value := (List.range n).map fun r => (ms r).val
theorem stL_succ (ms : Nat → Mat) (n : Nat) : stL ms (n + 1) = stL ms n ++ [(ms n).val] := by simp [stL, List.range_succ]
theorem stL_get {ms : Nat → Mat} {n j : Nat} (h : j < n) : (stL ms n)[j]? = some (ms j).val := by simp [stL, h]
theorem stL_congr {ms ms' : Nat → Mat} {n : Nat} (h : ∀ j, j < n → ms j = ms' j) : stL ms n = stL ms' n := by
  unfold stL
  apply List.map_congr_left
  intro j hj
  rw [h j (by simpa using hj)]

/-- States in a row that is one's own. -/
structure OwnSts (base N g len cap : Nat) (ms : Nat → Mat) (Y : Nat → Nat → Nat → Int) (W : World) : Prop where
  row : W.ownsRow base 22 1 (.slice (some ⟨g, 0, none⟩) len cap) len (stL ms len)
  off : ∀ r, r < len → (ms r).Off g
  each : ∀ r, r < len → IsSt N (Y r) (ms r) W
theorem OwnSts.grown {base N g len cap : Nat} {ms : Nat → Mat} {Y : Nat → Nat → Nat → Int} {W W' : World} (h : OwnSts base N g len cap ms Y W) (hb : Below W.heap.size W W') : OwnSts base N g len cap ms Y W' :=
  ⟨owns_below h.row hb, h.off, fun r hr => (h.each r hr).grown hb⟩
theorem OwnSts.sts {base N g len cap : Nat} {ms : Nat → Mat} {Y : Nat → Nat → Nat → Int} {W : World} (h : OwnSts base N g len cap ms Y W) : Sts N g len ms Y W :=
  ⟨(h.row.lt g rfl).2, fun r hr => by rw [h.row.cellAt r (by omega)]; exact stL_get hr, h.each⟩
theorem OwnSts.first {N : Nat} {m : Mat} {Y : Nat → Nat → Nat → Int} {W : World} (h : IsSt N (Y 0) m W) : OwnSts W.heap.size N W.heap.size 1 1 (fun _ => m) Y (W.alloc (.cells #[m.val] 22)) :=
  ⟨World.ownsRow_lit W #[m.val] 1 (Nat.le_refl _) (by decide) rfl, fun r _ => h.mem.off, fun r hr => by
    have : r = 0 := by omega
    subst this
    exact h.grown ((Below.refl _ W).alloc (Nat.le_refl _) _)⟩
theorem OwnSts.push {base N g k cap g' cap' : Nat} {ms : Nat → Mat} {Y : Nat → Nat → Nat → Int} {W W' : World} {m : Mat} (h : OwnSts base N g k cap ms Y W) (hm : IsSt N (Y k) m W) (hoff : m.Off g)
    (hown : W'.ownsRow base 22 1 (.slice (some ⟨g', 0, none⟩) (k + 1) cap') (k + 1) (stL ms k ++ [m.val])) (hgrow : W.grownBy W' (some g)) (hat : g = g' ∨ g' = W.heap.size) :
    ∃ ms', OwnSts base N g' (k + 1) cap' ms' Y W' := by
  refine ⟨fun r => if r < k then ms r else m, ?_, ?_, ?_⟩
  · rw [stL_succ, stL_congr (ms' := ms) (fun j hj => by simp [hj])]
    simpa using hown
  · intro r hr
    have key : ∀ q : Mat, q.Off g → q.In W.heap.size W → q.Off g' := fun q h1 h2 => by
      rcases hat with rfl | rfl
      · exact h1
      · exact h2.off
    by_cases e : r < k
    · simp only [e, if_true]
      exact key _ (h.off r e) (h.each r e).mem
    · simp only [e, if_false]
      exact key _ hoff hm.mem
  · intro r hr
    by_cases e : r < k
    · simp only [e, if_true]
      exact (h.each r e).grownBy hgrow (fun q hq => by cases hq; exact h.off r e)
    · have : r = k := by omega
      subst this
      simp only [Nat.lt_irrefl, if_false]
      exact hm.grownBy hgrow (fun q hq => by cases hq; exact hoff)

/-- What is wrong with a run. -/
def runE (n : Net) (t : Tab) (s : Sched) : Int := if n.turns s = 0 then n.fit t else n.turns s
/-- What Run answers. -/
def RunAns (N lo tn : Nat) (Y : Nat → Nat → Nat → Int) (E : Int) (e : Ending) (W : World) : Prop :=
  (E = 0 → ∃ (g cap : Nat) (ms : Nat → Mat), e = .returned (.tuple #[.slice (some ⟨g, 0, none⟩) (tn + 1) cap, .int .i64 0]) ∧ lo ≤ g ∧ Sts N g (tn + 1) ms Y W) ∧
    (E ≠ 0 → e = .returned (.tuple #[.slice none 0 0, .int .i64 E]))

theorem Net.st_step {n : Net} {s : Sched} {x : Nat → Nat → Int} (h : n.Plays s) {k : Nat} (hk : k < s.tn) (i : Nat) (hi : i < n.N) (j : Nat) :
    n.st s x (k + 1) i j = if s.act k i = true then n.route i j (fun v => n.st s x (((k : Int) + 1 - (s.ages k).Z i v).toNat) v j) else n.st s x k i j := by
  rw [Net.st_succ]
  unfold Net.step
  split
  · exact Net.route_edge fun v hv _ => by
      have := h.age k hk i hi v hv
      show n.hist s x k (s.used k i v) v j = _
      rw [Net.hist_le (by unfold Sched.used; omega)]
      rfl
  · rw [Net.hist_le (Nat.le_refl _)]

end Go.Proofs.Ytjhkadffaephmaa

/-
  async.Run, walked.
-/
namespace Go.Proofs.Ytjhkadffaephmaa
set_option maxRecDepth 100000
open Go.RowKit

set_option maxHeartbeats 4000000 in
theorem run_any (n : NetM) (x : Mat) (s : SchedM) (w : World) (h : n.In w.heap.size w) (hx : x.In w.heap.size w) (hs : s.In w.heap.size w) :
    Calls Try.prog 44 #[n.val, x.val, s.val] w fun e w' => RunAns n.net.N w.heap.size s.tn (n.net.st s.sched x.t.Z) (runE n.net x.t s.sched) e w' ∧ Below w.heap.size w w' := by
  have hB0 : Below w.heap.size w (w.alloc (.cells n.cells 50)) := (Below.refl _ w).alloc (Nat.le_refl _) _
  have b0 := Blk.new w n.cells 50
  obtain ⟨i2, hi2, hx0, hx1, hx2⟩ := info_parts Try.infoState
  have HC := hide (asyncCheck_any n s _ (h.grown hB0) (hs.grown hB0))
  have HF := hide (fun W (hb : Below w.heap.size w W) => netFit_any n x W (h.grown hb) (hx.grown hb))
  have HIs := hide (fun (h0 : n.net.fit x.t = 0) => Net.is_of_fit h0)
  have HCp := hide (fun W (hb : Below w.heap.size w W) (his : n.net.Is x.t) (hN : n.net.N ≤ 100) => copy_any x n.net.N W (hx.grown hb) his.len his.wide hN)
  have HPl := hide (fun (h0 : n.net.turns s.sched = 0) => Net.plays_of h0)
  have HN := hide (fun W (hb : Below w.heap.size w W) => h.grown hb)
  have HS := hide (fun W (hb : Below w.heap.size w W) => hs.grown hb)
  have HTa := hide hs.ta
  have HBh := hide (fun (g k cap : Nat) (ms : Nat → Mat) (t : TurnM) => behind_any n g k cap ms (n.net.st s.sched x.t.Z) t (n.net.st s.sched x.t.Z (k + 1)))
  have Hd : Hid (runE n.net x.t s.sched = if n.net.turns s.sched = 0 then n.net.fit x.t else n.net.turns s.sched) := hide rfl
  generalize htu : n.net.turns s.sched = tu at *
  generalize hfi : n.net.fit x.t = fi at *
  clear h hs hx htu hfi
  simp only [NetM.val, NetM.cells, Mat.val, SchedM.val, TurnM.val, TurnM.cells] at HC HF HCp HBh b0 hB0 ⊢
  go_enter Try.func44, Try.ntmps44
  go_wp2_with fail
  go_at_call 48
  refine HC.out.mono ?_
  rintro e w1 ⟨rfl, hb1⟩
  have hB1 := hB0.trans (hb1.mono hB0.size)
  have b1 := b0.below hb1 b0.lt
  clear HC hB0 b0 hb1
  by_cases ht : tu = 0
  rotate_left
  · have ht' : (tu != 0) = true := by simp [ht]
    have hfin : Hid (runE n.net x.t s.sched = tu) := hide (by rw [Hd.out, if_neg ht])
    have Hne := hide ht
    have HB := hide hB1
    clear ht Hd HPl HIs HF HCp HBh HN HS HTa hB1
    go_wp2
    exact bodyPost_ret (v := .tuple #[.slice none 0 0, .int .i64 tu]) (by simp [results, Try.results44, go_sem]) rfl ⟨by rw [hfin.out]; exact ⟨fun e => absurd e Hne.out, fun _ => rfl⟩, HB.out⟩
  have hp := HPl.out ht
  have Hd2 : Hid (runE n.net x.t s.sched = fi) := hide (by rw [Hd.out, if_pos ht])
  have x0 := b1.cell 0
  have x1 := b1.cell 1
  have x2 := b1.cell 2
  have x3 := b1.cell 3
  have x4 := b1.cell 4
  simp at x0 x1 x2 x3 x4
  have HF1 := hide (HF.out w1 hB1)
  have HB1 := hide hB1
  have HP := hide hp
  subst ht
  clear Hd HPl HF hp hB1
  go_wp2_with fail
  go_at_call 39
  refine HF1.out.mono ?_
  rintro e w2 ⟨rfl, hb2⟩
  have hB2 := HB1.out.trans (hb2.mono HB1.out.size)
  have b2 := b1.below hb2 b1.lt
  clear HF1 HB1 b1 hb2 x0 x1 x2 x3 x4
  by_cases hf : fi = 0
  rotate_left
  · have hf' : (fi != 0) = true := by simp [hf]
    have Hne := hide hf
    have HB := hide hB2
    clear hf HP HIs HCp HBh HN HS HTa hB2
    go_wp2
    exact bodyPost_ret (v := .tuple #[.slice none 0 0, .int .i64 fi]) (by simp [results, Try.results44, go_sem]) rfl ⟨by rw [Hd2.out]; exact ⟨fun e => absurd e Hne.out, fun _ => rfl⟩, HB.out⟩
  obtain ⟨hck, his⟩ := HIs.out hf
  have gd := Net.good_of_check hck
  have lo := gd.lo
  have hi6 := gd.hi
  have hNN : n.net.N ≤ 100 := by unfold Net.N; omega
  have HC1 := hide (HCp.out w2 hB2 his hNN)
  have HB2 := hide hB2
  have HCk := hide hck
  have HIt := hide his
  subst hf
  clear HIs HCp hB2 hck his gd lo hi6 hNN
  go_wp2_with fail
  go_at_call 86
  refine HC1.out.mono ?_
  rintro e w3 ⟨⟨m, rfl, hm⟩, hb3⟩
  have HB3 := hide (HB2.out.trans (hb3.mono HB2.out.size))
  have b3 := b2.below hb3 b2.lt
  have HM := hide (OwnSts.first (N := n.net.N) (Y := n.net.st s.sched x.t.Z) (Fresh.st hm (fun i _ j _ => by rfl)))
  simp only [Mat.val] at HM
  clear HC1 hm hb3 b2 HB2
  go_wp2_with fail
  have hmany := HP.out.many
  have htn : s.tn ≤ 200 := hmany
  have HSt := hide (HP.out.st_state (HIt.out.state))
  clear hmany
  go_loopw [10, 12, 30] (fun v _ q wr => ∃ (k g cap : Nat) (ms : Nat → Mat), k ≤ s.tn ∧ v = .slice (some ⟨g, 0, none⟩) (k + 1) cap ∧ q = .int .i64 k ∧ Hid (OwnSts w3.heap.size n.net.N g (k + 1) cap ms (n.net.st s.sched x.t.Z) wr) ∧ Hid (Below w3.heap.size w3 wr)) (fun _ _ q _ => s.tn - (intOf q).toNat)
  case atStart => exact ⟨0, _, _, _, Nat.zero_le _, rfl, rfl, HM, hide ((Below.refl _ w3).alloc (Nat.le_refl _) _)⟩
  case round =>
    obtain ⟨k, g, cap, ms, hk, rfl, rfl, HO, HB⟩ := hrel
    have hBw := HB3.out.trans (HB.out.mono HB3.out.size)
    by_cases hlt : k < s.tn
    · have hki : (k : Int) < (s.tn : Int) := by omega
      have hta := HTa.out (by omega)
      have hI := HS.out wr hBw
      have c0 := hI.c0 k hlt
      have c1 := hI.c1 k hlt
      rw [Mat.val] at c1
      have bN := b3.below HB.out b3.lt
      have x0 : ∀ o, (wr.alloc o).cell? ⟨w.heap.size, 0, none⟩ = some (.int .i64 n.a.size) := fun o => (bN.alloc o).cell 0
      have x1 : ∀ o, (wr.alloc o).cell? ⟨w.heap.size, 1, none⟩ = some (.slice n.a.B.ga n.a.B.t.len n.a.B.cap) := fun o => (bN.alloc o).cell 1
      have x2 : ∀ o, (wr.alloc o).cell? ⟨w.heap.size, 2, none⟩ = some (.slice n.a.E.ga n.a.E.t.len n.a.E.cap) := fun o => (bN.alloc o).cell 2
      have x3 : ∀ o, (wr.alloc o).cell? ⟨w.heap.size, 3, none⟩ = some (.int .i64 n.nodes) := fun o => (bN.alloc o).cell 3
      have x4 : ∀ o, (wr.alloc o).cell? ⟨w.heap.size, 4, none⟩ = some (.slice n.la n.ln n.lc) := fun o => (bN.alloc o).cell 4
      have hba : Below wr.heap.size wr (wr.alloc (.cells #[.slice (s.turn k).ag (s.turn k).an (s.turn k).ac, .slice (s.turn k).ages.ga (s.turn k).ages.t.len (s.turn k).ages.cap] 123)) := (Below.refl _ wr).alloc (Nat.le_refl _) _
      have hwa := hBw.trans (hba.mono hBw.size)
      have hO := HO.out.grown hba
      have HT1 := hide (HBh.out g k cap ms (s.turn k) _ (HN.out _ hwa) ((hI.each k hlt).grown hba) HCk.out hO.sts (by omega) (HP.out.ok hlt) (fun r hr => HSt.out r (Nat.le_trans (Nat.le_of_lt_succ hr) hk)) (fun i hi j _ => Net.st_step HP.out hlt i hi j))
      have HO1 := hide hO
      have HBa := hide (HB.out.trans (hba.mono HB.out.size))
      clear hba hwa hI bN hBw hO HO
      go_wp2_with fail
      go_at_call 90
      refine HT1.out.mono ?_
      rintro e w4 ⟨⟨q, rfl, hq⟩, hb4⟩
      have hglt := (HO1.out.row.lt g rfl).2
      have hOff : q.Off g := hq.2.2.off hglt
      have HO2 := hide (HO1.out.grown hb4)
      have HB4 := hide (HBa.out.trans (hb4.mono HBa.out.size))
      have HSq := hide (Fresh.st (Y := n.net.st s.sched x.t.Z (k + 1)) hq (fun _ _ _ _ => rfl))
      have HOff := hide hOff
      have hs4 := HB4.out.size
      clear hb4 hq HT1 HBa HO1 c0 c1 x0 x1 x2 x3 x4 hglt hOff
      go_wp2_with (at_builtin; refine wpList_append_lies _ rfl _ _ _ rfl w3.heap.size 22 i2 _ 1 24 Try.underlying68 hi2 hx0 hx1 hx2 rfl (by decide) _ (k + 1) _ rfl (HO2.out.row.alloc _) ⟨w4.heap.size, 0, none⟩ 1 1 [.slice q.ga q.t.len q.cap] rfl rfl ?c1 ?c2 (by decide) ?c3 ?c4 ?c5 _ rfl ?_)
      case c1 => exact World.news_of_block (Blk.new' (by simp))
      case c2 => simp [Value.oneCell']
      case c3 => unfold maxLen; omega
      case c4 => omega
      case c5 => simp; omega
      intro g' cap' w5 hown2 hgrow hat2 hlt2
      have hB5 := hide ((HB4.out.alloc hs4 _).trans (grown_below hgrow (fun g hg => (HO2.out.row.lt g hg).1) (by simp; omega)))
      have hbq : Below w4.heap.size w4 (w4.alloc (.cells #[.slice q.ga q.t.len q.cap] 22)) := (Below.refl _ w4).alloc (Nat.le_refl _) _
      obtain ⟨ms', hms⟩ := (HO2.out.grown hbq).push (HSq.out.grown hbq) HOff.out hown2 hgrow (by simpa [Value.ownBlock] using hat2)
      have HO5 := hide hms
      clear hown2 hgrow hat2 hlt2 hms hbq HO2 HB4 HSq HOff
      go_wp2
      go_roundw
      case rel =>
        first
        | exact ⟨k + 1, _, _, _, by omega, rfl, by go_num, HO5, hB5⟩
        | ((try rw [← hta]); (repeat apply Exists.intro); refine ⟨?_, rfl⟩; exact ⟨k + 1, _, _, _, by omega, rfl, by go_num, HO5, hB5⟩)
      case measure => simp [intOf]; omega
    · have hkn : k = s.tn := by omega
      subst hkn
      have hSts := hide HO.out.sts
      have hg := hide (Nat.le_trans HB3.out.size (HO.out.row.lt g rfl).1)
      have HBf := hide hBw
      clear HO hBw
      go_wp2
      refine bodyPost_ret (v := .tuple #[.slice (some ⟨g, 0, none⟩) (s.tn + 1) cap, .int .i64 0]) (by simp [results, Try.results44, go_sem]) rfl ⟨by rw [Hd2.out]; exact ⟨fun _ => ⟨g, cap, ms, rfl, hg.out, hSts.out⟩, fun e => absurd rfl e⟩, HBf.out⟩

end Go.Proofs.Ytjhkadffaephmaa
