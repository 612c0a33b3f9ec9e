/-
  Our own texts, bundled: a claim holds few files.
-/
import Derived.Test.YtjhkadffaephmabBundleDI
import Derived.Test.YtjhkadffaephmabBundleDJ
import Derived.Laws.EntriesVeiled
/-
  table.walk, table.Walk.
-/
namespace Go.Proofs.Ytjhkadffaephmab
set_option maxRecDepth 100000
open Go.RowKit

def sliceLen : Value → Nat
  | .slice _ l _ => l
  | _ => 0
theorem sliceLen_slice (a : Option Addr) (l c : Nat) : sliceLen (.slice a l c) = l := rfl
theorem owns_len {W : World} {C n : Nat} {v : Value} {xs : List Value} (h : W.ownsRow C 3 1 v n xs) : sliceLen v = n := by
  rcases h.2 with ⟨rfl, h0⟩ | ⟨g, cap, cur, rfl, _⟩
  · exact h0.symm
  · rfl

set_option maxHeartbeats 4000000 in
theorem walk_any (fid : Nat) (cap : Array Value) (N fr fin : Nat) (t : Int → Int) (w : World) (hN6 : N ≤ 6) (hfr : fr < N)
    (ht : ∀ c : Nat, c < N → t c = -1 ∨ (0 ≤ t c ∧ t c < (N : Int)))
    (hcf : ∀ (args : Array Value) (W : World), (callFunc fid args).run Try.prog W = .ok (.enter fid args) W)
    (hat : ∀ (c : Nat) (W : World), c < N → Below w.heap.size w W → Calls Try.prog fid (#[.int .i64 c] ++ cap) W fun e w' => e = .returned (.int .i64 (t c)) ∧ Below W.heap.size W w') :
    Calls Try.prog 122 #[.int .i64 fr, .int .i64 fin, .func (.func fid) #[] cap] w fun e w' => (∃ v, e = .returned (.tuple #[v, .bool (walkOf t fin (N + 1) [] fr).2]) ∧ w'.ownsRow w.heap.size 3 1 v (walkOf t fin (N + 1) [] fr).1.length (intV (walkOf t fin (N + 1) [] fr).1)) ∧ Below w.heap.size w w' := by
  obtain ⟨i1, hi1, hy0, hy1, hy2⟩ := info_parts Try.infoInt
  have hmm := @run_makeMap Try.prog
  have HA := hide hat
  have HT := hide ht
  generalize hres : walkOf t fin (N + 1) [] fr = res at *
  have Hres := hide hres
  have HM0 := hide (MetAt.made w)
  clear hat ht hres
  go_enter Try.func122, Try.ntmps122
  go_wp2_with fail
  go_loopw [8, 10] (fun v s wr => ∃ (out : List Int) (c : Int) (f : Nat), s = .int .i64 c ∧ (c = -1 ∨ (0 ≤ c ∧ c < (N : Int))) ∧ out.length ≤ N ∧ f + out.length = N + 1 ∧ Hid (out.Nodup) ∧ Hid (∀ d ∈ out, 0 ≤ d ∧ d < (N : Int)) ∧ Hid (walkOf t fin f out c = res) ∧ Hid (MetAt out w.heap.size wr) ∧ Hid (wr.ownsRow (w.heap.size + 1) 3 1 v out.length (intV out)) ∧ Hid (Below w.heap.size w wr)) (fun v _ _ => N + 1 - sliceLen v)
  case atStart => exact ⟨[], fr, N + 1, rfl, Or.inr ⟨by omega, by omega⟩, by simp, by simp, hide (by simp), hide (by simp), Hres, HM0, hide (World.ownsRow_nil _ _ _ _), hide ((Below.refl _ _).alloc (Nat.le_refl _) _)⟩
  case round =>
    obtain ⟨out, c, f, rfl, hc, hol, hf, Hnd, Hno, Hwk, HM, HO, HB⟩ := hrel
    obtain ⟨f', rfl⟩ : ∃ f', f = f' + 1 := ⟨f - 1, by omega⟩
    have Hstep : Hid ((if c < 0 ∨ c ∈ out then (out, false) else if c = fin then (out ++ [c], true) else walkOf t fin f' (out ++ [c]) (t c)) = res) := hide Hwk.out
    have hsz := HB.out.size
    have hwlt := HM.out.lt
    by_cases hc1 : c = -1
    · subst hc1
      have Hr : Hid (res = (out, false)) := hide (by rw [← Hstep.out, if_pos (Or.inl (by omega))])
      have HO' : Hid (wr.ownsRow w.heap.size 3 1 u8 res.1.length (intV res.1)) := hide (by rw [Hr.out]; exact Go.Joins.ownsRow_le HO.out (by omega))
      clear Hstep Hwk HM HO hc
      go_wp2
      exact bodyPost_ret (v := .tuple #[u8, .bool false]) (by simp [results, Try.results122, go_sem]) rfl ⟨⟨u8, by rw [Hr.out], HO'.out⟩, HB.out⟩
    · have hc2 : 0 ≤ c ∧ c < (N : Int) := hc.resolve_left hc1
      obtain ⟨cn, rfl⟩ : ∃ cn : Nat, c = cn := ⟨c.toNat, by omega⟩
      have hcN : cn < N := by omega
      have hlk := HM.out.look (c := cn) (by omega) (by omega)
      have hc1' : ((cn : Int) != -1) = true := by simp
      clear hc hc1 hc2
      by_cases hm : (cn : Int) ∈ out
      · rw [if_pos hm] at hlk
        have Hr : Hid (res = (out, false)) := hide (by rw [← Hstep.out, if_pos (Or.inr hm)])
        have HO' : Hid (wr.ownsRow w.heap.size 3 1 u8 res.1.length (intV res.1)) := hide (by rw [Hr.out]; exact Go.Joins.ownsRow_le HO.out (by omega))
        clear Hstep Hwk HM HO hm
        go_wp2
        exact bodyPost_ret (v := .tuple #[u8, .bool false]) (by simp [results, Try.results122, go_sem]) rfl ⟨⟨u8, by rw [Hr.out], HO'.out⟩, HB.out⟩
      · rw [if_neg hm] at hlk
        obtain ⟨es, clock, hupd, hm2, hg2⟩ := HM.out.up (c := cn) (by omega) (by omega)
        obtain ⟨W2, hW2⟩ : ∃ W2, W2 = ChangeMaps.setBlock wr w.heap.size (.map es clock) := ⟨_, rfl⟩
        rw [← hW2] at hm2 hg2 hupd
        have HO2 := hide (HO.out.kept hg2 (by
          cases hv : u8.ownBlock with
          | none => exact Or.inl rfl
          | some g => exact Or.inr (fun e => by have := (HO.out.lt g hv).1; cases e; omega)))
        have HB2 : Hid (Below w.heap.size w W2) := hide (HB.out.grown hg2 hsz (fun j hj => by cases hj; exact Nat.le_refl _))
        have hs2 : w.heap.size < W2.heap.size := by have := hg2.size; omega
        have hnd : (out ++ [(cn : Int)]).Nodup := by
          rw [List.nodup_append]
          exact ⟨Hnd.out, by simp, fun a ha b hb e => by rw [List.mem_singleton] at hb; subst e hb; exact hm ha⟩
        have hno : ∀ d ∈ out ++ [(cn : Int)], 0 ≤ d ∧ d < (N : Int) := fun d hd => by
          rcases List.mem_append.1 hd with e | e
          · exact Hno.out d e
          · rw [List.mem_singleton] at e; omega
        have hln := nodup_len N _ hnd hno
        have HMc : Hid (MetAt (out ++ [(cn : Int)]) w.heap.size W2) := hide (by
          obtain ⟨ks, cnt, e1, e2, hC, he⟩ := hm2
          exact ⟨ks, cnt, e1, e2, hC, fun d => by rw [he d]; simp [or_comm]⟩)
        have Hs2 : Hid ((if (cn : Int) = fin then (out ++ [(cn : Int)], true) else walkOf t fin f' (out ++ [(cn : Int)]) (t cn)) = res) := hide (by
          have := Hstep.out
          rw [if_neg (fun h => h.elim (fun h => by omega) hm)] at this
          exact this)
        have Hnd2 := hide hnd
        have Hno2 := hide hno
        have Hml := owns_len HO.out
        have hll : (out ++ [(cn : Int)]).length = out.length + 1 := by simp
        have Hiv : Hid (intV (out ++ [(cn : Int)]) = intV out ++ [.int .i64 (cn : Int)]) := hide (by simp [intV])
        rw [hll] at hln
        generalize hol' : out.length = len at *
        clear hm hm2 hg2 hW2 Hstep Hwk HM HO Hnd Hno HB hnd hno
        go_wp2_with (at_builtin; refine wpList_append_lies _ rfl _ _ _ rfl (w.heap.size + 1) 3 i1 _ 1 8 Try.underlying22 hi1 hy0 hy1 hy2 rfl (by decide) _ len _ rfl (HO2.out.alloc _) ⟨W2.heap.size, 0, none⟩ 1 1 [.int .i64 (cn : Int)] rfl rfl ?c1 ?c2 (by decide) ?c3 ?c4 ?c5 _ rfl ?_)
        all_goals try (case c1 => exact World.news_of_block (Blk.new' (by simp)))
        all_goals try (case c2 => simp [Value.oneCell'])
        all_goals try (case c3 => unfold maxLen; omega)
        all_goals try (case c4 => omega)
        all_goals try (case c5 => simp; omega)
        intro g' cap' w4 hown2 hgrow hat2 hlt2
        have hgr4 : (W2.alloc (.cells #[.int .i64 (cn : Int)] 3)).grownBy w4 u8.ownBlock := hgrow
        have hr0 : ∀ g, u8.ownBlock = some g → w.heap.size + 1 ≤ g := fun g hg => (HO2.out.lt g hg).1
        have HB4 := hide ((HB2.out.alloc HB2.out.size (.cells #[.int .i64 (cn : Int)] 3)).trans (grown_below hgrow (fun g hg => by have := hr0 g hg; omega) (by simp; omega)))
        have HO4 : Hid (w4.ownsRow (w.heap.size + 1) 3 1 (.slice (some ⟨g', 0, none⟩) (len + 1) cap') (out ++ [(cn : Int)]).length (intV (out ++ [(cn : Int)]))) := hide (by rw [hll, Hiv.out]; exact hown2)
        have HM4 : Hid (MetAt (out ++ [(cn : Int)]) w.heap.size w4) := hide ((HMc.out.alloc (.cells #[.int .i64 (cn : Int)] 3)).keep (hgr4.block w.heap.size (by simp; omega) (fun e => by have := hr0 _ e.symm; omega)))
        clear hown2 hgrow hat2 hlt2 hgr4 hr0 HB2 HO2 HMc Hiv
        by_cases hfin : (cn : Int) = fin
        · have hfin' : ((cn : Int) == (fin : Int)) = true := by simp [hfin]
          have Hr : Hid (res = (out ++ [(cn : Int)], true)) := hide (by rw [← Hs2.out, if_pos hfin])
          have HO' : Hid (w4.ownsRow w.heap.size 3 1 (.slice (some ⟨g', 0, none⟩) (len + 1) cap') res.1.length (intV res.1)) := hide (by rw [Hr.out]; exact Go.Joins.ownsRow_le HO4.out (by omega))
          clear hfin Hs2 HO4 HM4
          go_wp2
          exact bodyPost_ret (v := .tuple #[.slice (some ⟨g', 0, none⟩) (len + 1) cap', .bool true]) (by simp [results, Try.results122, go_sem]) rfl ⟨⟨_, by rw [Hr.out], HO'.out⟩, HB4.out⟩
        · have hfin' : ((cn : Int) == (fin : Int)) = false := by simp [hfin]
          have Hr : Hid (walkOf t fin f' (out ++ [(cn : Int)]) (t cn) = res) := hide (by rw [← Hs2.out, if_neg hfin])
          have HC := hide (HA.out cn w4 hcN HB4.out)
          have htc := HT.out cn hcN
          clear hfin Hs2
          go_wp2_with fail
          refine HC.out.mono ?_
          rintro e w5 ⟨rfl, hb5⟩
          have HB5 := hide (HB4.out.trans (hb5.mono HB4.out.size))
          have HO5 := hide (owns_below HO4.out hb5)
          have HM5 : Hid (MetAt (out ++ [(cn : Int)]) w.heap.size w5) := hide (HM4.out.keep (hb5.block w.heap.size HM4.out.lt))
          clear hb5 HC HB4 HO4 HM4
          go_wp2
          go_roundw
          case rel =>
            first
            | exact ⟨out ++ [(cn : Int)], t cn, f', rfl, htc, by omega, by omega, Hnd2, Hno2, Hr, HM5, HO5, HB5⟩
            | ((repeat apply Exists.intro); refine ⟨?_, rfl⟩; exact ⟨out ++ [(cn : Int)], t cn, f', rfl, htc, by omega, by omega, Hnd2, Hno2, Hr, HM5, HO5, HB5⟩)
          case measure => simp [sliceLen_slice, Hml]; omega

end Go.Proofs.Ytjhkadffaephmab

/-
  table.Walk.
-/
namespace Go.Proofs.Ytjhkadffaephmab
set_option maxRecDepth 100000
open Go.RowKit

def strayB (k N : Int) : Bool := k != -1 && !(decide (0 ≤ k) && decide (k < N))
def Tab.stray (t : Tab) (N : Int) : Bool := (List.range t.len).any fun r => (List.range (t.L r)).any fun c => strayB (t.Z r c) N
def Net.tabErr (n : Net) (t : Tab) : Int := if n.check ≠ 0 then n.check else if (t.len : Int) ≠ n.nodes ∨ t.wide n.nodes = false then 1 else if t.stray n.nodes = true then 5 else 0
def Net.walkErr (n : Net) (t : Tab) (a b : Int) : Int := if n.tabErr t ≠ 0 then n.tabErr t else if n.areTwo a b = false then 5 else 0

theorem calls_walk1 (args : Array Value) (W : World) : (callFunc 119 args).run Try.prog W = .ok (.enter 119 args) W := by rfl
theorem calls_walk2 (args : Array Value) (W : World) : (callFunc 121 args).run Try.prog W = .ok (.enter 121 args) W := by rfl
theorem calls_walk3 (args : Array Value) (W : World) : (callFunc 123 args).run Try.prog W = .ok (.enter 123 args) W := by rfl

set_option maxHeartbeats 1000000 in
theorem walk1_any (n : NetM) (k : Int) (bn : Nat) (w : World) (hb : Blk w bn n.cells 41) :
    Calls Try.prog 119 #[.int .i64 k, .pointer (some ⟨bn, 0, none⟩)] w fun e w' => e = .returned (.bool (strayB k n.nodes)) ∧ w' = w := by
  have x3 := hb.cell 3
  simp [NetM.cells] at x3
  have HS := hide (sbelow_any k n.nodes w)
  clear hb
  by_cases hk : k = -1
  · subst hk
    have Hr : Hid (strayB (-1) n.nodes = false) := hide rfl
    go_enter Try.func119, Try.ntmps119
    go_wp2
    go_ret
    exact ⟨by rw [Hr.out]; rfl, rfl⟩
  · have hk' : (k != -1) = true := by simp [hk]
    have Hr : Hid (strayB k n.nodes = !(decide (0 ≤ k) && decide (k < n.nodes))) := hide (by unfold strayB; rw [hk']; rfl)
    generalize (decide (0 ≤ k) && decide (k < n.nodes)) = v at *
    clear hk
    go_enter Try.func119, Try.ntmps119
    go_wp2_with fail
    go_at_call 94
    refine HS.out.mono ?_
    rintro e w1 ⟨rfl, rfl⟩
    go_wp2
    go_ret
    exact ⟨by rw [Hr.out]; rfl, rfl⟩

set_option maxHeartbeats 1000000 in
theorem walk2_any (n : NetM) (a : Option Addr) (l q b o bn bf : Nat) (f : Nat → Int) (w : World) (h : Ints a l b o f w) (hb : 0 < l → b < w.heap.size) (hn : Blk w bn n.cells 41) (hf : w.cell? ⟨bf, 0, none⟩ = some (.func (.func 119) #[] #[.pointer (some ⟨bn, 0, none⟩)])) :
    Calls Try.prog 121 #[.slice a l q, .pointer (some ⟨bf, 0, none⟩)] w fun e w' => e = .returned (.bool ((List.range l).any fun c => strayB (f c) n.nodes)) ∧ Below w.heap.size w w' := by
  have HC := hide (containsFunc_ints 119 #[.pointer (some ⟨bn, 0, none⟩)] a l q b o f (fun c => strayB (f c) n.nodes) w h hb calls_walk1 (fun i W hi hB => by
    refine (walk1_any n (f i) bn W (hn.below hB hn.lt)).mono ?_
    rintro e w' ⟨rfl, rfl⟩
    exact ⟨rfl, Below.refl _ _⟩))
  generalize ((List.range l).any fun c => strayB (f c) n.nodes) = v at *
  clear h hb hn
  go_enter Try.func121, Try.ntmps121
  go_wp2_with fail
  go_at_call 66
  refine HC.out.mono ?_
  rintro e w1 ⟨rfl, hb1⟩
  have HB := hide hb1
  clear hb1 HC
  go_wp2
  go_ret
  exact ⟨rfl, HB.out⟩

set_option maxHeartbeats 1000000 in
theorem walk3_any (x : Mat) (k bt bf c j : Nat) (W : World) (hx : x.In k W) (hb : W.cell? ⟨bt, 0, none⟩ = some x.val) (hf : W.cell? ⟨bf, 0, none⟩ = some (.int .i64 j)) (hv : c < x.t.len) (hj : j < x.t.L c) :
    Calls Try.prog 123 #[.int .i64 c, .pointer (some ⟨bt, 0, none⟩), .pointer (some ⟨bf, 0, none⟩)] W fun e w' => e = .returned (.int .i64 (x.t.Z c j)) ∧ Below W.heap.size W w' := by
  obtain ⟨a1, a2, a3⟩ := hx.at hv hj
  rw [Mat.val, a1] at hb
  have hvi : (c : Int) < (x.t.len : Int) := by omega
  have hji : (j : Int) < (x.t.L c : Int) := by omega
  clear hx a1
  go_enter Try.func123, Try.ntmps123
  go_wp2
  go_region
  all_goals
    go_wp2
    go_ret
    exact ⟨rfl, below_drewN (Below.refl _ _) 1⟩

/-- The boxes of Walk: the net, the table, the end. -/
def walkW (n : NetM) (t : Mat) (b : Int) (w : World) : World := ((w.alloc (.cells n.cells 41)).alloc (.cells #[t.val] 36)).alloc (.cells #[.int .i64 b] 3)

set_option maxHeartbeats 4000000 in
theorem tableWalk_bad (n : NetM) (t : Mat) (a b : Int) (w : World) (h : n.In w.heap.size w) (ht : t.In w.heap.size w) (he : n.net.walkErr t.t a b ≠ 0) :
    Calls Try.prog 51 #[n.val, t.val, .int .i64 a, .int .i64 b] w fun e w' => e = .returned (.tuple #[.slice none 0 0, .bool false, .int .i64 (n.net.walkErr t.t a b)]) ∧ Below w.heap.size w w' := by
  obtain ⟨W1, hW1⟩ : ∃ W1, W1 = walkW n t b w := ⟨_, rfl⟩
  have hB1 : Below w.heap.size w W1 := by rw [hW1]; exact (((Below.refl _ w).alloc (Nat.le_refl _) _).alloc (by simp) _).alloc (by simp; omega) _
  have bn : Blk W1 w.heap.size n.cells 41 := by rw [hW1]; exact ((Blk.new w _ _).alloc _).alloc _
  have bt : Blk W1 (w.heap.size + 1) #[t.val] 36 := by rw [hW1]; exact (Blk.new' (by simp)).alloc _
  have bb : Blk W1 (w.heap.size + 2) #[.int .i64 b] 3 := by rw [hW1]; exact Blk.new' (by simp)
  have HC := hide (netCheck_any n W1 (h.grown hB1))
  have HSq := hide (fun (W : World) (hW : Below w.heap.size w W) => square_any t n.nodes W (ht.grown hW))
  have HCF := hide (fun (W : World) (hW : Below W1.heap.size W1 W) (bf : Nat) (hf : Blk W bf #[.func (.func 119) #[] #[.pointer (some ⟨w.heap.size, 0, none⟩)]] 117) => containsFunc_rows 121 #[.pointer (some ⟨bf, 0, none⟩)] t (fun r => (List.range (t.t.L r)).any fun c => strayB (t.t.Z r c) n.nodes) W ((ht.grown hB1).grown hW) calls_walk2 (fun i W' hi hB => by
    have hB' := hW.trans (hB.mono hW.size)
    have hI := (ht.grown hB1).grown hB'
    exact walk2_any n (t.A i) (t.t.L i) (t.C i) (t.RB i) (t.RO i) w.heap.size bf (t.t.Z i) W' (hI.ints hi) (fun h0 => (hI.addr i hi h0).2) (bn.below hB' bn.lt) (by have := (hf.below hB hf.lt).cell 0; simpa using this)))
  have e2 : ((List.range t.t.len).any fun r => (List.range (t.t.L r)).any fun c => strayB (t.t.Z r c) n.nodes) = t.t.stray n.nodes := rfl
  rw [e2] at HCF
  have HAN := hide (fun (W : World) => areNodes_any n (some ⟨W.heap.size, 0, none⟩) 2 2 W.heap.size 0 (fun i => if i = 0 then a else b) (W.alloc (.cells #[.int .i64 a, .int .i64 b] 3)) ⟨fun _ => rfl, fun i hi => by
      rcases (show i = 0 ∨ i = 1 by omega) with e | e <;> subst e <;> simp, by unfold maxLen; omega⟩ (fun _ => by simp))
  have e3 : rowIn 2 (fun i => if i = 0 then a else b) n.nodes = n.net.areTwo a b := rowIn_two a b n.nodes
  rw [e3] at HAN
  have HB1 := hide hB1
  have Hbn := hide bn
  have Hbt := hide bt
  have Hbb := hide bb
  have Hd1 : Hid (n.net.tabErr t.t = if n.net.check ≠ 0 then n.net.check else if (t.t.len : Int) ≠ n.nodes ∨ t.t.wide n.nodes = false then 1 else if t.t.stray n.nodes = true then 5 else 0) := hide rfl
  have Hd2 : Hid (n.net.walkErr t.t a b = if n.net.tabErr t.t ≠ 0 then n.net.tabErr t.t else if n.net.areTwo a b = false then 5 else 0) := hide rfl
  generalize n.net.check = ck at *
  generalize t.t.stray n.nodes = sv at *
  generalize n.net.areTwo a b = av at *
  rw [hW1] at HC
  simp only [NetM.val, NetM.cells, Mat.val, walkW] at HC HSq HAN hW1 ⊢
  clear h ht e2 e3 hB1 bn bt bb
  go_enter Try.func51, Try.ntmps51
  go_wp2_with fail
  go_at_call 70
  refine HC.out.mono ?_
  rintro e w1 ⟨rfl, hb1⟩
  rw [← hW1] at hb1
  have bn := Hbn.out.below hb1 Hbn.out.lt
  have bt := Hbt.out.below hb1 Hbt.out.lt
  have x3 := bn.cell 3
  have y0 := bt.cell 0
  simp [NetM.cells, Mat.val] at x3 y0
  have hBw := HB1.out.trans (hb1.mono HB1.out.size)
  have HS1 := hide (HSq.out w1 hBw)
  have HBa := hide hb1
  have HBw := hide hBw
  clear hb1 bn bt hBw HC HSq hW1
  by_cases hc : ck = 0
  rotate_left
  · have He : Hid (n.net.walkErr t.t a b = ck) := hide (by rw [Hd2.out, Hd1.out, if_pos hc, if_pos hc])
    have hc' : (ck != 0) = true := by simp [hc]
    clear hc Hd1 Hd2 he HS1
    go_wp2
    exact bodyPost_ret (v := .tuple #[.slice none 0 0, .bool false, .int .i64 ck]) (by simp [results, Try.results51, go_sem]) rfl ⟨by rw [He.out], HBw.out⟩
  subst hc
  go_wp2_with fail
  go_at_call 118
  refine HS1.out.mono ?_
  rintro e w2 ⟨rfl, hb2⟩
  have hb2' := HBa.out.trans (hb2.mono HBa.out.size)
  have HBw2 := hide (HB1.out.trans (hb2'.mono HB1.out.size))
  by_cases hsq : (((t.t.len : Int) == n.nodes) && t.t.wide n.nodes) = true
  rotate_left
  · have hsq' : (((t.t.len : Int) == n.nodes) && t.t.wide n.nodes) = false := by simpa using hsq
    have hor : (t.t.len : Int) ≠ n.nodes ∨ t.t.wide n.nodes = false := by
      rcases Bool.and_eq_false_iff.1 hsq' with e | e
      · exact Or.inl (by simpa using e)
      · exact Or.inr e
    have He1 : n.net.tabErr t.t = 1 := by rw [Hd1.out, if_neg (by simp), if_pos hor]
    have He : Hid (n.net.walkErr t.t a b = 1) := hide (by rw [Hd2.out, He1]; rfl)
    rw [hsq']
    clear hsq hsq' hor He1 Hd1 Hd2 he HS1 hb2 hb2' HCF
    go_wp2
    exact bodyPost_ret (v := .tuple #[.slice none 0 0, .bool false, .int .i64 1]) (by simp [results, Try.results51, go_sem]) rfl ⟨by rw [He.out], HBw2.out⟩
  have hno : ¬ ((t.t.len : Int) ≠ n.nodes ∨ t.t.wide n.nodes = false) := by
    rw [Bool.and_eq_true, beq_iff_eq] at hsq
    rw [hsq.2]; simp [hsq.1]
  have Hd3 : Hid (n.net.tabErr t.t = if sv = true then 5 else 0) := hide (by rw [Hd1.out, if_neg (by simp), if_neg hno])
  rw [hsq]
  have hb3 := hb2'.alloc hb2'.size (.cells #[.func (.func 119) #[] #[.pointer (some ⟨w.heap.size, 0, none⟩)]] 117)
  have bt := Hbt.out.below hb3 Hbt.out.lt
  have y0 := bt.cell 0
  simp [Mat.val] at y0
  have HF1 := hide (HCF.out _ hb3 w2.heap.size (Blk.new w2 _ _))
  have HBb := hide hb3
  simp only [Mat.val] at HF1
  clear hb2 hb2' hb3 bt HS1 HBa x3 hsq hno Hd1 HCF
  go_wp2_with fail
  go_at_call 120
  refine HF1.out.mono ?_
  rintro e w3 ⟨rfl, hb4⟩
  have hb4' := HBb.out.trans (hb4.mono HBb.out.size)
  have HBw3 := hide (HB1.out.trans (hb4'.mono HB1.out.size))
  cases sv with
  | true =>
    have He : Hid (n.net.walkErr t.t a b = 5) := hide (by rw [Hd2.out, Hd3.out]; rfl)
    clear Hd2 Hd3 he HF1 hb4 hb4' HAN
    go_wp2
    exact bodyPost_ret (v := .tuple #[.slice none 0 0, .bool false, .int .i64 5]) (by simp [results, Try.results51, go_sem]) rfl ⟨by rw [He.out], HBw3.out⟩
  | false =>
    have hav : av = false := by
      cases av with
      | false => rfl
      | true =>
        exfalso
        apply he
        rw [Hd2.out, Hd3.out]
        rfl
    subst hav
    have He : Hid (n.net.walkErr t.t a b = 5) := hide (by rw [Hd2.out, Hd3.out]; rfl)
    have bn := Hbn.out.below hb4' Hbn.out.lt
    have bb := Hbb.out.below hb4' Hbb.out.lt
    have x0 := bn.cell 0
    have x1 := bn.cell 1
    have x2 := bn.cell 2
    have x3 := bn.cell 3
    have x4 := bn.cell 4
    have z0 := bb.cell 0
    simp [NetM.cells, Mat.val] at x0 x1 x2 x3 x4 z0
    have HA1 := hide (HAN.out w3)
    clear hb4 hb4' bn bb HF1 HBb HAN Hd2 Hd3 he
    go_wp2_with fail
    go_at_call 111
    refine HA1.out.mono ?_
    rintro e w4 ⟨rfl, hb5⟩
    have hbx := HBw3.out.alloc HBw3.out.size (.cells #[.int .i64 a, .int .i64 b] 3)
    have HBd := hide (hbx.trans (hb5.mono hbx.size))
    clear hb5 hbx HA1 x0 x1 x2 x3 x4
    go_wp2
    exact bodyPost_ret (v := .tuple #[.slice none 0 0, .bool false, .int .i64 5]) (by simp [results, Try.results51, go_sem]) rfl ⟨by rw [He.out], HBd.out⟩

set_option maxHeartbeats 4000000 in
theorem tableWalk_ok (n : NetM) (t : Mat) (N a b : Nat) (w : World) (h : n.In w.heap.size w) (ht : t.In w.heap.size w) (hN : n.nodes = N) (ha : a < N) (hb : b < N) (he : n.net.tabErr t.t = 0) :
    Calls Try.prog 51 #[n.val, t.val, .int .i64 a, .int .i64 b] w fun e w' => (∃ v, e = .returned (.tuple #[v, .bool (walkOf (fun c => t.t.Z c.toNat b) b (N + 1) [] a).2, .int .i64 0]) ∧ w'.ownsRow w.heap.size 3 1 v (walkOf (fun c => t.t.Z c.toNat b) b (N + 1) [] a).1.length (intV (walkOf (fun c => t.t.Z c.toNat b) b (N + 1) [] a).1)) ∧ Below w.heap.size w w' := by
  have hck : n.net.check = 0 := by
    apply Classical.byContradiction
    intro hc
    unfold Net.tabErr at he
    rw [if_pos hc] at he
    exact hc he
  have g := Net.good_of_check hck
  have hi6 := g.hi
  have hnn : n.net.nodes = n.nodes := rfl
  have hN6 : N ≤ 6 := by omega
  have he1 : ¬ ((t.t.len : Int) ≠ n.net.nodes ∨ t.t.wide n.net.nodes = false) := fun hc => by
    unfold Net.tabErr at he
    rw [if_neg (by simp [hck]), if_pos hc] at he
    cases he
  have he2 : t.t.stray n.net.nodes = false := by
    cases e : t.t.stray n.net.nodes with
    | false => rfl
    | true =>
      unfold Net.tabErr at he
      rw [if_neg (by simp [hck]), if_neg he1, if_pos e] at he
      cases he
  have hlen : t.t.len = N := by
    have : (t.t.len : Int) = n.net.nodes := Classical.byContradiction fun e => he1 (Or.inl e)
    omega
  have hw : t.t.wide n.net.nodes = true := by
    cases e : t.t.wide n.net.nodes with
    | true => rfl
    | false => exact absurd (Or.inr e) he1
  have hwide : ∀ r, r < N → t.t.L r = N := fun r hr => by
    have := (t.t.wide_iff n.net.nodes).1 hw r (by omega)
    omega
  have hent : ∀ c : Nat, c < N → t.t.Z c b = -1 ∨ (0 ≤ t.t.Z c b ∧ t.t.Z c b < (N : Int)) := fun c hc => by
    have h1 := (List.any_eq_false.1 he2) c (by simp; omega)
    rw [Bool.not_eq_true] at h1
    have h2 := (List.any_eq_false.1 h1) b (by rw [hwide c hc]; simpa using hb)
    unfold strayB at h2
    simp only [Bool.and_eq_true, bne_iff_ne, Bool.not_eq_true', Bool.and_eq_false_iff, decide_eq_false_iff_not, not_and] at h2
    by_cases e : t.t.Z c b = -1
    · exact Or.inl e
    · right
      have := h2 e
      omega
  obtain ⟨W1, hW1⟩ : ∃ W1, W1 = walkW n t b w := ⟨_, rfl⟩
  have hB1 : Below w.heap.size w W1 := by rw [hW1]; exact (((Below.refl _ w).alloc (Nat.le_refl _) _).alloc (by simp) _).alloc (by simp; omega) _
  have bn : Blk W1 w.heap.size n.cells 41 := by rw [hW1]; exact ((Blk.new w _ _).alloc _).alloc _
  have bt : Blk W1 (w.heap.size + 1) #[t.val] 36 := by rw [hW1]; exact (Blk.new' (by simp)).alloc _
  have bb : Blk W1 (w.heap.size + 2) #[.int .i64 (b : Int)] 3 := by rw [hW1]; exact Blk.new' (by simp)
  have HC := hide (netCheck_any n W1 (h.grown hB1))
  rw [hck] at HC
  have HSq := hide (fun (W : World) (hW : Below w.heap.size w W) => square_any t n.nodes W (ht.grown hW))
  have e1 : (((t.t.len : Int) == n.nodes) && t.t.wide n.nodes) = true := by
    rw [show t.t.wide n.nodes = true from hw]
    simp; omega
  rw [e1] at HSq
  have HCF := hide (fun (W : World) (hW : Below W1.heap.size W1 W) (bf : Nat) (hf : Blk W bf #[.func (.func 119) #[] #[.pointer (some ⟨w.heap.size, 0, none⟩)]] 117) => containsFunc_rows 121 #[.pointer (some ⟨bf, 0, none⟩)] t (fun r => (List.range (t.t.L r)).any fun c => strayB (t.t.Z r c) n.nodes) W ((ht.grown hB1).grown hW) calls_walk2 (fun i W' hi hB => by
    have hB' := hW.trans (hB.mono hW.size)
    have hI := (ht.grown hB1).grown hB'
    exact walk2_any n (t.A i) (t.t.L i) (t.C i) (t.RB i) (t.RO i) w.heap.size bf (t.t.Z i) W' (hI.ints hi) (fun h0 => (hI.addr i hi h0).2) (bn.below hB' bn.lt) (by have := (hf.below hB hf.lt).cell 0; simpa using this)))
  have e2 : ((List.range t.t.len).any fun r => (List.range (t.t.L r)).any fun c => strayB (t.t.Z r c) n.nodes) = false := he2
  rw [e2] at HCF
  have HAN := hide (fun (W : World) => areNodes_any n (some ⟨W.heap.size, 0, none⟩) 2 2 W.heap.size 0 (fun i => if i = 0 then (a : Int) else b) (W.alloc (.cells #[.int .i64 (a : Int), .int .i64 (b : Int)] 3)) ⟨fun _ => rfl, fun i hi => by
      rcases (show i = 0 ∨ i = 1 by omega) with e | e <;> subst e <;> simp, by unfold maxLen; omega⟩ (fun _ => by simp))
  have hyes : rowIn 2 (fun i => if i = 0 then (a : Int) else b) n.nodes = true := by rw [rowIn_two, hN]; simp; omega
  rw [hyes] at HAN
  have HWk := hide (fun (W : World) (hW : Below W1.heap.size W1 W) => walk_any 123 #[.pointer (some ⟨w.heap.size + 1, 0, none⟩), .pointer (some ⟨w.heap.size + 2, 0, none⟩)] N a b (fun c => t.t.Z c.toNat b) W hN6 ha (fun c hc => by rw [Int.toNat_natCast]; exact hent c hc) calls_walk3 (fun c W' hc hB => by
    have hB' := hW.trans (hB.mono hW.size)
    rw [Int.toNat_natCast]
    exact walk3_any t W'.heap.size (w.heap.size + 1) (w.heap.size + 2) c b W' ((ht.grown hB1).grown hB') (by have := (bt.below hB' bt.lt).cell 0; simpa using this) (by have := (bb.below hB' bb.lt).cell 0; simpa using this) (by omega) (by rw [hwide c hc]; exact hb)))
  have HB1 := hide hB1
  have Hbn := hide bn
  have Hbt := hide bt
  have Hbb := hide bb
  have hcells : n.cells = #[.int .i64 n.a.size, .slice n.a.B.ga n.a.B.t.len n.a.B.cap, .slice n.a.E.ga n.a.E.t.len n.a.E.cap, .int .i64 N, .slice n.la n.ln n.lc] := by simp only [NetM.cells, Mat.val, hN]
  rw [hW1] at HC
  simp only [NetM.val, hcells, Mat.val, walkW, hN] at HC HSq HAN hW1 ⊢
  have Hcells := hide hcells
  generalize walkOf (fun c => t.t.Z c.toNat b) b (N + 1) [] a = res at *
  clear he hck g hi6 hnn he1 he2 hlen hw hwide hent h ht e1 e2 hyes hB1 bn bt bb hcells hN
  go_enter Try.func51, Try.ntmps51
  go_wp2_with fail
  go_at_call 70
  refine HC.out.mono ?_
  rintro e w1 ⟨rfl, hb1⟩
  rw [← hW1] at hb1
  have bn := Hbn.out.below hb1 Hbn.out.lt
  have bt := Hbt.out.below hb1 Hbt.out.lt
  have x3 := bn.cell 3
  have y0 := bt.cell 0
  simp [Hcells.out, Mat.val] at x3 y0
  have hBw := HB1.out.trans (hb1.mono HB1.out.size)
  have HS1 := hide (HSq.out w1 hBw)
  have HBa := hide hb1
  clear hb1 bn bt hBw HC HSq hW1
  go_wp2_with fail
  go_at_call 118
  refine HS1.out.mono ?_
  rintro e w2 ⟨rfl, hb2⟩
  have hb2' := HBa.out.trans (hb2.mono HBa.out.size)
  have hb3 := hb2'.alloc hb2'.size (.cells #[.func (.func 119) #[] #[.pointer (some ⟨w.heap.size, 0, none⟩)]] 117)
  have bt := Hbt.out.below hb3 Hbt.out.lt
  have y0 := bt.cell 0
  simp [Mat.val] at y0
  have HF1 := hide (HCF.out _ hb3 w2.heap.size (Blk.new w2 _ _))
  have HBb := hide hb3
  simp only [Mat.val] at HF1
  clear hb2 hb2' hb3 bt HS1 HBa x3
  go_wp2_with fail
  go_at_call 120
  refine HF1.out.mono ?_
  rintro e w3 ⟨rfl, hb4⟩
  have hb4' := HBb.out.trans (hb4.mono HBb.out.size)
  have bn := Hbn.out.below hb4' Hbn.out.lt
  have bb := Hbb.out.below hb4' Hbb.out.lt
  have x0 := bn.cell 0
  have x1 := bn.cell 1
  have x2 := bn.cell 2
  have x3 := bn.cell 3
  have x4 := bn.cell 4
  have z0 := bb.cell 0
  simp [Hcells.out] at x0 x1 x2 x3 x4 z0
  have HA1 := hide (HAN.out w3)
  have HBc := hide hb4'
  clear hb4 hb4' bn bb HF1 HBb HAN
  go_wp2_with fail
  go_at_call 111
  refine HA1.out.mono ?_
  rintro e w4 ⟨rfl, hb5⟩
  have hbx := HBc.out.alloc HBc.out.size (.cells #[.int .i64 (a : Int), .int .i64 (b : Int)] 3)
  have hb5' := hbx.trans (hb5.mono hbx.size)
  have bb := Hbb.out.below hb5' Hbb.out.lt
  have z0 := bb.cell 0
  simp at z0
  have HW4 := hide (HWk.out w4 hb5')
  have HBd := hide hb5'
  have hsz := hb5'.size
  clear hb5 hb5' hbx bb HA1 HBc HWk x0 x1 x2 x3 x4
  go_wp2_with fail
  go_at_call 122
  refine HW4.out.mono ?_
  rintro e w5 ⟨⟨v, rfl, hv⟩, hb6⟩
  have hb6' := HBd.out.trans (hb6.mono HBd.out.size)
  have HBe := hide (HB1.out.trans (hb6'.mono HB1.out.size))
  have HV : Hid (w5.ownsRow w.heap.size 3 1 v res.1.length (intV res.1)) := hide (Go.Joins.ownsRow_le hv (Nat.le_trans HB1.out.size hsz))
  clear hv hb6 hb6' HW4
  go_wp2
  exact bodyPost_ret (v := .tuple #[v, .bool res.2, .int .i64 0]) (by simp [results, Try.results51, go_sem]) rfl ⟨⟨v, rfl, HV.out⟩, HBe.out⟩

end Go.Proofs.Ytjhkadffaephmab
