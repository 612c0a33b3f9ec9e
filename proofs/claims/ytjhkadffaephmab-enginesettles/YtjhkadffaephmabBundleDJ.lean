/-
  Our own texts, bundled: a claim holds few files.
-/
import Derived.Test.YtjhkadffaephmabBundleDH
import Derived.Test.YtjhkadffaephmabBundleCA
import Derived.Test.YtjhkadffaephmabBundleAJ
import Derived.Test.YtjhkadffaephmabBundleBG
import Derived.Test.YtjhkadffaephmabBundleBI
import Derived.Test.YtjhkadffaephmabBundleDI
import Derived.Deep.AppendLies
/-
  table.lightest, table.Paths.
-/
namespace Go.Proofs.Ytjhkadffaephmab
set_option maxRecDepth 100000
open Go.RowKit

/-- A map in which these nodes were met, once each. -/
def MetAt (l : List Int) (b : Nat) (w : World) : Prop :=
  ∃ (ks : List Value) (cnt : Value → Int) (es : Array MapEntry) (clock : Nat), CntAt 3 ks cnt b w es clock ∧ ∀ c : Int, cnt (.int .i64 c) = if c ∈ l then 1 else 0

theorem MetAt.lt {l : List Int} {b : Nat} {w : World} (h : MetAt l b w) : b < w.heap.size := by
  obtain ⟨_, _, _, _, hC, _⟩ := h
  exact hC.lt
theorem MetAt.keep {l : List Int} {b : Nat} {w W : World} (h : MetAt l b w) (e : W.heap[b]? = w.heap[b]?) : MetAt l b W := by
  obtain ⟨ks, cnt, es, clock, hC, hc⟩ := h
  exact ⟨ks, cnt, es, clock, hC.keep e, hc⟩
theorem MetAt.alloc {l : List Int} {b : Nat} {w : World} (h : MetAt l b w) (o : Obj) : MetAt l b (w.alloc o) := h.keep ((World.grownBy_alloc w o none).block b h.lt (by simp))
theorem MetAt.made (w : World) : MetAt [] w.heap.size (w.alloc (.map #[] 0)) := ⟨[], fun _ => 0, #[], 0, CntAt.made w 3, fun c => by simp⟩
theorem MetAt.look {l : List Int} {b : Nat} {w : World} (h : MetAt l b w) {c : Int} (hc : 0 ≤ c) (h9 : c < 100) :
    (Instr.lookup 166 (.map (some b)) (.int .i64 c) false).run Try.prog w = .ok (.int .i64 (if c ∈ l then 1 else 0)) w := by
  obtain ⟨ks, cnt, es, clock, hC, he⟩ := h
  rw [← he c]
  exact hC.look law3 Try.underlying166 (keyInt (l := c) (WalkArith.wf_i64 (by omega)))
theorem MetAt.up {l : List Int} {b : Nat} {w : World} (h : MetAt l b w) {c : Int} (hc : 0 ≤ c) (h9 : c < 100) :
    ∃ es clock, (Instr.mapUpdate 166 (.map (some b)) (.int .i64 c) (.int .i64 1)).run Try.prog w = .ok () (ChangeMaps.setBlock w b (.map es clock)) ∧ MetAt (c :: l) b (ChangeMaps.setBlock w b (.map es clock)) ∧ w.grownBy (ChangeMaps.setBlock w b (.map es clock)) (some b) := by
  obtain ⟨ks, cnt, es, clock, hC, he⟩ := h
  obtain ⟨ks', es2, clock2, hupd, _, hnew⟩ := hC.update law3 Try.underlying166 (keyInt (l := c) (WalkArith.wf_i64 (by omega))) 1
  classical
  refine ⟨es2, clock2, hupd, ⟨ks', fun u => if u = .int .i64 c then 1 else cnt u, es2, clock2, hnew _ (fun u hu => by simp [hu]) (by simp), fun d => ?_⟩, hC.grown _⟩
  by_cases e : d = c
  · subst e; simp
  · have : Value.int .i64 d ≠ .int .i64 c := fun h => e (by injection h)
    show (if Value.int .i64 d = .int .i64 c then _ else cnt (.int .i64 d)) = _
    rw [if_neg this, he d]
    simp [e]
theorem MetAt.down {l : List Int} {b : Nat} {w : World} {c : Int} (h : MetAt (c :: l) b w) (hn : c ∉ l) (hc : 0 ≤ c) (h9 : c < 100) :
    ∃ es clock, (Instr.mapUpdate 166 (.map (some b)) (.int .i64 c) (.int .i64 0)).run Try.prog w = .ok () (ChangeMaps.setBlock w b (.map es clock)) ∧ MetAt l b (ChangeMaps.setBlock w b (.map es clock)) ∧ w.grownBy (ChangeMaps.setBlock w b (.map es clock)) (some b) := by
  obtain ⟨ks, cnt, es, clock, hC, he⟩ := h
  obtain ⟨ks', es2, clock2, hupd, _, hnew⟩ := hC.update law3 Try.underlying166 (keyInt (l := c) (WalkArith.wf_i64 (by omega))) 0
  classical
  refine ⟨es2, clock2, hupd, ⟨ks', fun u => if u = .int .i64 c then 0 else cnt u, es2, clock2, hnew _ (fun u hu => by simp [hu]) (by simp), fun d => ?_⟩, hC.grown _⟩
  by_cases e : d = c
  · subst e; simp [hn]
  · have : Value.int .i64 d ≠ .int .i64 c := fun h => e (by injection h)
    show (if Value.int .i64 d = .int .i64 c then _ else cnt (.int .i64 d)) = _
    rw [if_neg this, he d]
    simp [e]

theorem grown_trans {w u v : World} {row : Option Nat} (h : w.grownBy u row) (k : u.grownBy v row) : w.grownBy v row :=
  ⟨k.os.trans h.os, k.tape.trans h.tape, k.output.trans h.output, Nat.le_trans h.size k.size, fun i hi hne => (k.block i (Nat.lt_of_lt_of_le hi h.size) hne).trans (h.block i hi hne)⟩
theorem grown_refl (w : World) (row : Option Nat) : w.grownBy w row := ⟨rfl, rfl, rfl, Nat.le_refl _, fun _ _ _ => rfl⟩
theorem grown_alloc {w u : World} {row : Option Nat} (h : w.grownBy u row) (o : Obj) : w.grownBy (u.alloc o) row := grown_trans h (World.grownBy_alloc u o row)
theorem grown_drew {w u : World} {row : Option Nat} (h : w.grownBy u row) : w.grownBy u.drew row := ⟨h.os, h.tape, h.output, h.size, h.block⟩

/-- What stands all through the call within. -/
structure LgtG (rest : List Int) (mb : Nat) (w1 W : World) : Prop where
  grown : w1.grownBy W (some mb)
  met : MetAt rest mb W

/-- What the operations leave: the call's is the best of its paths. -/
def lgtE (n : Net) (S : List Int → Prop) (vs : List Value) (k : Nat) (v : Value) (_ : World) : Prop := if k = 15 then ∃ r : Nat, v = .int .i64 (r : Int) ∧ n.Least S r else vs[k]? = some v
theorem lgtE_get {n : Net} {S : List Int → Prop} {vs : List Value} {k : Nat} {v u : Value} {w : World} (h : lgtE n S vs k v w) (hk : k ≠ 15) (hu : vs[k]? = some u) : v = u := by
  unfold lgtE at h
  rw [if_neg hk, hu] at h
  exact (Option.some.inj h).symm

set_option maxHeartbeats 8000000 in
theorem lightest_any (n : NetM) (N mb : Nat) (hN : n.nodes = N) (hck : n.net.check = 0) : ∀ (fuel fr at_ wt : Nat) (rest : List Int) (w : World), n.In mb w → at_ < N → ((at_ : Int) :: rest).Nodup → (∀ c ∈ rest, 0 ≤ c ∧ c < (N : Int)) → n.net.weigh ((at_ : Int) :: rest) = some (wt : Int) → N ≤ fuel + rest.length → MetAt rest mb w →
    Calls Try.prog 125 #[n.val, .int .i64 fr, .int .i64 at_, .int .i64 wt, .map (some mb)] w fun e w' => (∃ r : Nat, e = .returned (.int .i64 (r : Int)) ∧ n.net.Least (Back fr ((at_ : Int) :: rest)) r) ∧ MetAt rest mb w' ∧ w.grownBy w' (some mb) := by
  have g := Net.good_of_check hck
  have hs0 : 2 ≤ n.a.size := g.law.good.lo
  have hs1 : n.a.size ≤ 24 := g.law.good.hi
  have hi6 := g.hi
  have hNN : n.net.nodes = n.nodes := rfl
  have hN6 : N ≤ 6 := by omega
  have hcells : n.cells = #[.int .i64 n.a.size, .slice n.a.B.ga n.a.B.t.len n.a.B.cap, .slice n.a.E.ga n.a.E.t.len n.a.E.cap, .int .i64 N, .slice n.la n.ln n.lc] := by simp only [NetM.cells, Mat.val, hN]
  have G := hide g
  have HN := hide hN
  have Hck := hide hck
  clear hN hi6 g hNN hck
  intro fuel
  induction fuel with
  | zero =>
    intro fr at_ wt rest w h hat hn hr hw hf hm
    exfalso
    have := nodup_len N ((at_ : Int) :: rest) hn (fun c hc => by
      rcases List.mem_cons.1 hc with e | e
      · omega
      · exact hr c e)
    simp at this
    omega
  | succ fuel ih =>
    intro fr at_ wt rest w h hat hn hr hw hf hm
    have IH := hide ih
    have hwt := n.net.weigh_in G.out hw
    have hwts : (wt : Int) < n.a.size := hwt.2
    have hmw := hm.lt
    have H := hide h
    have Hn := hide hn
    have Hr := hide hr
    have Hw := hide hw
    have Hf := hide hf
    simp only [NetM.val, hcells] at IH ⊢
    have Hcells := hide hcells
    by_cases he : at_ = fr
    · subst he
      have HL := hide (n.net.back_there G.out hn hw)
      have HM := hide (hm.alloc (.cells #[.int .i64 n.a.size, .slice n.a.B.ga n.a.B.t.len n.a.B.cap, .slice n.a.E.ga n.a.E.t.len n.a.E.cap, .int .i64 N, .slice n.la n.ln n.lc] 41))
      have HG := hide (World.grownBy_alloc w (.cells #[.int .i64 n.a.size, .slice n.a.B.ga n.a.B.t.len n.a.B.cap, .slice n.a.E.ga n.a.E.t.len n.a.E.cap, .int .i64 N, .slice n.la n.ln n.lc] 41) (some mb))
      clear ih IH h hn hr hw hf hm hcells hwt
      go_enter Try.func125, Try.ntmps125
      go_wp2
      go_ret
      exact ⟨⟨wt, rfl, HL.out⟩, HM.out, HG.out⟩
    · have he' : ((at_ : Int) == (fr : Int)) = false := by simp; omega
      have Hne : Hid ((at_ : Int) ≠ (fr : Int)) := hide (by omega)
      obtain ⟨W1, hW1⟩ : ∃ W1, W1 = w.alloc (.cells n.cells 41) := ⟨_, rfl⟩
      have hG1 : w.grownBy W1 (some mb) := by rw [hW1]; exact World.grownBy_alloc w _ _
      have b1 : Blk W1 w.heap.size n.cells 41 := by rw [hW1]; exact Blk.new w _ _
      have hm1 : MetAt rest mb W1 := by rw [hW1]; exact hm.alloc _
      have hnr : (at_ : Int) ∉ rest := (List.nodup_cons.1 hn).1
      have hlook := hm1.look (c := at_) (by omega) (by omega)
      rw [if_neg hnr] at hlook
      obtain ⟨es, clock, hupd, hm2, hG2⟩ := hm1.up (c := at_) (by omega) (by omega)
      obtain ⟨W2, hW2⟩ : ∃ W2, W2 = ChangeMaps.setBlock W1 mb (.map es clock) := ⟨_, rfl⟩
      rw [← hW2] at hm2 hG2 hupd
      have b2 : Blk W2 w.heap.size n.cells 41 := b1.kept hG2 (by simp; omega)
      have hs2 := hG2.size
      have x4 := b2.cell 4
      have x0 := b1.cell 0
      simp [hcells] at x4 x0
      have Hb2 := hide b2
      have HM2 := hide hm2
      have HG2 := hide (grown_trans hG1 hG2)
      have Hsz : Hid (w.heap.size < W2.heap.size) := hide b2.lt
      have HL0 := hide (n.net.backTo_zero G.out fr ((at_ : Int) :: rest) at_)
      have hlen := h.len
      unfold maxLen at hlen
      rw [hcells] at hW1
      rw [hW1] at hlook hupd x0
      clear ih h hn hr hw hf hm hcells hwt hm1 hG1 b1 hm2 hG2 hW2 b2 he hs2
      go_enter Try.func125, Try.ntmps125
      go_wp2_with fail
      go_loopw [11, 13, 14, 30] (fun b _ _ q wr => ∃ (k : Nat) (r : Int), k ≤ n.ln ∧ q = .int .i64 k ∧ b = .int .i64 r ∧ Hid (n.net.Least (n.net.BackTo fr ((at_ : Int) :: rest) at_ k) r) ∧ Hid (MetAt ((at_ : Int) :: rest) mb wr) ∧ Hid (W2.grownBy wr (some mb))) (fun _ _ _ q _ => n.ln - (intOf q).toNat)
      case atStart => exact ⟨0, n.a.size - 1, Nat.zero_le _, rfl, rfl, HL0, HM2, hide (grown_refl _ _)⟩
      case round =>
        obtain ⟨k, r, hk, rfl, rfl, HL, HM, HG⟩ := hrel
        have hGw : w.grownBy wr (some mb) := grown_trans HG2.out HG.out
        have bN := Hb2.out.kept HG.out (by simp; omega)
        by_cases hlt : k < n.ln
        · have hBw : Below mb w wr := grown_below hGw (fun q hq => by cases hq; exact Nat.le_refl _) (Nat.le_of_lt hmw)
          have hI := H.out.below hBw (Nat.le_refl _)
          have hla := H.out.la (by omega)
          have gl := G.out.link k hlt
          have hnn : n.net.nodes = n.nodes := rfl
          have hNv := HN.out
          obtain ⟨kf, hkf⟩ : ∃ kf : Nat, n.F k = kf := ⟨(n.F k).toNat, by have := gl.1; have e : n.net.F k = n.F k := rfl; omega⟩
          obtain ⟨kt, hkt⟩ : ∃ kt : Nat, n.T k = kt := ⟨(n.T k).toNat, by have := gl.2.2.1; have e : n.net.T k = n.T k := rfl; omega⟩
          obtain ⟨ke, hke⟩ : ∃ ke : Nat, n.E k = ke := ⟨(n.E k).toNat, by have := gl.2.2.2.2.1; have e : n.net.E k = n.E k := rfl; omega⟩
          have hkfN : kf < N := by have := gl.2.1; have e : n.net.F k = n.F k := rfl; omega
          have hkeE : (ke : Int) < n.a.E.t.len := by have := gl.2.2.2.2.2; have e : n.net.E k = n.E k := rfl; have e2 : n.net.a.E.len = n.a.E.t.len := rfl; omega
          have c0 := hI.f k hlt
          have c1 := hI.t k hlt
          have c2 := hI.e k hlt
          rw [hkf] at c0
          rw [hkt] at c1
          rw [hke] at c2
          have hki : (k : Int) < (n.ln : Int) := by omega
          have hme := HM.out.alloc (.cells #[.int .i64 kf, .int .i64 kt, .int .i64 ke] 79)
          have HMe := hide hme
          have HGe := hide (grown_alloc HG.out (.cells #[.int .i64 kf, .int .i64 kt, .int .i64 ke] 79))
          have hlk := hme.look (c := kf) (by omega) (by omega)
          by_cases hT : kt = at_
          · have hT' : ((kt : Int) == (at_ : Int)) = true := by simp [hT]
            have hTn : n.net.T k = (at_ : Int) := by show n.T k = _; rw [hkt, hT]
            by_cases hF : (kf : Int) ∈ (at_ : Int) :: rest
            · rw [if_pos hF] at hlk
              have HLn := hide (n.net.backTo_not HL.out (Or.inr (by show n.F k ∈ _; rw [hkf]; exact hF)))
              clear hI hF gl hme hBw bN hTn hT hkf hkt hke
              go_wp2
              go_roundw
              case rel =>
                first
                | exact ⟨k + 1, r, by omega, by go_num, rfl, HLn, HMe, HGe⟩
                | ((try rw [← hla]); (repeat apply Exists.intro); refine ⟨?_, rfl⟩; exact ⟨k + 1, r, by omega, by go_num, rfl, HLn, HMe, HGe⟩)
              case measure => simp [intOf]; omega
            · rw [if_neg hF] at hlk
              obtain ⟨a1, a2, a3, a4⟩ := hI.edgeAt G.out hkeE hwts
              have hEz := G.out.law.good.edge (e := ke) (s := wt) (by omega) hkeE (by omega) hwts
              obtain ⟨V, hV⟩ : ∃ V : Nat, n.net.a.E.get ke wt = V := ⟨(n.net.a.E.get ke wt).toNat, by omega⟩
              rw [hV] at hEz
              have hVs : (V : Int) < n.a.size := hEz.2
              obtain ⟨rn, hrn⟩ : ∃ rn : Nat, r = rn := ⟨r.toNat, by have := HL.out.lo; omega⟩
              subst hrn
              have hrs : (rn : Int) < n.a.size := HL.out.hi
              have hwn : n.net.weigh ((kf : Int) :: (at_ : Int) :: rest) = some (V : Int) := by
                have he := n.net.edge_link Hck.out hlt
                have e1 : n.net.F k = (kf : Int) := hkf
                have e2 : n.net.E k = (ke : Int) := hke
                rw [e1, hTn, e2] at he
                rw [n.net.weigh_two, he, if_pos (by omega), Hw.out]
                simp [hV]
              have HIH := hide (fun (W : World) (hW : LgtG ((at_ : Int) :: rest) mb (wr.alloc (.cells #[.int .i64 kf, .int .i64 kt, .int .i64 ke] 79)) W) =>
                IH.out fr kf V ((at_ : Int) :: rest) W (hI.below (grown_below (grown_trans (World.grownBy_alloc wr _ (some mb)) hW.grown) (fun q hq => by cases hq; exact Nat.le_refl _) (Nat.le_of_lt (Nat.lt_of_lt_of_le hmw hGw.size))) (Nat.le_refl _)) hkfN (List.nodup_cons.2 ⟨hF, Hn.out⟩) (fun c hc => by
                  rcases List.mem_cons.1 hc with e | e
                  · omega
                  · exact Hr.out c e) hwn (by have := Hf.out; simp; omega) hW.met)
              have HLn := hide (fun (s : Int) (hs : n.net.Least (Back fr ((kf : Int) :: (at_ : Int) :: rest)) s) => n.net.backTo_one G.out (k := k) HL.out hTn (by
                have e1 : n.net.F k = (kf : Int) := hkf
                rw [e1]; exact hs))
              have HbL : Hid (Blk (wr.alloc (.cells #[.int .i64 kf, .int .i64 kt, .int .i64 ke] 79)) wr.heap.size #[.int .i64 kf, .int .i64 kt, .int .i64 ke] 79) := hide (Blk.new wr _ _)
              have HbN := hide (bN.alloc (.cells #[.int .i64 kf, .int .i64 kt, .int .i64 ke] 79))
              have hmr : mb < wr.heap.size := Nat.lt_of_lt_of_le hmw hGw.size
              have hnr : w.heap.size < wr.heap.size := bN.lt
              have HI := hide hI
              have HA := hide (And.intro a1 (And.intro hkeE a4))
              have HV := hide hV
              clear hF gl hme hBw bN hT hkf hkt hke hI a1 a2 a3 a4 hEz hV hwn hTn hGw
              go_wp2_with fail
              obtain ⟨W0, hW0⟩ : ∃ W0, W0 = wr.alloc (.cells #[.int .i64 (kf : Int), .int .i64 (kt : Int), .int .i64 (ke : Int)] 79) := ⟨_, rfl⟩
              rw [← hW0] at HMe HGe HIH HbL HbN ⊢
              have hb0 : Below mb wr W0 := by rw [hW0]; exact (Below.refl _ wr).alloc (by omega) _
              have HI0 := hide (HI.out.below hb0 (Nat.le_refl _))
              have Hla := hide hla
              clear hW0 hb0 HI hlk c0 c1 c2 hla
              have HGcells := hide (fun (W : World) (hW : LgtG ((at_ : Int) :: rest) mb W0 W) => And.intro (HbN.out.kept hW.grown (by simp; omega)) (And.intro (HbL.out.kept hW.grown (by simp; omega)) (HI0.out.below (grown_below hW.grown (fun q hq => by cases hq; exact Nat.le_refl _) (Nat.le_of_lt HMe.out.lt)) (Nat.le_refl _))))
              refine wp_region_last 16 _ (LgtG ((at_ : Int) :: rest) mb W0)
                (lgtE n.net (Back fr ((kf : Int) :: (at_ : Int) :: rest)) [n.val, .int .i64 fr, .pointer (some ⟨wr.heap.size, 0, none⟩), .int .i64 kf, .pointer (some ⟨w.heap.size, 0, none⟩), .pointer (some ⟨w.heap.size, 2, none⟩), .slice n.a.E.ga n.a.E.t.len n.a.E.cap, .pointer (some ⟨wr.heap.size, 2, none⟩), .int .i64 ke, .pointer (some ⟨n.a.E.gb, n.a.E.go + ke, none⟩), .slice (some ⟨n.a.E.RB ke, n.a.E.RO ke, none⟩) (n.a.E.t.L ke) (n.a.E.C ke), .int .i64 wt, .pointer (some ⟨n.a.E.RB ke, n.a.E.RO ke + wt, none⟩), .int .i64 V, .map (some mb)])
                (fun v W => (∃ s : Nat, v = .int .i64 (s : Int) ∧ n.net.Least (Back fr ((kf : Int) :: (at_ : Int) :: rest)) s) ∧ LgtG ((at_ : Int) :: rest) mb W0 W) (fun _ _ _ => True) (by kernel_rfl) (by kernel_rfl) (by kernel_rfl) (by kernel_rfl) (by kernel_rfl) rfl ⟨grown_drew (grown_refl _ _), HMe.out.keep rfl⟩ ⟨?_, ?_, ?_, ?_, ?_, ?_, ?_, ?_, ?_, ?_, ?_, ?_, ?_, ?_, ?_, ?_, trivial⟩ ?_ trivial ?_
              rotate_right
              · intro t W hG _
                have HG' := hide hG
                clear hG
                simp only [fill, Act.put, List.setIfInBounds_toArray, List.set_cons_zero, List.set_cons_succ]
                obtain ⟨⟨s, hs, hLs⟩, hGW⟩ := HG'.out
                obtain ⟨bNW, _, hIW⟩ := HGcells.out W hGW
                have hss : (s : Int) < n.a.size := hLs.hi
                obtain ⟨d1, d2, d3, d4, d5⟩ := hIW.bestAt G.out hrs hss
                have z1 := bNW.cell 1
                have z4 := bNW.cell 4
                simp [Hcells.out] at z1 z4
                have HLs := hide (HLn.out s hLs)
                have HMs := hide hGW.met
                have HGs := hide (grown_trans HGe.out hGW.grown)
                simp only [hs]
                clear hs hLs hGW bNW hIW HGcells HIH HLn HG'
                go_wp2
                go_roundw
                case rel =>
                  first
                  | exact ⟨k + 1, _, by omega, by go_num, rfl, HLs, HMs, HGs⟩
                  | ((try rw [← Hla.out]); (try rw [← d1]); (repeat apply Exists.intro); refine ⟨?_, rfl⟩; exact ⟨k + 1, _, by omega, by go_num, rfl, HLs, HMs, HGs⟩)
                case measure => simp [intOf]; omega
              rotate_right
              · intro t W hG hE _ K hK
                have h15 : ∃ s : Nat, t 15 = .int .i64 (s : Int) ∧ n.net.Least (Back fr ((kf : Int) :: (at_ : Int) :: rest)) s := hE 15 (by omega)
                simp only [fill, Act.put, List.setIfInBounds_toArray, List.set_cons_zero, List.set_cons_succ] at hK ⊢
                rw [if_pos (by rfl)]
                obtain ⟨s, hs, hLs⟩ := h15
                simp only [hs] at hK ⊢
                go_simp
                exact hK _ W ⟨⟨s, rfl, hLs⟩, hG⟩
              all_goals intro t W hG hp ht K hK
              all_goals clear ht
              all_goals simp only [fill, Act.put, List.setIfInBounds_toArray, List.set_cons_zero, List.set_cons_succ] at hK ⊢
              all_goals rw [if_pos (by rfl)]
              · obtain ⟨bNW, _, _⟩ := HGcells.out W hG
                have x0 := bNW.cell 0
                have x1 := bNW.cell 1
                have x2 := bNW.cell 2
                have x3 := bNW.cell 3
                have x4 := bNW.cell 4
                simp [Hcells.out] at x0 x1 x2 x3 x4
                go_simp
                exact hK _ W hG (by show some n.val = _; rw [NetM.val, Hcells.out]) (fun _ _ _ h => h)
              · go_simp
                exact hK _ W hG rfl (fun _ _ _ h => h)
              · go_simp
                exact hK _ W hG rfl (fun _ _ _ h => h)
              · have e2 := lgtE_get (hp 2 (by decide)) (by decide) rfl
                obtain ⟨_, bLW, _⟩ := HGcells.out W hG
                have x0 := bLW.cell 0
                simp at x0
                simp only [e2] at hK ⊢
                go_simp
                exact hK _ W hG rfl (fun _ _ _ h => h)
              · go_simp
                exact hK _ W hG rfl (fun _ _ _ h => h)
              · have e4 := lgtE_get (hp 4 (by decide)) (by decide) rfl
                simp only [e4] at hK ⊢
                go_simp
                exact hK _ W hG rfl (fun _ _ _ h => h)
              · have e5 := lgtE_get (hp 5 (by decide)) (by decide) rfl
                obtain ⟨bNW, _, _⟩ := HGcells.out W hG
                have x2 := bNW.cell 2
                simp [Hcells.out] at x2
                simp only [e5] at hK ⊢
                go_simp
                exact hK _ W hG rfl (fun _ _ _ h => h)
              · go_simp
                exact hK _ W hG rfl (fun _ _ _ h => h)
              · have e7 := lgtE_get (hp 7 (by decide)) (by decide) rfl
                obtain ⟨_, bLW, _⟩ := HGcells.out W hG
                have x0 := bLW.cell 2
                simp at x0
                simp only [e7] at hK ⊢
                go_simp
                exact hK _ W hG rfl (fun _ _ _ h => h)
              · have e6 := lgtE_get (hp 6 (by decide)) (by decide) rfl
                have e8 := lgtE_get (hp 8 (by decide)) (by decide) rfl
                rw [HA.out.1] at e6
                have hlt9 := HA.out.2.1
                simp only [e6, e8] at hK ⊢
                go_simp
                exact hK _ W hG rfl (fun _ _ _ h => h)
              · have e9 := lgtE_get (hp 9 (by decide)) (by decide) rfl
                obtain ⟨_, _, hIW⟩ := HGcells.out W hG
                have a2 := (hIW.edgeAt G.out HA.out.2.1 hwts).2.1
                simp only [e9] at hK ⊢
                go_simp
                exact hK _ W hG rfl (fun _ _ _ h => h)
              · go_simp
                exact hK _ W hG rfl (fun _ _ _ h => h)
              · have e10 := lgtE_get (hp 10 (by decide)) (by decide) rfl
                have e11 := lgtE_get (hp 11 (by decide)) (by decide) rfl
                have hlt9 := HA.out.2.2
                simp only [e10, e11] at hK ⊢
                go_simp
                exact hK _ W hG rfl (fun _ _ _ h => h)
              · have e12 := lgtE_get (hp 12 (by decide)) (by decide) rfl
                obtain ⟨_, _, hIW⟩ := HGcells.out W hG
                have a3 := (hIW.edgeAt G.out HA.out.2.1 hwts).2.2.1
                rw [HV.out] at a3
                simp only [e12] at hK ⊢
                go_simp
                exact hK _ W hG rfl (fun _ _ _ h => h)
              · go_simp
                exact hK _ W hG rfl (fun _ _ _ h => h)
              · have e0 := lgtE_get (hp 0 (by decide)) (by decide) rfl
                have e1 := lgtE_get (hp 1 (by decide)) (by decide) rfl
                have e3 := lgtE_get (hp 3 (by decide)) (by decide) rfl
                have e13 := lgtE_get (hp 13 (by decide)) (by decide) rfl
                have e14 := lgtE_get (hp 14 (by decide)) (by decide) rfl
                rw [NetM.val, Hcells.out] at e0
                simp only [e0, e1, e3, e13, e14] at hK ⊢
                go_simp
                go_at_call 125
                refine (HIH.out W hG).mono ?_
                rintro e W' ⟨⟨s, rfl, hs⟩, hm', hg'⟩
                go_simp
                exact hK _ W' ⟨grown_trans hG.grown hg', hm'⟩ ⟨s, rfl, hs⟩ (fun _ _ _ h => h)
          · have hT' : ((kt : Int) == (at_ : Int)) = false := by simp; omega
            have HLn := hide (n.net.backTo_not HL.out (Or.inl (by show n.T k ≠ _; rw [hkt]; omega)))
            clear hI gl hme hBw bN hT hkf hkt hke hlk
            go_wp2
            go_roundw
            case rel =>
              first
              | exact ⟨k + 1, r, by omega, by go_num, rfl, HLn, HMe, HGe⟩
              | ((try rw [← hla]); (repeat apply Exists.intro); refine ⟨?_, rfl⟩; exact ⟨k + 1, r, by omega, by go_num, rfl, HLn, HMe, HGe⟩)
            case measure => simp [intOf]; omega
        · have hkn : k = n.ln := by omega
          have hki : (n.ln : Int) ≤ (k : Int) := by omega
          have hlk := HM.out.look (c := at_) (by omega) (by omega)
          rw [if_pos (by simp)] at hlk
          obtain ⟨es3, clock3, hupd3, hm3, hG3⟩ := HM.out.down (c := at_) (List.nodup_cons.1 Hn.out).1 (by omega) (by omega)
          have HM3 := hide hm3
          have HG3 := hide (grown_trans hGw hG3)
          obtain ⟨rn, hrn⟩ : ∃ rn : Nat, r = rn := ⟨r.toNat, by have := HL.out.lo; omega⟩
          subst hrn
          have HLe : Hid (n.net.Least (Back fr ((at_ : Int) :: rest)) rn) := hide (n.net.back_end (by have := HL.out; rw [hkn] at this; exact this) Hne.out)
          clear hm3 hG3 hGw bN hkn HL HM
          go_wp2
          go_ret
          exact ⟨⟨rn, rfl, HLe.out⟩, HM3.out, HG3.out⟩

end Go.Proofs.Ytjhkadffaephmab

/-
  table.Paths; signpostref.Has, WeighOf.
-/
namespace Go.Proofs.Ytjhkadffaephmab
set_option maxRecDepth 100000
open Go.RowKit

/-- Are both nodes? -/
def Net.areTwo (n : Net) (a b : Int) : Bool := (decide (0 ≤ a) && decide (a < n.nodes)) && (decide (0 ≤ b) && decide (b < n.nodes))
def Net.pathsErr (n : Net) (a b : Int) : Int := if n.check ≠ 0 then n.check else if n.areTwo a b = false then 5 else 0

theorem rowIn_two (a b s : Int) : rowIn 2 (fun i => if i = 0 then a else b) s = ((decide (0 ≤ a) && decide (a < s)) && (decide (0 ≤ b) && decide (b < s))) := by
  unfold rowIn
  simp [List.range_succ]

set_option maxHeartbeats 2000000 in
theorem tablePaths_bad (n : NetM) (a b : Int) (w : World) (h : n.In w.heap.size w) (he : n.net.pathsErr a b ≠ 0) :
    Calls Try.prog 59 #[n.val, .int .i64 a, .int .i64 b] w fun e w' => e = .returned (.tuple #[.int .i64 0, .int .i64 (n.net.pathsErr a b)]) ∧ Below w.heap.size w w' := by
  have hB0 : Below w.heap.size w (w.alloc (.cells n.cells 41)) := (Below.refl _ w).alloc (Nat.le_refl _) _
  have b0 := Blk.new w n.cells 41
  have HC := hide (netCheck_any n _ (h.grown hB0))
  have HA := hide (fun (W : World) (hb : Blk W W.heap.size #[] 3 → True) => areNodes_any n (some ⟨W.heap.size, 0, none⟩) 2 2 W.heap.size 0 (fun i => if i = 0 then a else b) (W.alloc (.cells #[.int .i64 a, .int .i64 b] 3)) ⟨fun _ => rfl, fun i hi => by
      rcases (show i = 0 ∨ i = 1 by omega) with e | e <;> subst e <;> simp, by unfold maxLen; omega⟩ (fun _ => by simp))
  have Hd : Hid (n.net.pathsErr a b = if n.net.check ≠ 0 then n.net.check else if n.net.areTwo a b = false then 5 else 0) := hide rfl
  have Hr : Hid (rowIn 2 (fun i => if i = 0 then a else b) n.nodes = n.net.areTwo a b) := hide (rowIn_two a b n.nodes)
  generalize n.net.check = ck at *
  simp only [NetM.val, NetM.cells, Mat.val] at *
  by_cases hc : ck = 0
  · subst hc
    have hno : n.net.areTwo a b = false := by
      apply Classical.byContradiction
      intro hn
      rw [Hd.out] at he
      simp [hn] at he
    have He : Hid (n.net.pathsErr a b = 5) := hide (by rw [Hd.out]; simp [hno])
    rw [Hr.out, hno] at HA
    clear he h Hd Hr hno
    go_enter Try.func59, Try.ntmps59
    go_wp2_with fail
    go_at_call 70
    refine HC.out.mono ?_
    rintro e w1 ⟨rfl, hb1⟩
    have hB1 := hB0.trans (hb1.mono hB0.size)
    have b1 := b0.below hb1 b0.lt
    have x0 := b1.cell 0
    have x1 := b1.cell 1
    have x2 := b1.cell 2
    have x3 := b1.cell 3
    have x4 := b1.cell 4
    simp at x0 x1 x2 x3 x4
    have HB1 := hide hB1
    have HA1 := hide (HA.out w1 (fun _ => trivial))
    clear hB1 hb1 b1 HC hB0 b0 HA
    go_wp2_with fail
    go_at_call 111
    refine HA1.out.mono ?_
    rintro e w2 ⟨rfl, hb2⟩
    have HB2 := hide ((HB1.out.alloc HB1.out.size _).trans (hb2.mono (by simp; exact Nat.le_succ_of_le HB1.out.size)))
    clear hb2 HA1
    go_wp2
    exact bodyPost_ret (v := .tuple #[.int .i64 0, .int .i64 5]) (by simp [results, Try.results59, go_sem]) rfl ⟨by rw [He.out], HB2.out⟩
  · have He : Hid (n.net.pathsErr a b = ck) := hide (by rw [Hd.out]; simp [hc])
    have hc' : (ck != 0) = true := by simp [hc]
    clear he h Hd hc HA Hr b0
    go_enter Try.func59, Try.ntmps59
    go_wp2_with fail
    go_at_call 70
    refine HC.out.mono ?_
    rintro e w1 ⟨rfl, hb1⟩
    have HB1 := hide (hB0.trans (hb1.mono hB0.size))
    clear hb1 HC hB0
    go_wp2
    exact bodyPost_ret (v := .tuple #[.int .i64 0, .int .i64 ck]) (by simp [results, Try.results59, go_sem]) rfl ⟨by rw [He.out], HB1.out⟩

set_option maxHeartbeats 2000000 in
theorem tablePaths_ok (n : NetM) (N a b : Nat) (w : World) (h : n.In w.heap.size w) (hck : n.net.check = 0) (hN : n.nodes = N) (ha : a < N) (hb : b < N) :
    Calls Try.prog 59 #[n.val, .int .i64 a, .int .i64 b] w fun e w' => (∃ r : Nat, e = .returned (.tuple #[.int .i64 (r : Int), .int .i64 0]) ∧ n.net.Least (Back a [(b : Int)]) r) ∧ Below w.heap.size w w' := by
  have hB0 : Below w.heap.size w (w.alloc (.cells n.cells 41)) := (Below.refl _ w).alloc (Nat.le_refl _) _
  have b0 := Blk.new w n.cells 41
  have HC := hide (netCheck_any n _ (h.grown hB0))
  rw [hck] at HC
  have HA := hide (fun (W : World) => areNodes_any n (some ⟨W.heap.size, 0, none⟩) 2 2 W.heap.size 0 (fun i => if i = 0 then (a : Int) else b) (W.alloc (.cells #[.int .i64 (a : Int), .int .i64 (b : Int)] 3)) ⟨fun _ => rfl, fun i hi => by
      rcases (show i = 0 ∨ i = 1 by omega) with e | e <;> subst e <;> simp, by unfold maxLen; omega⟩ (fun _ => by simp))
  have hyes : rowIn 2 (fun i => if i = 0 then (a : Int) else b) n.nodes = true := by rw [rowIn_two, hN]; simp; omega
  rw [hyes] at HA
  have HL := hide (fun (W : World) (hb' : Below w.heap.size w W) => lightest_any n N W.heap.size hN hck N a b 0 [] (W.alloc (.map #[] 0)) ((h.grown hb').below ((Below.refl _ W).alloc (Nat.le_refl _) _) (Nat.le_refl _)) hb (by simp) (by simp) (n.net.weigh_one _) (by simp) (MetAt.made W))
  have hmm := @run_makeMap Try.prog
  simp only [NetM.val, NetM.cells, Mat.val, hN] at *
  clear h hyes hN hck
  go_enter Try.func59, Try.ntmps59
  go_wp2_with fail
  go_at_call 70
  refine HC.out.mono ?_
  rintro e w1 ⟨rfl, hb1⟩
  have hB1 := hB0.trans (hb1.mono hB0.size)
  have b1 := b0.below hb1 b0.lt
  have x0 := b1.cell 0
  have x1 := b1.cell 1
  have x2 := b1.cell 2
  have x3 := b1.cell 3
  have x4 := b1.cell 4
  simp at x0 x1 x2 x3 x4
  have HB1 := hide hB1
  have Hb1 := hide b1
  have HA1 := hide (HA.out w1)
  clear hB1 hb1 b1 HC hB0 b0 HA
  go_wp2_with fail
  go_at_call 111
  refine HA1.out.mono ?_
  rintro e w2 ⟨rfl, hb2⟩
  have hB2 := (HB1.out.alloc HB1.out.size (.cells #[.int .i64 (a : Int), .int .i64 (b : Int)] 3)).trans (hb2.mono (by simp; exact Nat.le_succ_of_le HB1.out.size))
  have b2 := (Hb1.out.alloc (.cells #[.int .i64 (a : Int), .int .i64 (b : Int)] 3)).below hb2 (by simp; exact Nat.lt_succ_of_lt Hb1.out.lt)
  have x0 := b2.cell 0
  have x1 := b2.cell 1
  have x2 := b2.cell 2
  have x3 := b2.cell 3
  have x4 := b2.cell 4
  simp at x0 x1 x2 x3 x4
  have HL1 := hide (HL.out w2 hB2)
  have HB2 := hide hB2
  have c0 : ∀ o, (w2.alloc o).cell? ⟨w.heap.size, 0, none⟩ = some (.int .i64 n.a.size) := fun o => (b2.alloc o).cell 0
  clear hb2 HA1 hB2 b2 HL
  go_wp2_with fail
  go_at_call 125
  refine HL1.out.mono ?_
  rintro e w3 ⟨⟨r, rfl, hr⟩, _, hg⟩
  have HR := hide hr
  have HB3 : Hid (Below w.heap.size w w3) := hide ((HB2.out.alloc HB2.out.size _).grown hg (by simp; exact Nat.le_succ_of_le HB2.out.size) (fun j hj => by cases hj; exact HB2.out.size))
  clear hr hg HL1
  go_wp2
  exact bodyPost_ret (v := .tuple #[.int .i64 (r : Int), .int .i64 0]) (by simp [results, Try.results59, go_sem]) rfl ⟨⟨r, rfl, HR.out⟩, HB3.out⟩

set_option maxHeartbeats 1000000 in
theorem has_ints (a : Option Addr) (l q b o : Nat) (f : Nat → Int) (c : Int) (w : World) (h : Ints a l b o f w) :
    Calls Try.prog 62 #[.slice a l q, .int .i64 c] w fun e w' => e = .returned (.bool (decide (c ∈ listOf l f))) ∧ w' = w := by
  have hlen := h.len
  unfold maxLen at hlen
  have H := hide h
  clear h
  go_enter Try.func62, Try.ntmps62
  go_wp2
  go_loop [5] (fun i => ∃ k : Nat, k ≤ l ∧ i = .int .i64 k ∧ Hid (∀ r, r < k → f r ≠ c)) (fun i => l - (intOf i).toNat)
  case atStart => exact ⟨0, Nat.zero_le _, rfl, hide (fun r hr => absurd hr (Nat.not_lt_zero _))⟩
  case round =>
    obtain ⟨k, hk, rfl, Hall⟩ := hrel
    by_cases hlt : k < l
    · have ha := H.out.addr (by omega)
      have hc := H.out.cell k hlt
      have hki : (k : Int) < (l : Int) := by omega
      by_cases e : f k = c
      · have e' : (f k == c) = true := by simp [e]
        have Hw : Hid (decide (c ∈ listOf l f) = true) := hide (by rw [decide_eq_true_eq, listOf_mem]; exact ⟨k, hlt, e.symm⟩)
        clear e
        go_wp2
        go_ret
        exact ⟨by rw [Hw.out]; rfl, rfl⟩
      · have e' : (f k == c) = false := by simp [e]
        have Hn : Hid (∀ r, r < k + 1 → f r ≠ c) := hide (fun r hr => by
          by_cases e1 : r = k
          · subst e1; exact e
          · exact Hall.out r (by omega))
        clear e
        go_wp2
        go_round
        case rel =>
          first
          | exact ⟨k + 1, by omega, by go_num, Hn⟩
          | ((try rw [← ha]); (repeat apply Exists.intro); refine ⟨?_, rfl⟩; exact ⟨k + 1, by omega, by go_num, Hn⟩)
        case measure => simp [intOf]; omega
    · have hki : (l : Int) ≤ (k : Int) := by omega
      have Hw : Hid (decide (c ∈ listOf l f) = false) := hide (by
        rw [decide_eq_false_iff_not, listOf_mem]
        rintro ⟨i, hi, e⟩
        exact Hall.out i (by omega) e.symm)
      go_wp2
      go_ret
      exact ⟨by rw [Hw.out]; rfl, rfl⟩

end Go.Proofs.Ytjhkadffaephmab

/-
  signpostref.WeighOf.
-/
namespace Go.Proofs.Ytjhkadffaephmab
set_option maxRecDepth 100000
open Go.RowKit

theorem Ints.tail {a : Option Addr} {l b o : Nat} {f : Nat → Int} {w : World} (h : Ints a (l + 1) b o f w) : Ints (some ⟨b, o + 1, none⟩) l b (o + 1) (fun i => f (i + 1)) w :=
  ⟨fun _ => rfl, fun i hi => by rw [show o + 1 + i = o + (i + 1) by omega]; exact h.cell (i + 1) (by omega), by have := h.len; omega⟩

/-- What a path weighs, and whether it is one. -/
def Net.wv (n : Net) (p : List Int) : Int := (n.weigh p).getD 0
def Net.wb (n : Net) (p : List Int) : Bool := (n.weigh p).isSome

set_option maxHeartbeats 4000000 in
theorem weighOf_any (n : NetM) (hck : n.net.check = 0) : ∀ (l : Nat) (a : Option Addr) (q b o : Nat) (f : Nat → Int) (w : World), n.In w.heap.size w → Ints a (l + 1) b o f w → b < w.heap.size → l + 1 ≤ q → q ≤ maxLen →
    Calls Try.prog 60 #[n.val, .slice a (l + 1) q] w fun e w' => e = .returned (.tuple #[.int .i64 (n.net.wv (listOf (l + 1) f)), .bool (n.net.wb (listOf (l + 1) f))]) ∧ Below w.heap.size w w' := by
  have g := Net.good_of_check hck
  have hs0 : 2 ≤ n.a.size := g.law.good.lo
  have hs1 : n.a.size ≤ 24 := g.law.good.hi
  have G := hide g
  clear g
  intro l
  induction l with
  | zero =>
    intro a q b o f w h hf hb hq hqm
    have HB0 : Hid (Below w.heap.size w (w.alloc (.cells n.cells 41))) := hide ((Below.refl _ w).alloc (Nat.le_refl _) _)
    have e1 : n.net.wv (listOf (0 + 1) f) = 0 := by unfold Net.wv; rw [listOf_cons]; exact congrArg (fun x => Option.getD x 0) (n.net.weigh_one _)
    have e2 : n.net.wb (listOf (0 + 1) f) = true := by unfold Net.wb; rw [listOf_cons]; exact congrArg Option.isSome (n.net.weigh_one _)
    rw [e1, e2]
    simp only [NetM.val, NetM.cells, Mat.val] at *
    clear e1 e2 h hf hb hck
    go_enter Try.func60, Try.ntmps60
    go_wp2
    exact bodyPost_ret (v := .tuple #[.int .i64 0, .bool true]) (by simp [results, Try.results60, go_sem]) rfl ⟨rfl, HB0.out⟩
  | succ l ih =>
    intro a q b o f w h hf hb hq hqm
    have ha := hf.addr (by omega)
    subst ha
    obtain ⟨W1, hW1⟩ : ∃ W1, W1 = w.alloc (.cells n.cells 41) := ⟨_, rfl⟩
    have hB1 : Below w.heap.size w W1 := by rw [hW1]; exact (Below.refl _ w).alloc (Nat.le_refl _) _
    have b1 : Blk W1 w.heap.size n.cells 41 := by rw [hW1]; exact Blk.new w _ _
    have HIH := hide (fun (W : World) (hW : Below W1.heap.size W1 W) => ih (some ⟨b, o + 1, none⟩) (q - 1) b (o + 1) (fun i => f (i + 1)) W ((h.grown hB1).grown hW) ((hf.tail.below hB1 (fun _ => hb)).below hW (fun _ => Nat.lt_of_lt_of_le hb hB1.size)) (Nat.lt_of_lt_of_le hb (Nat.le_trans hB1.size hW.size)) (by omega) (by omega))
    have HE := hide (fun (W : World) (hW : Below W1.heap.size W1 W) => edgeOf_any n (f 0) (f 1) W ((h.grown hB1).grown hW))
    have Hlc : Hid (listOf (l + 1 + 1) f = f 0 :: listOf (l + 1) (fun i => f (i + 1))) := hide (listOf_cons _ _)
    have Hlc2 : Hid (listOf (l + 1) (fun i => f (i + 1)) = f 1 :: listOf l (fun i => f (i + 1 + 1))) := hide (listOf_cons _ _)
    have hlen := hf.len
    unfold maxLen at hlen hqm
    have HB1 := hide hB1
    have Hb1 := hide b1
    have HF := hide hf
    have H := hide h
    have Hb := hide hb
    have Hwt : Hid (∀ v, n.net.weigh (listOf (l + 1) (fun i => f (i + 1))) = some v → 0 ≤ v ∧ v < n.a.size) := hide (fun v hv => n.net.weigh_in G.out hv)
    generalize hp1 : listOf (l + 1) (fun i => f (i + 1)) = p1 at *
    generalize hp2 : listOf (l + 1 + 1) f = p2 at *
    clear ih hB1 b1 hf h hb
    have hcells : n.cells = #[.int .i64 n.a.size, .slice n.a.B.ga n.a.B.t.len n.a.B.cap, .slice n.a.E.ga n.a.E.t.len n.a.E.cap, .int .i64 n.nodes, .slice n.la n.ln n.lc] := rfl
    simp only [NetM.val, hcells] at HIH HE ⊢
    rw [hcells] at hW1
    have Hcells := hide hcells
    have hl1 : (((l + 1 + 1 : Nat) : Int) == 1) = false := by simp; omega
    clear hcells
    go_enter Try.func60, Try.ntmps60
    go_wp2
    rw [← hW1]
    clear hW1
    have Hv1 : Hid (n.net.wb p1 = true → 0 ≤ n.net.wv p1 ∧ n.net.wv p1 < n.a.size) := hide (fun hb => by
      unfold Net.wb at hb
      unfold Net.wv
      cases e : n.net.weigh p1 with
      | none => rw [e] at hb; cases hb
      | some v => exact Hwt.out v e)
    have Hfin1 : Hid (n.net.wb p1 = false → n.net.wv p2 = 0 ∧ n.net.wb p2 = false) := hide (fun hb => by
      have hno : n.net.weigh p2 = none := by
        cases e : n.net.weigh p2 with
        | none => rfl
        | some v =>
          exfalso
          rw [Hlc.out] at e
          obtain ⟨_, _, u, _, _, hu, _⟩ := Net.weigh_tail e (by rw [Hlc2.out]; simp)
          unfold Net.wb at hb
          rw [hu] at hb
          cases hb
      unfold Net.wv Net.wb
      rw [hno]
      exact ⟨rfl, rfl⟩)
    have Hfin2 : Hid (n.net.wb p1 = true → ¬ 0 ≤ n.net.edge (f 0) (f 1) → n.net.wv p2 = 0 ∧ n.net.wb p2 = false) := hide (fun _ he => by
      have hno : n.net.weigh p2 = none := by rw [Hlc.out, Hlc2.out, n.net.weigh_two, if_neg he]
      unfold Net.wv Net.wb
      rw [hno]
      exact ⟨rfl, rfl⟩)
    have Hfin3 : Hid (n.net.wb p1 = true → 0 ≤ n.net.edge (f 0) (f 1) → n.net.wv p2 = n.net.a.E.get (n.net.edge (f 0) (f 1)) (n.net.wv p1) ∧ n.net.wb p2 = true) := hide (fun hb he => by
      unfold Net.wb at hb
      cases e : n.net.weigh p1 with
      | none => rw [e] at hb; cases hb
      | some v =>
        have : n.net.weigh p2 = some (n.net.a.E.get (n.net.edge (f 0) (f 1)) v) := by
          rw [Hlc.out, Hlc2.out, n.net.weigh_two, if_pos he, ← Hlc2.out, e]
          rfl
        unfold Net.wv Net.wb
        rw [this, e]
        exact ⟨rfl, rfl⟩)
    generalize n.net.wv p1 = v1 at *
    generalize n.net.wb p1 = k1 at *
    have Hg1 : Hid (n.net.edge (f 0) (f 1) < n.a.E.t.len) := hide (n.net.edge_lt G.out (f 0) (f 1))
    generalize n.net.edge (f 0) (f 1) = ed at *
    clear Hwt Hlc Hlc2 hp1 hp2
    have hq1 : ¬ q = 1 := by omega
    have hl2 : (1 : Int) ≤ (l : Int) + 1 + 1 := by omega
    refine wp_region_only (fun W => Below W1.heap.size W1 W)
      (valsE [n.val, .slice (some ⟨b, o, none⟩) (l + 1 + 1) q, .slice (some ⟨b, o + 1, none⟩) (l + 1) (q - 1), .tuple #[.int .i64 v1, .bool k1], .tuple #[.int .i64 v1, .bool k1], .int .i64 v1, .bool k1, .int .i64 v1, .bool k1])
      (by kernel_rfl) (by kernel_rfl) (by kernel_rfl) (below_drewN (Below.refl _ _) 1) ⟨?_, ?_, ?_, ?_, ?_, ?_, ?_, ?_, ?_, trivial⟩ ?_
    rotate_right
    · intro t W hG hE
      have HG' := hide hG
      have e7 := valsE_get (hE 7 (by decide)) rfl
      have e8 := valsE_get (hE 8 (by decide)) rfl
      clear hG hE
      simp only [fill, Act.put, List.setIfInBounds_toArray, List.set_cons_zero, List.set_cons_succ, e7, e8]
      clear e7 e8 HIH
      go_wp2
      have hq0 : (0 : Int) < (l : Int) + 1 + 1 := by omega
      have hq2 : (1 : Int) < (l : Int) + 1 + 1 := by omega
      refine wp_region_only (fun W' => Below W1.heap.size W1 W')
        (valsE [n.val, .slice (some ⟨b, o, none⟩) (l + 1 + 1) q, .pointer (some ⟨b, o, none⟩), .int .i64 (f 0), .slice (some ⟨b, o, none⟩) (l + 1 + 1) q, .pointer (some ⟨b, o + 1, none⟩), .int .i64 (f 1), .int .i64 ed, .int .i64 ed])
        (by kernel_rfl) (by kernel_rfl) (by kernel_rfl) (below_drewN HG'.out 1) ⟨?_, ?_, ?_, ?_, ?_, ?_, ?_, ?_, ?_, trivial⟩ ?_
      rotate_right
      · intro t2 W2 hG2 hE2
        have HG2 := hide hG2
        have d8 := valsE_get (hE2 8 (by decide)) rfl
        clear hG2 hE2
        simp only [fill, Act.put, List.setIfInBounds_toArray, List.set_cons_zero, List.set_cons_succ, d8]
        clear d8
        have hBw := HB1.out.trans (HG2.out.mono HB1.out.size)
        have HBw := hide hBw
        cases k1 with
        | false =>
          have HR := hide (Hfin1.out rfl)
          clear Hfin1 Hfin2 Hfin3 Hv1 hBw
          go_wp2
          exact bodyPost_ret (v := .tuple #[.int .i64 0, .bool false]) (by simp [results, Try.results60, go_sem]) rfl ⟨by rw [HR.out.1, HR.out.2], HBw.out⟩
        | true =>
          by_cases he : 0 ≤ ed
          · obtain ⟨r1, r2⟩ := Hfin3.out rfl he
            obtain ⟨u1, u2⟩ := Hv1.out rfl
            obtain ⟨en, hen⟩ : ∃ en : Nat, ed = en := ⟨ed.toNat, by omega⟩
            obtain ⟨vn, hvn⟩ : ∃ vn : Nat, v1 = vn := ⟨v1.toNat, by omega⟩
            subst hen hvn
            have hI := H.out.below hBw (Nat.le_refl _)
            have hel := Hg1.out
            obtain ⟨a1, a2, a3, a4⟩ := hI.edgeAt G.out hel u2
            rw [← r1] at a3
            have HR2 := hide r2
            have bN := Hb1.out.below HG2.out Hb1.out.lt
            have x2 := bN.cell 2
            simp [Hcells.out] at x2
            clear Hfin1 Hfin2 Hfin3 Hv1 r1 r2 hBw hI bN
            go_wp2
            exact bodyPost_ret (v := .tuple #[.int .i64 (n.net.wv p2), .bool true]) (by simp [results, Try.results60, go_sem]) rfl ⟨by rw [HR2.out], HBw.out⟩
          · have hneg : ed < 0 := by omega
            have HR := hide (Hfin2.out rfl (by first | exact he | exact hneg))
            clear Hfin1 Hfin2 Hfin3 Hv1 hBw he
            go_wp2
            exact bodyPost_ret (v := .tuple #[.int .i64 0, .bool false]) (by simp [results, Try.results60, go_sem]) rfl ⟨by rw [HR.out.1, HR.out.2], HBw.out⟩
      all_goals intro t2 W2 hG hp K hK
      all_goals simp only [fill, Act.put, List.setIfInBounds_toArray, List.set_cons_zero, List.set_cons_succ] at hK ⊢
      all_goals rw [if_pos (by rfl)]
      · have bN := Hb1.out.below hG Hb1.out.lt
        have x0 := bN.cell 0
        have x1 := bN.cell 1
        have x2 := bN.cell 2
        have x3 := bN.cell 3
        have x4 := bN.cell 4
        simp [Hcells.out] at x0 x1 x2 x3 x4
        go_simp
        exact hK _ W2 hG (by show some n.val = _; rw [NetM.val, Hcells.out]) (fun _ _ _ h => h)
      · go_simp
        exact hK _ W2 hG rfl (fun _ _ _ h => h)
      · have e1 := valsE_get (hp 1 (by decide)) rfl
        simp only [e1] at hK ⊢
        go_simp
        exact hK _ W2 hG rfl (fun _ _ _ h => h)
      · have e2 := valsE_get (hp 2 (by decide)) rfl
        have c0 := (HF.out.below (HB1.out.trans (hG.mono HB1.out.size)) (fun _ => Hb.out)).cell 0 (by omega)
        simp only [Nat.add_zero] at c0
        simp only [e2] at hK ⊢
        go_simp
        exact hK _ W2 hG rfl (fun _ _ _ h => h)
      · go_simp
        exact hK _ W2 hG rfl (fun _ _ _ h => h)
      · have e1 := valsE_get (hp 4 (by decide)) rfl
        simp only [e1] at hK ⊢
        go_simp
        exact hK _ W2 hG rfl (fun _ _ _ h => h)
      · have e2 := valsE_get (hp 5 (by decide)) rfl
        have c0 := (HF.out.below (HB1.out.trans (hG.mono HB1.out.size)) (fun _ => Hb.out)).cell 1 (by omega)
        simp only [e2] at hK ⊢
        go_simp
        exact hK _ W2 hG rfl (fun _ _ _ h => h)
      · have e0 := valsE_get (hp 0 (by decide)) rfl
        have e3 := valsE_get (hp 3 (by decide)) rfl
        have e6 := valsE_get (hp 6 (by decide)) rfl
        rw [NetM.val, Hcells.out] at e0
        simp only [e0, e3, e6] at hK ⊢
        go_simp
        go_at_call 108
        refine (HE.out W2 hG).mono ?_
        rintro e W' ⟨rfl, rfl⟩
        go_simp
        exact hK _ _ (hG.alloc hG.size _) rfl (fun _ _ _ h => h)
      · have e3 := valsE_get (hp 7 (by decide)) rfl
        simp only [e3] at hK ⊢
        go_simp
        exact hK _ W2 hG rfl (fun _ _ _ h => h)
    all_goals intro t W hG hp K hK
    all_goals simp only [fill, Act.put, List.setIfInBounds_toArray, List.set_cons_zero, List.set_cons_succ] at hK ⊢
    all_goals rw [if_pos (by rfl)]
    · have bN := Hb1.out.below hG Hb1.out.lt
      have x0 := bN.cell 0
      have x1 := bN.cell 1
      have x2 := bN.cell 2
      have x3 := bN.cell 3
      have x4 := bN.cell 4
      simp [Hcells.out] at x0 x1 x2 x3 x4
      go_simp
      exact hK _ W hG (by show some n.val = _; rw [NetM.val, Hcells.out]) (fun _ _ _ h => h)
    · go_simp
      exact hK _ W hG rfl (fun _ _ _ h => h)
    · have e1 := valsE_get (hp 1 (by decide)) rfl
      simp only [e1] at hK ⊢
      go_simp
      exact hK _ W hG rfl (fun _ _ _ h => h)
    · have e0 := valsE_get (hp 0 (by decide)) rfl
      have e2 := valsE_get (hp 2 (by decide)) rfl
      rw [NetM.val, Hcells.out] at e0
      simp only [e0, e2] at hK ⊢
      go_simp
      go_at_call 60
      refine (HIH.out W hG).mono ?_
      rintro e W' ⟨rfl, hb⟩
      go_simp
      exact hK _ W' (hG.trans (hb.mono hG.size)) rfl (fun _ _ _ h => h)
    · have e3 := valsE_get (hp 3 (by decide)) rfl
      simp only [e3] at hK ⊢
      go_simp
      exact hK _ W hG rfl (fun _ _ _ h => h)
    · have e4 := valsE_get (hp 4 (by decide)) rfl
      simp only [e4] at hK ⊢
      go_simp
      exact hK _ W hG rfl (fun _ _ _ h => h)
    · have e4 := valsE_get (hp 4 (by decide)) rfl
      simp only [e4] at hK ⊢
      go_simp
      exact hK _ W hG rfl (fun _ _ _ h => h)
    · have e5 := valsE_get (hp 5 (by decide)) rfl
      simp only [e5] at hK ⊢
      go_simp
      exact hK _ W hG rfl (fun _ _ _ h => h)
    · have e6 := valsE_get (hp 6 (by decide)) rfl
      simp only [e6] at hK ⊢
      go_simp
      exact hK _ W hG rfl (fun _ _ _ h => h)

end Go.Proofs.Ytjhkadffaephmab

/-
  signpostref.PathsOf.
-/
namespace Go.Proofs.Ytjhkadffaephmab
set_option maxRecDepth 100000
open Go.RowKit

def intV (l : List Int) : List Value := l.map fun c => Value.int .i64 c
theorem intV_len (l : List Int) : (intV l).length = l.length := by simp [intV]
theorem intV_append (l m : List Int) : intV (l ++ m) = intV l ++ intV m := by simp [intV]
theorem intV_get {l : List Int} {i : Nat} {c : Int} (h : l[i]? = some c) : (intV l)[i]? = some (.int .i64 c) := by simp [intV, h]

/-- What the operations of a step leave. -/
def pthE (n : Net) (S : List Int → Prop) (C l : Nat) (xs : List Int) (k : Int) (B : Mat) (rn : Nat) (vs : List Value) (j : Nat) (v : Value) (W : World) : Prop :=
  if j = 7 then (∃ g, v = .slice (some ⟨g, 0, none⟩) 0 0) ∧ W.ownsRow C 3 1 v 0 []
  else if j = 9 then W.ownsRow C 3 1 v l (intV xs)
  else if j = 11 then ∃ g, v = .slice (some ⟨g, 0, none⟩) 1 1 ∧ C ≤ g ∧ g < W.heap.size ∧ W.heap[g]? = some (.cells #[.int .i64 k] 3)
  else if j = 12 then W.ownsRow C 3 1 v (l + 1) (intV (xs ++ [k]))
  else if j = 14 then ∃ r : Nat, v = .int .i64 (r : Int) ∧ n.Least S r
  else if j = 15 then ∃ r : Nat, v = .pointer (some ⟨B.RB rn, B.RO rn + r, none⟩) ∧ n.Least S r
  else if j = 16 then ∃ r : Nat, v = .int .i64 (n.a.B.get rn r) ∧ n.Least S r
  else if j = 17 then ∃ r : Nat, v = .int .i64 (n.a.B.get rn r) ∧ n.Least S r
  else vs[j]? = some v

theorem owns_cell {W : World} {C l : Nat} {v : Value} {xs : List Int} (h : W.ownsRow C 3 1 v (l + 1) (intV xs)) : ∃ g, v.ownBlock = some g ∧ (W.cell? ⟨g, 0, none⟩).isSome = true := by
  rcases h.2 with ⟨_, h0⟩ | ⟨g, cap, cur, rfl, _, hg, hn, _, hs, _⟩
  · omega
  · refine ⟨g, rfl, ?_⟩
    rw [cell_of_row W g 0 cur 3 (0, 0) hg]
    have : 0 < cur.size := by omega
    simp [this]
theorem owns_empty {W : World} {C g : Nat} (h : W.ownsRow C 3 1 (.slice (some ⟨g, 0, none⟩) 0 0) 0 []) : W.cell? ⟨g, 0, none⟩ = none := by
  rcases h.2 with ⟨h0, _⟩ | ⟨g', cap, cur, he, _, hg, _, _, hs, _⟩
  · cases h0
  · simp only [Value.slice.injEq, Option.some.injEq, Addr.mk.injEq, and_true, true_and] at he
    obtain ⟨rfl, rfl⟩ := he
    rw [cell_of_row W g 0 cur 3 (0, 0) hg]
    have : cur.size = 0 := by omega
    simp [this]

section
variable {n : Net} {S : List Int → Prop} {C l : Nat} {xs : List Int} {k : Int} {B : Mat} {rn : Nat} {vs : List Value} {W W' : World}

theorem pthE_get {j : Nat} {v u : Value} (h : pthE n S C l xs k B rn vs j v W) (h1 : j ∉ [7, 9, 11, 12, 14, 15, 16, 17]) (hu : vs[j]? = some u) : v = u := by
  simp only [List.mem_cons, not_or, List.not_mem_nil, not_false_eq_true, and_true] at h1
  unfold pthE at h
  rw [if_neg h1.1, if_neg h1.2.1, if_neg h1.2.2.1, if_neg h1.2.2.2.1, if_neg h1.2.2.2.2.1, if_neg h1.2.2.2.2.2.1, if_neg h1.2.2.2.2.2.2.1, if_neg h1.2.2.2.2.2.2.2, hu] at h
  exact (Option.some.inj h).symm
theorem pthE_kept (j : Nat) (u : Value) {row : Option Nat} (hg : W.grownBy W' row)
    (h7 : j = 7 → ∀ g, W.cell? ⟨g, 0, none⟩ = none → row ≠ some g) (h9 : j = 9 → ∀ g, (W.cell? ⟨g, 0, none⟩).isSome = true → row ≠ some g) (h11 : j = 11 → ∀ g, (W.cell? ⟨g, 0, none⟩).isSome = true → row ≠ some g) (h12 : j = 12 → ∀ g, (W.cell? ⟨g, 0, none⟩).isSome = true → row ≠ some g) (hl : ∃ m, l = m + 1)
    (h : pthE n S C l xs k B rn vs j u W) : pthE n S C l xs k B rn vs j u W' := by
  obtain ⟨m, rfl⟩ := hl
  unfold pthE at h ⊢
  by_cases e7 : j = 7
  · rw [if_pos e7] at h ⊢
    obtain ⟨⟨g, rfl⟩, ho⟩ := h
    exact ⟨⟨g, rfl⟩, ho.kept hg (Or.inr (fun e => h7 e7 g (owns_empty ho) e.symm))⟩
  rw [if_neg e7] at h ⊢
  by_cases e9 : j = 9
  · rw [if_pos e9] at h ⊢
    obtain ⟨g, hb, hc⟩ := owns_cell h
    exact h.kept hg (Or.inr (fun e => h9 e9 g hc (by rw [← e, hb])))
  rw [if_neg e9] at h ⊢
  by_cases e11 : j = 11
  · rw [if_pos e11] at h ⊢
    obtain ⟨g, rfl, h1, h2, h3⟩ := h
    have hc : (W.cell? ⟨g, 0, none⟩).isSome = true := by
      rw [cell_of_row W g 0 #[.int .i64 k] 3 (0, 0) h3]; rfl
    exact ⟨g, rfl, h1, Nat.lt_of_lt_of_le h2 hg.size, by rw [hg.block g h2 (fun e => h11 e11 g hc e.symm)]; exact h3⟩
  rw [if_neg e11] at h ⊢
  by_cases e12 : j = 12
  · rw [if_pos e12] at h ⊢
    obtain ⟨g, hb, hc⟩ := owns_cell h
    exact h.kept hg (Or.inr (fun e => h12 e12 g hc (by rw [← e, hb])))
  rw [if_neg e12] at h ⊢
  exact h
theorem pthE_below (hb : Below W.heap.size W W') (hl : ∃ m, l = m + 1) (j : Nat) (u : Value) (h : pthE n S C l xs k B rn vs j u W) : pthE n S C l xs k B rn vs j u W' :=
  pthE_kept j u (row := none) ⟨hb.os, hb.tape, hb.output, hb.size, fun i hi _ => hb.block i hi⟩ (fun _ _ _ => by simp) (fun _ _ _ => by simp) (fun _ _ _ => by simp) (fun _ _ _ => by simp) hl h
end

/-- An append onto ints of one's own, of ints. -/
theorem append_ints (W : World) (C : Nat) (V : Value) (xs ys : List Int) (ho : W.ownsRow C 3 1 V xs.length (intV xs)) (ad : Addr) (c : Nat) (hy : ∀ j u, (intV ys)[j]? = some u → W.cell? (ad.add j) = some u) (h0 : 0 < ys.length) (hk : xs.length + ys.length ≤ 100) (hC : C ≤ W.heap.size) (ty : TypeId) :
    ∃ g cap W', (Builtin.append_ #[22, 22] ty #[V, .slice (some ad) ys.length c]).run Try.prog W = .ok (.slice (some ⟨g, 0, none⟩) (xs.length + ys.length) cap) W' ∧
      W'.ownsRow C 3 1 (.slice (some ⟨g, 0, none⟩) (xs.length + ys.length) cap) (xs.length + ys.length) (intV (xs ++ ys)) ∧ W.grownBy W' V.ownBlock := by
  obtain ⟨i0, hi0, hy0, hy1, hy2⟩ := info_parts Try.infoInt
  obtain ⟨g, cap, w', hr, h2, h3, _, _⟩ := run_append_lies (P := Try.prog) W 22 ty C 3 i0 (.int .i64 0) 1 8 Try.underlying22 hi0 hy0 hy1 hy2 rfl (by decide) V xs.length _ ho ad ys.length c (intV ys) (by rw [intV_len]; omega) hy (fun u hu => by
    obtain ⟨_, _, rfl⟩ := List.mem_map.1 hu
    rfl) h0 (by unfold maxLen; omega) (by omega) hC _ rfl
  exact ⟨g, cap, w', hr, by rw [intV_append]; exact h2, h3⟩

theorem Net.weigh_ext {n : Net} : ∀ {q : List Int} {a b w : Int}, n.weigh (q ++ [a]) = some w → 0 ≤ n.edge a b → ∃ v, n.weigh (q ++ [a] ++ [b]) = some v
  | [], a, b, w, _, he => ⟨n.a.E.get (n.edge a b) 0, by
      show n.weigh [a, b] = _
      rw [n.weigh_two, if_pos he, n.weigh_one]
      rfl⟩
  | c :: q, a, b, w, h, he => by
    obtain ⟨b', t', v, e1, e2, e3, _⟩ := Net.weigh_tail (l := q ++ [a]) h (by simp)
    obtain ⟨v', hv'⟩ := Net.weigh_ext e3 he
    refine ⟨n.a.E.get (n.edge c b') v', ?_⟩
    show n.weigh (c :: (q ++ [a] ++ [b])) = _
    have e4 : q ++ [a] ++ [b] = b' :: (t' ++ [b]) := by rw [e1]; rfl
    rw [e4] at hv' ⊢
    rw [n.weigh_two, if_pos e2, hv']
    rfl

/-- append, by what its run comes to. -/
theorem wp_append_run {P : Program} {o : Oper} {a : Act} {w : World} {K : Act → World → Prop} {Q : Exit → Act → World → Prop}
    (hg : o.guard = none) (s x : Operand) (t : TypeId) (hop : o.op = Op.call { callee := Callee.builtin Builtin.append, args := #[s, x], argTypes := #[t, t] })
    (sv xv : Value) (hs : a.eval s = sv) (hx : a.eval x = xv) (v' : Value) (w' : World) (hrun : (Builtin.append_ #[t, t] o.type #[sv, xv]).run P w = .ok v' w') (hK : K (a.put o.dst v') w') : Oper.wp P o a w K Q := by
  have := step_append_run (ops := #[]) (E := False) (Q := Q) hg s x t hop sv xv hs hx v' w' hrun hK
  have hw : Region.wanted o (yielded #[] a.tmps) = true := by simp [Region.wanted, hg]
  rw [if_pos hw] at this
  exact this

/-- A row of one's own, read. -/
theorem owns_ints {W : World} {C l : Nat} {v : Value} {xs : List Int} (h : W.ownsRow C 3 1 v (l + 1) (intV xs)) (hx : xs.length = l + 1) : ∃ g cap, v = .slice (some ⟨g, 0, none⟩) (l + 1) cap ∧ Ints (some ⟨g, 0, none⟩) (l + 1) g 0 (fun i => xs.getD i 0) W ∧ g < W.heap.size ∧ C ≤ g ∧ l + 1 ≤ cap ∧ cap ≤ maxLen ∧ listOf (l + 1) (fun i => xs.getD i 0) = xs := by
  rcases h.2 with ⟨_, h0⟩ | ⟨g, cap, cur, rfl, hb, hg, hn, hm, hs, ht⟩
  · omega
  · have hlt := (Array.getElem?_eq_some_iff.1 hg).1
    refine ⟨g, cap, rfl, ⟨fun _ => rfl, fun i hi => ?_, by omega⟩, hlt, hb, hn, hm, ?_⟩
    · rw [Nat.zero_add, h.cellAt i (by omega)]
      have : xs[i]? = some (xs.getD i 0) := by rw [List.getD_eq_getElem?_getD, List.getElem?_eq_getElem (by omega)]; rfl
      exact intV_get this
    · apply List.ext_getElem
      · rw [listOf_length, hx]
      · intro i h1 h2
        simp [listOf, List.getD_eq_getElem?_getD, h2]

end Go.Proofs.Ytjhkadffaephmab
