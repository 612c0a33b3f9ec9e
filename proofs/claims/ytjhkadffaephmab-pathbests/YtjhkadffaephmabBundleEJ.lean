/-
  Our own texts, bundled: a claim holds few files.
-/
import Derived.Test.YtjhkadffaephmabBundleEI
import Derived.Test.YtjhkadffaephmabBundleEH
/-
  path.look: the route of one node to one node.
-/
namespace Go.Proofs.Ytjhkadffaephmab
set_option maxRecDepth 100000
open Go.RowKit

/-- A value that is a route, and lies neither in that block nor below that one. -/
def RtAt (x : Rt) (B fb : Nat) (v : Value) (W : World) : Prop := ∃ r : RtM, v = r.val ∧ r.In W.heap.size W ∧ r.rt = x ∧ (0 < r.l → B < r.b ∧ r.b ≠ fb)
theorem RtAt.keep {x : Rt} {B fb : Nat} {v : Value} {W W' : World} (h : RtAt x B fb v W) (hb : Below W.heap.size W W') : RtAt x B fb v W' := by
  obtain ⟨r, h1, h2, h3, h4⟩ := h
  exact ⟨r, h1, h2.grown hb, h3, h4⟩
/-- A value that is a route. -/
def RtIs (x : Rt) (v : Value) (W : World) : Prop := ∃ r : RtM, v = r.val ∧ r.In W.heap.size W ∧ r.rt = x
theorem RtIs.keep {x : Rt} {v : Value} {W W' : World} (h : RtIs x v W) (hb : Below W.heap.size W W') : RtIs x v W' := by
  obtain ⟨r, h1, h2, h3⟩ := h
  exact ⟨r, h1, h2.grown hb, h3⟩

/-- What stands all through a look: the net and the route so far. -/
structure LkI (n : NetM) (x : Rt) (w : World) (fb : Nat) (W : World) : Prop where
  below : Below w.heap.size w W
  net : Blk W w.heap.size n.cells 41
  res : Blk W (w.heap.size + 1) #[.int .i64 0, .slice none 0 0] 71
  lt : w.heap.size + 1 < fb
  out : ∃ r : RtM, Blk W fb r.cells 71 ∧ r.In W.heap.size W ∧ r.rt = x ∧ (0 < r.l → w.heap.size + 1 < r.b ∧ r.b ≠ fb)
theorem LkI.keep {n : NetM} {x : Rt} {w : World} {fb : Nat} {W W' : World} (h : LkI n x w fb W) (hb : Below W.heap.size W W') : LkI n x w fb W' := by
  obtain ⟨r, h1, h2, h3, h4⟩ := h.out
  exact ⟨h.below.trans (hb.mono h.below.size), h.net.below hb h.net.lt, h.res.below hb h.res.lt, h.lt, r, h1.below hb h1.lt, h2.grown hb, h3, h4⟩
theorem LkI.put {n : NetM} {x y : Rt} {w : World} {fb : Nat} {W : World} (h : LkI n x w fb W) {r : RtM} (hr : r.In W.heap.size W) (hy : r.rt = y) (ho : 0 < r.l → w.heap.size + 1 < r.b ∧ r.b ≠ fb) :
    LkI n y w fb ((W.setCell ⟨fb, 0, none⟩ (.int .i64 r.w)).setCell ⟨fb, 1, none⟩ (.slice r.pa r.l r.q)) := by
  obtain ⟨r0, h1, _, _, _⟩ := h.out
  have hlt := h.lt
  exact ⟨(h.below.setCell (p := ⟨fb, 0, none⟩) (by show w.heap.size ≤ fb; omega) _).setCell (p := ⟨fb, 1, none⟩) (by show w.heap.size ≤ fb; omega) _, (h.net.other (by omega) _ _).other (by omega) _ _, (h.res.other (by omega) _ _).other (by omega) _ _, h.lt, r, h1.set2 _ _, (hr.off (fun h0 => (ho h0).2) _ _).off (fun h0 => (ho h0).2) _ _, hy, ho⟩
structure LkG (n : NetM) (x : Rt) (w : World) (fb lb : Nat) (F T E : Int) (W : World) : Prop where
  at_ : LkI n x w fb W
  lnk : Blk W lb #[.int .i64 F, .int .i64 T, .int .i64 E] 79
theorem LkG.keep {n : NetM} {x : Rt} {w : World} {fb lb : Nat} {F T E : Int} {W W' : World} (h : LkG n x w fb lb F T E W) (hb : Below W.heap.size W W') : LkG n x w fb lb F T E W' := ⟨h.at_.keep hb, h.lnk.below hb h.lnk.lt⟩

/-- What the operations leave. -/
def lkE (vs : List Value) (x y z u : Rt) (B fb : Nat) (k : Nat) (v : Value) (W : World) : Prop :=
  match k with
  | 1 => RtAt x B fb v W
  | 7 => RtIs y v W
  | 8 => RtAt z B fb v W
  | 9 => RtAt u B fb v W
  | k => vs[k]? = some v
theorem lkE.keep {vs : List Value} {x y z u : Rt} {B fb : Nat} {W W' : World} (hb : Below W.heap.size W W') (k : Nat) (v : Value) (h : lkE vs x y z u B fb k v W) : lkE vs x y z u B fb k v W' := by
  unfold lkE at *
  split at h
  · exact h.keep hb
  · exact h.keep hb
  · exact h.keep hb
  · exact h.keep hb
  · exact h
theorem lkE_get {vs : List Value} {x y z u : Rt} {B fb k : Nat} {v t : Value} {W : World} (h : lkE vs x y z u B fb k v W) (hk : k ≠ 1 ∧ k ≠ 7 ∧ k ≠ 8 ∧ k ≠ 9) (hu : vs[k]? = some t) : v = t := by
  unfold lkE at h
  split at h
  · exact absurd rfl hk.1
  · exact absurd rfl hk.2.1
  · exact absurd rfl hk.2.2.1
  · exact absurd rfl hk.2.2.2
  · rw [hu] at h
    injection h with h
    exact h.symm

set_option maxHeartbeats 4000000 in
theorem lookP_any (fid : Nat) (cap : Array Value) (n : NetM) (i j : Nat) (has : Nat → Rt) (w : World) (h : n.In w.heap.size w) (hck : n.net.check = 0) (hi : i < n.net.N) (hr : ∀ v, v < n.net.N → n.net.Right (has v))
    (hcf : ∀ (args : Array Value) (W : World), (callFunc fid args).run Try.prog W = .ok (.enter fid args) W)
    (hat : ∀ (v : Nat) (W : World), v < n.net.N → Below w.heap.size w W → Calls Try.prog fid (#[.int .i64 v] ++ cap) W fun e w' => (∃ v', e = .returned v' ∧ RtIs (has v) v' w') ∧ Below W.heap.size W w') :
    Calls Try.prog 167 #[n.val, .int .i64 i, .int .i64 j, .func (.func fid) #[] cap] w fun e w' => (∃ r : RtM, e = .returned r.val ∧ r.Made w.heap.size (n.net.proute i j has) w') ∧ Below w.heap.size w w' := by
  have hlen := h.len
  unfold maxLen at hlen
  have g := Net.good_of_check hck
  have lo : 2 ≤ n.a.size := g.law.good.lo
  have hi24 : n.a.size ≤ 24 := g.law.good.hi
  obtain ⟨W1, hW1⟩ : ∃ W1, W1 = (w.alloc (.cells n.cells 41)).alloc (.cells #[.int .i64 0, .slice none 0 0] 71) := ⟨_, rfl⟩
  have hB1 : Below w.heap.size w W1 := by rw [hW1]; exact ((Below.refl _ w).alloc (Nat.le_refl _) _).alloc (by simp) _
  have b0 : Blk W1 w.heap.size n.cells 41 := by rw [hW1]; exact (Blk.new w _ _).alloc _
  have b1 : Blk W1 (w.heap.size + 1) #[.int .i64 0, .slice none 0 0] 71 := by rw [hW1]; exact Blk.new' (by simp)
  have HO := hide (ownP_any n i j W1 lo hi24)
  have HA := hide hat
  have HS := hide (n.net.plook_spec g hr hi j)
  have Hbeg : Hid (n.net.ownR i j = n.net.plook i j has 0) := hide rfl
  have HEnd := hide (n.net.plook_route hck hr hi j)
  have G := hide g
  have H := hide h
  have HR := hide hr
  have HK := hide hck
  have HB1 := hide hB1
  have Hb0 := hide b0
  have Hb1 := hide b1
  have x0 := b0.cell 0
  have x1 := b0.cell 1
  have x2 := b0.cell 2
  have x3 := b0.cell 3
  have x4 := b0.cell 4
  simp [NetM.cells, Mat.val] at x0 x1 x2 x3 x4
  have HW1 := hide hW1
  rw [hW1] at HO x0 x1 x2 x3 x4
  simp only [NetM.val, NetM.cells, Mat.val] at HO HW1 x0 x1 x2 x3 x4 ⊢
  clear hat h g hr hck hB1 b0 b1 hW1
  go_enter Try.func167, Try.ntmps167
  go_wp2_with fail
  go_at_call 199
  refine HO.out.mono ?_
  rw [← HW1.out]
  rintro e w2 ⟨⟨r0, rfl, hm0⟩, hb2⟩
  obtain ⟨fb, hfb⟩ : ∃ fb, fb = w2.heap.size := ⟨_, rfl⟩
  have hBa : Below w2.heap.size w2 (w2.alloc (.cells r0.cells 71)) := (Below.refl _ w2).alloc (Nat.le_refl _) _
  have hI0 : LkI n (n.net.plook i j has 0) w fb (w2.alloc (.cells r0.cells 71)) := by
    rw [hfb]
    refine ⟨(HB1.out.trans (hb2.mono HB1.out.size)).alloc (by have := HB1.out.size; have := hb2.size; omega) _, (Hb0.out.below hb2 Hb0.out.lt).alloc _, (Hb1.out.below hb2 Hb1.out.lt).alloc _, by have := Hb1.out.lt; have := hb2.size; omega, r0, Blk.new w2 _ _, hm0.mem.grown hBa, by rw [← Hbeg.out]; exact hm0.same, fun h0 => ⟨?_, ?_⟩⟩
    · have := hm0.own h0; have := Hb1.out.lt; omega
    · have := hm0.mem.blk h0; omega
  have HI0 := hide hI0
  have y4 := hI0.net.cell 4
  simp [NetM.cells] at y4
  simp only [RtM.val, RtM.cells] at HI0 y4 ⊢
  clear hb2 hm0 HO HW1 x0 x1 x2 x3 x4 hBa hI0 HB1 Hb0 Hb1
  go_wp2_with fail
  rw [← hfb]
  clear hfb y4
  go_loopw [11, 19] (fun _ q wr => ∃ k : Nat, k ≤ n.ln ∧ q = .int .i64 k ∧ Hid (LkI n (n.net.plook i j has k) w fb wr)) (fun _ q _ => n.ln - (intOf q).toNat)
  case atStart => exact ⟨0, Nat.zero_le _, rfl, HI0⟩
  case round =>
    obtain ⟨k, hk, rfl, HJ⟩ := hrel
    clear HI0
    by_cases hlt : k < n.ln
    · have hki : (k : Int) < (n.ln : Int) := by omega
      have hI := H.out.below HJ.out.below (Nat.le_refl _)
      have hla := H.out.la (by omega)
      have gl := G.out.link k hlt
      obtain ⟨kt, hkt⟩ : ∃ kt : Nat, n.T k = kt := ⟨(n.T k).toNat, by have := gl.2.2.1; have e : n.net.T k = n.T k := rfl; omega⟩
      obtain ⟨ke, hke⟩ : ∃ ke : Nat, n.E k = ke := ⟨(n.E k).toNat, by have := gl.2.2.2.2.1; have e : n.net.E k = n.E k := rfl; omega⟩
      have ht : kt < n.net.N := by have := gl.2.2.2.1; have e : n.net.T k = n.T k := rfl; have e2 : n.net.N = n.net.nodes.toNat := rfl; omega
      have hke8 : ke < n.a.E.t.len := by have := gl.2.2.2.2.2; have e : n.net.E k = n.E k := rfl; have e2 : n.net.a.E.len = n.a.E.t.len := rfl; omega
      have c0 := hI.f k hlt
      have c1 := hI.t k hlt
      have c2 := hI.e k hlt
      rw [hkt] at c1
      rw [hke] at c2
      have HJa : Hid (LkG n (n.net.plook i j has k) w fb wr.heap.size (n.F k) kt ke (wr.alloc (.cells #[.int .i64 (n.F k), .int .i64 kt, .int .i64 ke] 79))) := hide ⟨HJ.out.keep ((Below.refl _ wr).alloc (Nat.le_refl _) _), Blk.new wr _ _⟩
      clear hI
      by_cases hfi : n.F k = i
      · have hfi' : (n.F k == (i : Int)) = true := by simp [hfi]
        have Hn : Hid (n.net.plook i j has (k + 1) = n.net.bestR (n.net.plook i j has k) (n.net.ext (n.F k) ke (has kt))) := hide (by
          have hF : n.net.F k = (i : Int) := hfi
          rw [Net.plook, if_pos hF]
          show n.net.bestR _ (n.net.ext i (n.E k) (has (n.T k).toNat)) = _
          rw [hke, hkt, Int.toNat_natCast, hfi])
        have Hrt := hide (HR.out kt ht)
        have Hrx := hide (HS.out k hk).1
        have Hex : Hid (n.net.Right (n.net.ext (n.F k) ke (has kt))) := hide (by
          refine n.net.ext_right G.out Hrt.out ?_ ?_ (by omega) (by show (ke : Int) < n.a.E.t.len; omega)
          · rw [hfi]; omega
          · rw [hfi]; have e2 : n.net.N = n.net.nodes.toNat := rfl; omega)
        have HT := hide (fun W (hb : Below w.heap.size w W) => HA.out kt W ht hb)
        have HEx := hide (fun (r : RtM) W (hb : Below w.heap.size w W) (hI : r.In W.heap.size W) (hR : n.net.Right r.rt) => extended_any n (n.F k) kt ke r W (H.out.grown hb) HK.out hI hR (by have := Net.Right.short G.out hR; omega) hke8)
        have HBs := hide (fun (a b : RtM) W (hb : Below w.heap.size w W) (hIa : a.In W.heap.size W) (hIb : b.In W.heap.size W) (hRa : n.net.Right a.rt) (hRb : n.net.Right b.rt) => bestP_any n a b W (H.out.grown hb) HK.out hIa hIb hRa.lo hRa.hi hRb.lo hRb.hi)
        simp only [NetM.val, NetM.cells, Mat.val] at HEx HBs
        generalize n.net.plook i j has k = px at *
        generalize hpz : n.net.plook i j has (k + 1) = pz at *
        have Hpz := hide hpz
        clear hpz
        generalize hex : n.net.ext (n.F k) ke (has kt) = ex at *
        have Hexq := hide hex
        clear hex
        generalize has kt = hx at *
        clear gl hkt hke hfi HJ HS HA HEnd Hbeg HR
        go_wp2_with fail
        obtain ⟨lb, hlb⟩ : ∃ lb, lb = wr.heap.size := ⟨_, rfl⟩
        obtain ⟨Wl, hWl⟩ : ∃ Wl, Wl = wr.alloc (.cells #[.int .i64 (n.F k), .int .i64 kt, .int .i64 ke] 79) := ⟨_, rfl⟩
        rw [← hlb, ← hWl] at HJa
        rw [← hlb, ← hWl]
        have Hla := hide hla
        clear c0 c1 c2 hlb hWl hla
        refine wp_region_last 10 _ (LkG n px w fb lb (n.F k) kt ke)
          (lkE [n.val, undef, n.val, .agg #[.int .i64 (n.F k), .int .i64 kt, .int .i64 ke], .func (.func fid) #[] cap, .pointer (some ⟨lb, 1, none⟩), .int .i64 kt] px hx ex (n.net.bestR px ex) (w.heap.size + 1) fb)
          (fun _ W => LkI n pz w fb W) (fun _ _ _ => True) (by kernel_rfl) (by kernel_rfl) (by kernel_rfl) (by kernel_rfl) (by kernel_rfl) rfl (HJa.out.keep (below_drewN (Below.refl _ _) 1)) ⟨?_, ?_, ?_, ?_, ?_, ?_, ?_, ?_, ?_, ?_, trivial⟩ ?_ trivial ?_
        rotate_right
        · intro t W hG _
          have HG : Hid (LkI n (n.net.plook i j has (k + 1)) w fb W) := hide (by rw [Hpz.out]; exact hG)
          clear hG HEx HBs HT
          simp only [fill, Act.put, List.setIfInBounds_toArray, List.set_cons_zero, List.set_cons_succ]
          go_wp2
          go_roundw
          case rel =>
            first
            | exact ⟨k + 1, by omega, by go_num, HG⟩
            | ((try rw [← Hla.out]); (repeat apply Exists.intro); refine ⟨?_, rfl⟩; exact ⟨k + 1, by omega, by go_num, HG⟩)
          case measure => simp [intOf]; omega
        rotate_right
        · intro t W hG hE _ K hK
          simp only [fill, Act.put, List.setIfInBounds_toArray, List.set_cons_zero, List.set_cons_succ] at hK ⊢
          rw [if_pos (by rfl)]
          obtain ⟨r, e9, h1, h2, h3⟩ := hE 9 (by omega)
          obtain ⟨ro, hob, _, _, _⟩ := hG.at_.out
          have o0 := hob.cell 0
          have o1 := hob.cell 1
          have f0 := hob.frozen 0
          have f1 := hob.frozen 1
          simp [RtM.cells] at o0 o1
          have hN' := hide (hG.at_.put h1 (h2.trans Hn.out.symm) h3)
          clear hob hG hE h1 h2 h3
          simp only [e9, RtM.val, RtM.cells] at hK ⊢
          go_simp
          exact hK undef _ hN'.out
        all_goals intro t W hG hp _ K hK
        all_goals simp only [fill, Act.put, List.setIfInBounds_toArray, List.set_cons_zero, List.set_cons_succ] at hK ⊢
        all_goals rw [if_pos (by rfl)]
        · have x0 := hG.at_.net.cell 0
          have x1 := hG.at_.net.cell 1
          have x2 := hG.at_.net.cell 2
          have x3 := hG.at_.net.cell 3
          have x4 := hG.at_.net.cell 4
          simp [NetM.cells, Mat.val] at x0 x1 x2 x3 x4
          go_simp
          exact hK _ W hG rfl (fun _ _ _ h => h)
        · obtain ⟨r, hob, h1, h2, h3⟩ := hG.at_.out
          have x0 := hob.cell 0
          have x1 := hob.cell 1
          simp [RtM.cells] at x0 x1
          go_simp
          exact hK _ W hG ⟨r, rfl, h1, h2, h3⟩ (fun _ _ _ h => h)
        · have x0 := hG.at_.net.cell 0
          have x1 := hG.at_.net.cell 1
          have x2 := hG.at_.net.cell 2
          have x3 := hG.at_.net.cell 3
          have x4 := hG.at_.net.cell 4
          simp [NetM.cells, Mat.val] at x0 x1 x2 x3 x4
          go_simp
          exact hK _ W hG rfl (fun _ _ _ h => h)
        · have x0 := hG.lnk.cell 0
          have x1 := hG.lnk.cell 1
          have x2 := hG.lnk.cell 2
          simp at x0 x1 x2
          go_simp
          exact hK _ W hG rfl (fun _ _ _ h => h)
        · go_simp
          exact hK _ W hG rfl (fun _ _ _ h => h)
        · go_simp
          exact hK _ W hG rfl (fun _ _ _ h => h)
        · have e5 := lkE_get (hp 5 (by decide)) (by decide) rfl
          have x1 := hG.lnk.cell 1
          simp at x1
          simp only [e5] at hK ⊢
          go_simp
          exact hK _ W hG rfl (fun _ _ _ h => h)
        · have e4 := lkE_get (hp 4 (by decide)) (by decide) rfl
          have e6 := lkE_get (hp 6 (by decide)) (by decide) rfl
          simp only [e4, e6] at hK ⊢
          go_simp
          refine (HT.out W hG.at_.below).mono ?_
          rintro e W' ⟨⟨v', rfl, hv'⟩, hb⟩
          go_simp
          exact hK _ W' (hG.keep hb) hv' (fun q u _ => lkE.keep hb q u)
        · have e2 := lkE_get (hp 2 (by decide)) (by decide) rfl
          have e3 := lkE_get (hp 3 (by decide)) (by decide) rfl
          obtain ⟨r, e7, h1, h2⟩ := hp 7 (by decide)
          simp only [NetM.val, NetM.cells, Mat.val] at e2
          simp only [e2, e3, e7] at hK ⊢
          have hX := HEx.out r W hG.at_.below h1 (by rw [h2]; exact Hrt.out)
          rw [h2] at hX
          simp only [RtM.val, RtM.cells] at hX hK ⊢
          go_simp
          go_at_call 96
          refine hX.mono ?_
          rintro e W' ⟨⟨r', rfl, hm⟩, hb⟩
          go_simp
          have hlt1 := hG.at_.res.lt
          have hlt2 : fb < W.heap.size := by obtain ⟨ro, hob, _⟩ := hG.at_.out; exact hob.lt
          exact hK _ W' (hG.keep hb) ⟨r', rfl, hm.mem, hm.same.trans Hexq.out, fun h0 => by have := hm.own h0; omega⟩ (fun q u _ => lkE.keep hb q u)
        · have e0 := lkE_get (hp 0 (by decide)) (by decide) rfl
          obtain ⟨r1, e1, a1, a2, a3⟩ := hp 1 (by decide)
          obtain ⟨r2, e8, b1, b2, b3⟩ := hp 8 (by decide)
          simp only [NetM.val, NetM.cells, Mat.val] at e0
          simp only [e0, e1, e8] at hK ⊢
          have hX := HBs.out r1 r2 W hG.at_.below a1 b1 (by rw [a2]; exact Hrx.out) (by rw [b2]; exact Hex.out)
          simp only [RtM.val, RtM.cells] at hX hK ⊢
          go_simp
          go_at_call 93
          refine hX.mono ?_
          rintro e W' ⟨rfl, hb⟩
          go_simp
          refine hK _ W' (hG.keep hb) ⟨n.net.bestM r1 r2, rfl, ?_, ?_, ?_⟩ (fun q u _ => lkE.keep hb q u)
          · unfold Net.bestM; split
            · exact b1.grown hb
            · exact a1.grown hb
          · rw [Net.bestM_rt, a2, b2]
          · unfold Net.bestM; split
            · exact b3
            · exact a3
      · have hfi' : (n.F k == (i : Int)) = false := by simp [hfi]
        have Hn : Hid (LkI n (n.net.plook i j has (k + 1)) w fb (wr.alloc (.cells #[.int .i64 (n.F k), .int .i64 kt, .int .i64 ke] 79))) := hide (by
          rw [Net.plook, if_neg (show ¬ n.net.F k = (i : Int) from hfi)]
          exact HJa.out.at_)
        clear hfi HJa HJ
        go_wp2
        go_roundw
        case rel =>
          first
          | exact ⟨k + 1, by omega, by go_num, Hn⟩
          | ((try rw [← hla]); (repeat apply Exists.intro); refine ⟨?_, rfl⟩; exact ⟨k + 1, by omega, by go_num, Hn⟩)
        case measure => simp [intOf]; omega
    · have hkn : k = n.ln := by omega
      subst hkn
      have hki : (n.ln : Int) ≤ (n.ln : Int) := Int.le_refl _
      have Hres := hide HJ.out.res
      obtain ⟨r, hob, h1, h2, h3⟩ := HJ.out.out
      have o0 := hob.cell 0
      have o1 := hob.cell 1
      simp [RtM.cells] at o0 o1
      have q0 := Hres.out.cell 0
      have q1 := Hres.out.cell 1
      have qf0 := Hres.out.frozen 0
      have qf1 := Hres.out.frozen 1
      simp at q0 q1
      have b3 := Hres.out.set2 (.int .i64 r.w) (.slice r.pa r.l r.q)
      have e0 := b3.cell 0
      have e1 := b3.cell 1
      simp at e0 e1
      have HBz := hide ((HJ.out.below.setCell (p := ⟨w.heap.size + 1, 0, none⟩) (by show w.heap.size ≤ w.heap.size + 1; omega) (.int .i64 r.w)).setCell (p := ⟨w.heap.size + 1, 1, none⟩) (by show w.heap.size ≤ w.heap.size + 1; omega) (.slice r.pa r.l r.q))
      have hne : 0 < r.l → r.b ≠ w.heap.size + 1 := fun h0 => by have := (h3 h0).1; omega
      have HMz : Hid (r.Made w.heap.size (n.net.proute i j has) ((wr.setCell ⟨w.heap.size + 1, 0, none⟩ (.int .i64 r.w)).setCell ⟨w.heap.size + 1, 1, none⟩ (.slice r.pa r.l r.q))) := hide ⟨(h1.off hne _ _).off hne _ _, fun h0 => by have := (h3 h0).1; omega, by rw [h2]; exact HEnd.out⟩
      clear b3 hob h1 h2 h3 hne HJ
      go_wp2
      exact bodyPost_ret (v := .agg #[.int .i64 r.w, .slice r.pa r.l r.q]) (by simp [results, Try.results167, go_sem, e0, e1]) rfl ⟨⟨r, rfl, HMz.out⟩, HBz.out⟩

end Go.Proofs.Ytjhkadffaephmab

/-
  path.round, path.Round.
-/
namespace Go.Proofs.Ytjhkadffaephmab
set_option maxRecDepth 100000
open Go.RowKit

theorem calls_roundIn (args : Array Value) (W : World) : (callFunc 168 args).run Try.prog W = .ok (.enter 168 args) W := by rfl
theorem calls_roundOut (args : Array Value) (W : World) : (callFunc 166 args).run Try.prog W = .ok (.enter 166 args) W := by rfl

set_option maxHeartbeats 1000000 in
theorem roundIn_any (x : RMat) (bx bj v j : Nat) (w : World) (h : x.In w.heap.size w) (hbx : Blk w bx #[x.val] 83) (hbj : Blk w bj #[.int .i64 j] 3) (hv : v < x.len) (hj : j < x.L v) :
    Calls Try.prog 168 #[.int .i64 v, .pointer (some ⟨bx, 0, none⟩), .pointer (some ⟨bj, 0, none⟩)] w fun e w' => (∃ v', e = .returned v' ∧ RtIs (x.R v j).rt v' w') ∧ Below w.heap.size w w' := by
  obtain ⟨W1, hW1⟩ : ∃ W1, W1 = w.alloc (.cells #[.int .i64 0, .slice none 0 0] 71) := ⟨_, rfl⟩
  have hB1 : Below w.heap.size w W1 := by rw [hW1]; exact (Below.refl _ w).alloc (Nat.le_refl _) _
  have Hb1 : Hid (Blk W1 w.heap.size #[.int .i64 0, .slice none 0 0] 71) := hide (by rw [hW1]; exact Blk.new w _ _)
  have hga := h.ga (by omega)
  have HX := hide (fun W (hb : Below w.heap.size w W) => (h.below hb (Nat.le_refl _)).at hv hj)
  have HB := hide (fun W (hb : Below w.heap.size w W) => (hbx.below hb hbx.lt).cell 0)
  have HJ := hide (fun W (hb : Below w.heap.size w W) => (hbj.below hb hbj.lt).cell 0)
  have HR := hide (fun W (hb : Below w.heap.size w W) => (h.grown hb).rt v hv j hj)
  have HoR : Hid (0 < (x.R v j).l → (x.R v j).b < w.heap.size) := hide (h.rt v hv j hj).blk
  have HB1 := hide hB1
  have hvi : (v : Int) < (x.len : Int) := by omega
  have hji : (j : Int) < (x.L v : Int) := by omega
  simp only [RMat.val, hga] at HB
  generalize x.R v j = r at *
  clear h hbx hbj hB1 hga
  go_enter Try.func168, Try.ntmps168
  go_wp2_with fail
  rw [← hW1]
  clear hW1
  refine wp_region_last 7 _ (fun W => Below W1.heap.size W1 W)
    (valsE [.slice (some ⟨x.gb, x.go, none⟩) x.len x.cap, .int .i64 v, .pointer (some ⟨x.gb, x.go + v, none⟩), .slice (some ⟨x.RB v, x.RO v, none⟩) (x.L v) (x.C v), .int .i64 j, .pointer (some ⟨x.RB v, x.RO v + j * 2, none⟩), r.val])
    (fun _ W => Blk W w.heap.size r.cells 71 ∧ Below w.heap.size w W ∧ r.In W.heap.size W) (fun _ _ _ => True) (by kernel_rfl) (by kernel_rfl) (by kernel_rfl) (by kernel_rfl) (by kernel_rfl) rfl (below_drewN (Below.refl _ _) 1) ⟨?_, ?_, ?_, ?_, ?_, ?_, ?_, trivial⟩ ?_ trivial ?_
  rotate_right
  · intro t W hG _
    simp only [fill, Act.put, List.setIfInBounds_toArray, List.set_cons_zero, List.set_cons_succ]
    obtain ⟨hb', hbl, hin⟩ := hG
    have HBl := hide hbl
    have HIn := hide hin
    have e0 := hb'.cell 0
    have e1 := hb'.cell 1
    simp [RtM.cells] at e0 e1
    clear hb' hbl hin
    go_wp2
    exact bodyPost_ret (v := .agg #[.int .i64 r.w, .slice r.pa r.l r.q]) (by simp [results, Try.results168, go_sem, e0, e1]) rfl ⟨⟨_, rfl, r, rfl, HIn.out, rfl⟩, HBl.out⟩
  rotate_right
  · intro t W hG hE _ K hK
    simp only [fill, Act.put, List.setIfInBounds_toArray, List.set_cons_zero, List.set_cons_succ] at hK ⊢
    rw [if_pos (by rfl)]
    have e6 := valsE_get (hE 6 (by omega)) rfl
    have b2 := Hb1.out.below hG Hb1.out.lt
    have o0 := b2.cell 0
    have o1 := b2.cell 1
    have f0 := b2.frozen 0
    have f1 := b2.frozen 1
    simp at o0 o1
    have hBw := HB1.out.trans (hG.mono HB1.out.size)
    have hne : 0 < r.l → r.b ≠ w.heap.size := fun h0 => by have := HoR.out h0; omega
    have hN' := hide (And.intro (b2.set2 (.int .i64 r.w) (.slice r.pa r.l r.q)) (And.intro ((hBw.setCell (p := ⟨w.heap.size, 0, none⟩) (Nat.le_refl _) (.int .i64 r.w)).setCell (p := ⟨w.heap.size, 1, none⟩) (Nat.le_refl _) (.slice r.pa r.l r.q)) (((HR.out W hBw).off hne 0 (.int .i64 r.w)).off hne 1 (.slice r.pa r.l r.q))))
    clear b2 hG hE hBw hne
    simp only [e6, RtM.val, RtM.cells] at hK ⊢
    go_simp
    exact hK undef _ hN'.out
  all_goals intro t W hG hp _ K hK
  all_goals simp only [fill, Act.put, List.setIfInBounds_toArray, List.set_cons_zero, List.set_cons_succ] at hK ⊢
  all_goals rw [if_pos (by rfl)]
  · have x0 := HB.out W (HB1.out.trans (hG.mono HB1.out.size))
    simp at x0
    go_simp
    exact hK _ W hG rfl (fun _ _ _ h => h)
  · go_simp
    exact hK _ W hG rfl (fun _ _ _ h => h)
  · have e0 := valsE_get (hp 0 (by decide)) rfl
    have e1 := valsE_get (hp 1 (by decide)) rfl
    simp only [e0, e1] at hK ⊢
    go_simp
    exact hK _ W hG rfl (fun _ _ _ h => h)
  · have e2 := valsE_get (hp 2 (by decide)) rfl
    have x0 := (HX.out W (HB1.out.trans (hG.mono HB1.out.size))).2.1
    simp only [e2] at hK ⊢
    go_simp
    exact hK _ W hG rfl (fun _ _ _ h => h)
  · have x0 := HJ.out W (HB1.out.trans (hG.mono HB1.out.size))
    simp at x0
    go_simp
    exact hK _ W hG rfl (fun _ _ _ h => h)
  · have e3 := valsE_get (hp 3 (by decide)) rfl
    have e4 := valsE_get (hp 4 (by decide)) rfl
    simp only [e3, e4] at hK ⊢
    go_simp
    exact hK _ W hG rfl (fun _ _ _ h => h)
  · have e5 := valsE_get (hp 5 (by decide)) rfl
    have x0 := (HX.out W (HB1.out.trans (hG.mono HB1.out.size))).2.2.1
    have x1 := (HX.out W (HB1.out.trans (hG.mono HB1.out.size))).2.2.2
    simp only [e5] at hK ⊢
    go_simp
    exact hK _ W hG rfl (fun _ _ _ h => h)

set_option maxHeartbeats 1000000 in
theorem roundOut_any (n : NetM) (x : RMat) (bn bx i j : Nat) (w : World) (h : n.In w.heap.size w) (hx : x.In w.heap.size w) (hck : n.net.check = 0) (his : n.net.PIs x.t) (hbn : Blk w bn n.cells 41) (hbx : Blk w bx #[x.val] 83) (hi : i < n.net.N) (hj : j < n.net.N) :
    Calls Try.prog 166 #[.int .i64 i, .int .i64 j, .pointer (some ⟨bn, 0, none⟩), .pointer (some ⟨bx, 0, none⟩)] w fun e w' => (∃ r : RtM, e = .returned r.val ∧ r.Made w.heap.size (n.net.pround x.t.Z i j) w') ∧ Below w.heap.size w w' := by
  obtain ⟨W1, hW1⟩ : ∃ W1, W1 = (w.alloc (.cells #[.int .i64 j] 3)).alloc (.cells #[.int .i64 0, .slice none 0 0] 71) := ⟨_, rfl⟩
  have hB1 : Below w.heap.size w W1 := by rw [hW1]; exact ((Below.refl _ w).alloc (Nat.le_refl _) _).alloc (by simp) _
  have bj : Blk W1 w.heap.size #[.int .i64 j] 3 := by rw [hW1]; exact (Blk.new w _ _).alloc _
  have br : Blk W1 (w.heap.size + 1) #[.int .i64 0, .slice none 0 0] 71 := by rw [hW1]; exact Blk.new' (by simp)
  have hvl : ∀ v, v < n.net.N → v < x.len := fun v hv => by have : x.len = n.net.N := his.len; omega
  have hjl : ∀ v, v < n.net.N → j < x.L v := fun v hv => by have : x.L v = n.net.N := his.wide v hv; omega
  have HL := hide (lookP_any 168 #[.pointer (some ⟨bx, 0, none⟩), .pointer (some ⟨w.heap.size, 0, none⟩)] n i j (fun v => x.t.Z v j) W1 (h.grown hB1) hck hi (fun v hv => (his.state v j hv hj).right) calls_roundIn (fun v W hv hb =>
    roundIn_any x bx w.heap.size v j W ((hx.grown hB1).grown hb) ((hbx.below hB1 hbx.lt).below hb (Nat.lt_of_lt_of_le hbx.lt hB1.size)) (bj.below hb bj.lt) (hvl v hv) (hjl v hv)))
  have Hpr : Hid (n.net.pround x.t.Z i j = n.net.proute i j (fun v => x.t.Z v j)) := hide rfl
  rw [← Hpr.out] at HL
  have bn1 := hbn.below hB1 hbn.lt
  have x0 := bn1.cell 0
  have x1 := bn1.cell 1
  have x2 := bn1.cell 2
  have x3 := bn1.cell 3
  have x4 := bn1.cell 4
  have y0 := bj.cell 0
  simp [NetM.cells, Mat.val] at x0 x1 x2 x3 x4 y0
  have HB1 := hide hB1
  have Hbr := hide br
  have HW1 := hide hW1
  generalize n.net.pround x.t.Z i j = pr at *
  rw [hW1] at HL x0 x1 x2 x3 x4 y0
  simp only [NetM.val, NetM.cells, Mat.val] at HL x0 x1 x2 x3 x4 y0
  clear h hx hck his hbn hbx hB1 bj br hvl hjl bn1 hW1 Hpr
  go_enter Try.func166, Try.ntmps166
  go_wp2_with fail
  go_at_call 167
  refine HL.out.mono ?_
  rw [← HW1.out]
  rintro e w2 ⟨⟨r, rfl, hm⟩, hb2⟩
  have b2 := Hbr.out.below hb2 Hbr.out.lt
  have o0 := b2.cell 0
  have o1 := b2.cell 1
  have f0 := b2.frozen 0
  have f1 := b2.frozen 1
  have b3 := b2.set2 (.int .i64 r.w) (.slice r.pa r.l r.q)
  have e0 := b3.cell 0
  have e1 := b3.cell 1
  simp at o0 o1 e0 e1
  have hBw := HB1.out.trans (hb2.mono HB1.out.size)
  have HBz := hide ((hBw.setCell (p := ⟨w.heap.size + 1, 0, none⟩) (by show w.heap.size ≤ w.heap.size + 1; omega) (.int .i64 r.w)).setCell (p := ⟨w.heap.size + 1, 1, none⟩) (by show w.heap.size ≤ w.heap.size + 1; omega) (.slice r.pa r.l r.q))
  have HMz := hide (((hm.put Hbr.out.lt 0 (.int .i64 r.w)).put Hbr.out.lt 1 (.slice r.pa r.l r.q)).lower HB1.out.size)
  simp only [RtM.val, RtM.cells]
  clear b2 b3 hBw hb2 hm HL HW1 x0 x1 x2 x3 x4 y0
  go_wp2
  exact bodyPost_ret (v := .agg #[.int .i64 r.w, .slice r.pa r.l r.q]) (by simp [results, Try.results166, go_sem, e0, e1]) rfl ⟨⟨r, rfl, HMz.out⟩, HBz.out⟩

set_option maxHeartbeats 2000000 in
theorem roundP_any (n : NetM) (x : RMat) (w : World) (h : n.In w.heap.size w) (hx : x.In w.heap.size w) (hck : n.net.check = 0) (his : n.net.PIs x.t) :
    Calls Try.prog 102 #[n.val, x.val] w fun e w' => (∃ m : RMat, e = .returned m.val ∧ FreshR n.net.N (n.net.pround x.t.Z) m w') ∧ Below w.heap.size w w' := by
  have g := Net.good_of_check hck
  have lo := g.lo
  have hi6 := g.hi
  obtain ⟨N, hN⟩ : ∃ N : Nat, n.nodes = N := ⟨n.nodes.toNat, by have : n.net.nodes = n.nodes := rfl; omega⟩
  have hNN : n.net.N = N := by show n.nodes.toNat = N; omega
  have hN6 : N ≤ 6 := by have : n.net.nodes = n.nodes := rfl; omega
  have hN1 : 1 ≤ N := by have : n.net.nodes = n.nodes := rfl; omega
  obtain ⟨W1, hW1⟩ : ∃ W1, W1 = (w.alloc (.cells n.cells 41)).alloc (.cells #[x.val] 83) := ⟨_, rfl⟩
  have hB1 : Below w.heap.size w W1 := by rw [hW1]; exact ((Below.refl _ w).alloc (Nat.le_refl _) _).alloc (by simp) _
  have bn : Blk W1 w.heap.size n.cells 41 := by rw [hW1]; exact (Blk.new w _ _).alloc _
  have bx : Blk W1 (w.heap.size + 1) #[x.val] 83 := by rw [hW1]; exact Blk.new' (by simp)
  have HF := hide (filledR_any 166 #[.pointer (some ⟨w.heap.size, 0, none⟩), .pointer (some ⟨w.heap.size + 1, 0, none⟩)] N (n.net.pround x.t.Z) W1 hN1 hN6 calls_roundOut (fun i j W hi hj hb =>
    roundOut_any n x w.heap.size (w.heap.size + 1) i j W ((h.grown hB1).grown hb) ((hx.grown hB1).grown hb) hck his (bn.below hb bn.lt) (bx.below hb bx.lt) (by omega) (by omega)))
  have x3 := bn.cell 3
  simp [NetM.cells] at x3
  have HB1 := hide hB1
  have HW1 := hide hW1
  rw [hW1] at HF x3
  have HNN := hide hNN
  have hcells : n.cells = #[.int .i64 n.a.size, .slice n.a.B.ga n.a.B.t.len n.a.B.cap, .slice n.a.E.ga n.a.E.t.len n.a.E.cap, .int .i64 N, .slice n.la n.ln n.lc] := by simp only [NetM.cells, Mat.val, hN]
  rw [hN] at x3
  simp only [NetM.val, hcells, RMat.val] at HF HW1 x3 ⊢
  clear h hx hck his hB1 bn bx hW1 hcells hN hNN lo hi6 g
  go_enter Try.func102, Try.ntmps102
  go_wp2_with fail
  go_at_call 103
  refine HF.out.mono ?_
  rw [← HW1.out]
  rintro e w2 ⟨⟨m, rfl, hm⟩, hb2⟩
  have HM : Hid (FreshR n.net.N (n.net.pround x.t.Z) m w2) := hide (by rw [HNN.out]; exact hm)
  have HBz := hide (HB1.out.trans (hb2.mono HB1.out.size))
  clear hm hb2 HF HW1 x3
  go_wp2
  go_ret
  exact ⟨⟨m, rfl, HM.out⟩, HBz.out⟩

end Go.Proofs.Ytjhkadffaephmab
