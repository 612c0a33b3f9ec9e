/-
  signpostref.BrokenOf, AllLaws.
-/
import Derived.Test.YtjhkadffaephmaaPureE
import Derived.Test.YtjhkadffaephmaaPureD
import Derived.Test.YtjhkadffaephmaaRefHoldsE
import Derived.Deep.CutRange
import Derived.BigRegion
namespace Go.Proofs.Ytjhkadffaephmaa
open Go.RowKit

theorem pow_le {s many k : Nat} (hs : s ≤ 24) (hm : many ≤ 3) (hk : k ≤ many) : s ^ k ≤ 13824 := by
  have h1 : s ^ k ≤ 24 ^ k := Nat.pow_le_pow_left hs k
  have h2 : 24 ^ k ≤ 24 ^ 3 := Nat.pow_le_pow_right (by omega) (by omega)
  omega

theorem cell_al {w : World} {b i : Nat} {v : Value} (o : Obj) (h : w.cell? ⟨b, i, none⟩ = some v) : (w.alloc o).cell? ⟨b, i, none⟩ = some v := by
  have hb := World.block_lt_of_cell? _ _ h
  exact (((Below.refl w.heap.size w).alloc (Nat.le_refl _) o).cell (p := ⟨b, i, none⟩) hb).trans h

/-- The three numbers of the array when t places are still to come. -/
def digits (many s n t : Nat) : Array Value := #[.int .i64 (digit many s n t 0), .int .i64 (digit many s n t 1), .int .i64 (digit many s n t 2)]

theorem digit_same {many s n t i : Nat} (h : i ≠ t) : digit many s n (t + 1) i = digit many s n t i := by
  unfold digit
  by_cases h1 : t ≤ i ∧ i < many
  · rw [if_pos h1, if_pos (by omega)]
  · rw [if_neg h1, if_neg (by omega)]
theorem digit_new {many s n t : Nat} (ht : t < many) : digit many s n t t = n / s ^ (many - (t + 1)) % s := by
  unfold digit
  rw [if_pos (by omega), show many - 1 - t = many - (t + 1) by omega]

theorem digits_step {many s n t : Nat} (hm : many ≤ 3) (ht : t < many) : (digits many s n (t + 1)).setIfInBounds t (.int .i64 ((n / s ^ (many - (t + 1)) % s : Nat) : Int)) = digits many s n t := by
  have hc : t = 0 ∨ t = 1 ∨ t = 2 := by omega
  rw [← digit_new ht]
  unfold digits
  rcases hc with rfl | rfl | rfl
  · rw [digit_same (i := 1) (by omega), digit_same (i := 2) (by omega)]; rfl
  · rw [digit_same (i := 0) (by omega), digit_same (i := 2) (by omega)]; rfl
  · rw [digit_same (i := 0) (by omega), digit_same (i := 1) (by omega)]; rfl

theorem div_step {many s n t : Nat} (ht : t < many) : n / s ^ (many - (t + 1)) / s = n / s ^ (many - t) := by
  rw [Nat.div_div_eq_div_mul, show many - t = many - (t + 1) + 1 by omega, Nat.pow_succ]

set_option maxRecDepth 100000 in
set_option maxHeartbeats 8000000 in
theorem refFirst_any (a : AlgM) (g : a.alg.Good) (ls : List Int) (hls : ∀ l ∈ ls, 1 ≤ l ∧ l ≤ 9) (hlen : ls.length ≤ 100) (bl : Nat) (w : World) (h : a.In w.heap.size w) (hbl : bl < w.heap.size)
    (hcl : ∀ i, (hi : i < ls.length) → w.cell? ⟨bl, i, none⟩ = some (.int .i64 ls[i])) :
    Calls Try.prog 19 #[a.val, .slice (some ⟨bl, 0, none⟩) ls.length ls.length] w fun e w' => e = .returned (a.alg.firstOf ls).val ∧ Below w.heap.size w w' := by
  have hel : a.E.t.len ≤ 8 := g.el
  have g0 : 2 ≤ a.size := g.lo
  have g1 : a.size ≤ 24 := g.hi
  obtain ⟨s, hs⟩ := Int.eq_ofNat_of_zero_le (show 0 ≤ a.size by omega)
  have HL := hide hcl
  have HG := hide g
  have HS := hide (show a.alg.size = (s : Int) from hs)
  have s0 : 2 ≤ s := by omega
  have s1 : s ≤ 24 := by omega
  have z0 : (2 : Int) ≤ (s : Int) := by omega
  have z1 : (s : Int) ≤ 24 := by omega
  have z2 : ((s : Int) == 0) = false := by rw [beq_eq_false_iff_ne]; omega
  clear hcl g
  have hB0 : Below w.heap.size w ((w.alloc (.cells #[.int .i64 s, .slice a.B.ga a.B.t.len a.B.cap, .slice a.E.ga a.E.t.len a.E.cap] 24)).alloc (.cells #[.int .i64 0, .int .i64 0, .int .i64 0, .int .i64 0, .int .i64 0] 26)) :=
    ((Below.refl _ w).alloc (Nat.le_refl _) _).alloc (by simp) _
  have bA : Blk ((w.alloc (.cells #[.int .i64 s, .slice a.B.ga a.B.t.len a.B.cap, .slice a.E.ga a.E.t.len a.E.cap] 24)).alloc (.cells #[.int .i64 0, .int .i64 0, .int .i64 0, .int .i64 0, .int .i64 0] 26)) w.heap.size #[.int .i64 s, .slice a.B.ga a.B.t.len a.B.cap, .slice a.E.ga a.E.t.len a.E.cap] 24 := (Blk.new w _ _).alloc _
  have bR : Blk ((w.alloc (.cells #[.int .i64 s, .slice a.B.ga a.B.t.len a.B.cap, .slice a.E.ga a.E.t.len a.E.cap] 24)).alloc (.cells #[.int .i64 0, .int .i64 0, .int .i64 0, .int .i64 0, .int .i64 0] 26)) (w.heap.size + 1) #[.int .i64 0, .int .i64 0, .int .i64 0, .int .i64 0, .int .i64 0] 26 := by
    have := Blk.new (w.alloc (.cells #[.int .i64 s, .slice a.B.ga a.B.t.len a.B.cap, .slice a.E.ga a.E.t.len a.E.cap] 24)) #[.int .i64 0, .int .i64 0, .int .i64 0, .int .i64 0, .int .i64 0] 26
    simpa using this
  have hav : a.val = .agg #[.int .i64 s, .slice a.B.ga a.B.t.len a.B.cap, .slice a.E.ga a.E.t.len a.E.cap] := by simp only [AlgM.val, Mat.val, hs]
  have HO := hide (fun x (f : a.alg.Fits x) W (hI : a.In W.heap.size W) => refHolds_any a HG.out x f W hI)
  rw [hav] at HO ⊢
  clear hav hs g0 g1
  go_enter Try.func19, Try.ntmps19
  go_wp2
  generalize (w.alloc (.cells #[.int .i64 s, .slice a.B.ga a.B.t.len a.B.cap, .slice a.E.ga a.E.t.len a.E.cap] 24)).alloc (.cells #[.int .i64 0, .int .i64 0, .int .i64 0, .int .i64 0, .int .i64 0] 26) = W0 at *
  go_loopw [5] (fun i wr => ∃ k : Nat, k ≤ ls.length ∧ i = .int .i64 k ∧ Hid (∀ j, (hj : j < k) → (hj' : j < ls.length) → a.alg.first (a.alg.casesOf ls[j]) = Brk.none) ∧ Hid (Below W0.heap.size W0 wr)) (fun i _ => ls.length - (intOf i).toNat)
  case atStart => exact ⟨0, Nat.zero_le _, rfl, hide (fun j hj => absurd hj (Nat.not_lt_zero _)), hide (Below.refl _ _)⟩
  case round =>
    obtain ⟨p, hp, rfl, Hall, HB⟩ := hrel
    have hBw := hB0.trans (HB.out.mono hB0.size)
    have bR1 := bR.below HB.out bR.lt
    by_cases hlt : p < ls.length
    · have hcell : wr.cell? ⟨bl, p, none⟩ = some (.int .i64 ls[p]) := (hBw.cell (p := ⟨bl, p, none⟩) hbl).trans (HL.out p hlt)
      obtain ⟨l0, l1⟩ := hls _ (List.getElem_mem hlt)
      have bA1 := bA.below HB.out bA.lt
      have HN := hide (fun W => refNames_any ls[p] l0 l1 W)
      obtain ⟨many, hm⟩ := Int.eq_ofNat_of_zero_le (show 0 ≤ routesOf ls[p] by rcases routes_cases ls[p] with e | e | e | e <;> omega)
      have hm3 : many ≤ 3 := by rcases routes_cases ls[p] with e | e | e | e <;> omega
      obtain ⟨ed, hed⟩ : ∃ ed : Nat, ed = if edgeOf ls[p] then a.E.t.len else 1 := ⟨_, rfl⟩
      have hed8 : ed ≤ 8 := by rw [hed]; split <;> omega
      have Henum := hide (enum_eq (a := a.alg) (l := ls[p]) (s := s) (many := many) (ed := ed) HS.out hm hed.symm)
      have Hat : Hid (a.alg.first (a.alg.casesOf ls[p]) ≠ Brk.none → a.alg.firstOf ls = a.alg.first (a.alg.casesOf ls[p])) := hide (fun hn => firstOf_at hlt (fun i hi => Hall.out i hi (by omega)) hn)
      have Hgo : Hid (a.alg.first (a.alg.casesOf ls[p]) = Brk.none → ∀ j, (hj : j < p + 1) → (hj' : j < ls.length) → a.alg.first (a.alg.casesOf ls[j]) = Brk.none) := hide (fun he j hj hj' => by
        by_cases e : j = p
        · subst e; exact he
        · exact Hall.out j (by omega) hj')
      have Hft : Hid (∀ b ∈ a.alg.casesOf ls[p], a.alg.Fits b ∧ b.law = ls[p]) := hide (fun b hb => HG.out.fits_cases l0 l1 hb)
      have Hed := hide hed
      have Hl := hide l0
      have Hcl := hide (HL.out p hlt)
      rw [hm] at HN
      have hpz : (p : Int) < (ls.length : Int) := by omega
      generalize ls[p] = l at *
      generalize edgeOf l = edge at *
      clear hm hed l0 l1 Hall
      have cA0 := bA1.cell 0
      have cA2 := bA1.cell 2
      simp at cA0 cA2
      go_upto_if 31 with (go_at_call 57; refine (HN.out _).mono ?_; rintro e w' ⟨rfl, rfl⟩)
      go_cut [8] from 17 to 87 (fun s8 wx => s8 = .int .i64 ed ∧ wx = w')
      case first =>
        cases edge
        · obtain rfl : ed = 1 := Hed.out
          go_wp2_with fail
          go_meet
          exact ⟨rfl, rfl⟩
        · obtain rfl : ed = a.E.t.len := Hed.out
          go_wp2_with fail
          go_meet
          exact ⟨rfl, rfl⟩
      case rest =>
        obtain ⟨rfl, rfl⟩ := hcut
        clear HN Hed cA2 hcell
        go_wp2
        go_loopw [9, 10] (fun c k wr => ∃ t : Nat, t ≤ many ∧ k = .int .i64 t ∧ c = .int .i64 ((s ^ t : Nat) : Int) ∧ wr = wc) (fun _ k _ => many - (intOf k).toNat)
        case atStart => exact ⟨0, Nat.zero_le _, rfl, by simp, rfl⟩
        case round =>
          obtain ⟨t, ht, rfl, rfl, rfl⟩ := hrel
          by_cases htm : t < many
          · have hp1 := pow_le s1 hm3 (show t + 1 ≤ many from htm)
            have hpe : ((s ^ (t + 1) : Nat) : Int) = ((s ^ t : Nat) : Int) * (s : Int) := by rw [Nat.pow_succ]; exact Int.natCast_mul _ _
            have q1 : ((s ^ t : Nat) : Int) * (s : Int) ≤ 13824 := by rw [← hpe]; omega
            have q0 : 0 ≤ ((s ^ t : Nat) : Int) * (s : Int) := by rw [← hpe]; omega
            have Hpe := hide hpe
            clear hpe hp1
            generalize ((s ^ t : Nat) : Int) = C at *
            go_wp2
            go_roundw
            case rel => exact ⟨t + 1, by omega, by go_num, by rw [Hpe.out], by first | rfl | trivial⟩
            case measure => simp [intOf]; omega
          · obtain rfl : many = t := by omega
            have hN := pow_le s1 hm3 (Nat.le_refl many)
            obtain ⟨N, hNe⟩ : ∃ N, N = s ^ many := ⟨_, rfl⟩
            rw [← hNe] at hN Henum ⊢
            have HNe := hide hNe
            clear hNe htm
            go_wp2
            go_loopw [11] (fun c wx => ∃ n : Nat, n ≤ N ∧ c = .int .i64 n ∧ Hid (∀ b ∈ enumTo l many s ed n 0, a.alg.holds b = true) ∧ Hid (Below W0.heap.size W0 wx)) (fun c _ => N - (intOf c).toNat)
            case atStart => exact ⟨0, Nat.zero_le _, rfl, hide (fun b hb => by rw [enumTo_0] at hb; simp at hb), HB⟩
            case round =>
              clear cA0 bA1 bR1 hBw HB
              obtain ⟨n, hn, rfl, Hn, HB⟩ := hrel
              by_cases hnN : n < N
              · have bA1 := bA.below HB.out bA.lt
                have bA2 := bA1.alloc (.cells #[.int .i64 0, .int .i64 0, .int .i64 0] 87)
                have hBn := HB.out.alloc HB.out.size (.cells #[.int .i64 0, .int .i64 0, .int .i64 0] 87)
                have hnz : (n : Int) < (N : Int) := by omega
                have hd0 : digits many s n many = #[.int .i64 0, .int .i64 0, .int .i64 0] := by
                  unfold digits digit
                  rw [if_neg (by omega), if_neg (by omega), if_neg (by omega)]; rfl
                have bArr : Blk (wr.alloc (.cells #[.int .i64 0, .int .i64 0, .int .i64 0] 87)) wr.heap.size (digits many s n many) 87 := by rw [hd0]; exact Blk.new wr _ _
                clear hd0
                go_wp2
                obtain ⟨B, hBdef⟩ : ∃ B, B = wr.heap.size := ⟨_, rfl⟩
                have hBlt : W0.heap.size ≤ B := by rw [hBdef]; exact HB.out.size
                rw [← hBdef] at bArr ⊢
                generalize wr.alloc (.cells #[.int .i64 0, .int .i64 0, .int .i64 0] 87) = W1 at *
                clear hBdef bA1 HB
                go_loopw [13, 14] (fun m k wx => ∃ t : Nat, t ≤ many ∧ k = .int .i64 ((t : Int) - 1) ∧ m = .int .i64 ((n / s ^ (many - t) : Nat) : Int) ∧ Hid (Blk wx B (digits many s n t) 87) ∧ Hid (Below W0.heap.size W0 wx)) (fun _ k _ => (intOf k + 1).toNat)
                case atStart => exact ⟨many, Nat.le_refl _, rfl, by simp, hide bArr, hide hBn⟩
                case round =>
                  clear bArr bA2 hBn
                  obtain ⟨t, ht, rfl, rfl, Hbt, HB⟩ := hrel
                  have bA1 := bA.below HB.out bA.lt
                  have cA0 := bA1.cell 0
                  simp at cA0
                  cases t with
                  | zero =>
                    have e0 : ((0 : Nat) : Int) - 1 = -1 := rfl
                    rw [e0]
                    clear cA0 bA1
                    go_wp2
                    go_loopw [15, 16] (fun c _ wx => ∃ e : Nat, e ≤ ed ∧ c = .int .i64 e ∧ Hid (∀ b ∈ enumTo l many s ed n e, a.alg.holds b = true) ∧ Hid (Blk wx B (digits many s n 0) 87) ∧ Hid (Below W0.heap.size W0 wx)) (fun c _ _ => ed - (intOf c).toNat)
                    case atStart => exact ⟨0, Nat.zero_le _, rfl, Hn, Hbt, HB⟩
                    case round =>
                      clear Hbt HB
                      obtain ⟨e, he, rfl, He, Hbt, HB⟩ := hrel
                      by_cases hee : e < ed
                      · have hBw := hB0.trans (HB.out.mono hB0.size)
                        have hcell : wr.cell? ⟨bl, p, none⟩ = some (.int .i64 l) := (hBw.cell (p := ⟨bl, p, none⟩) hbl).trans (Hcl.out)
                        have bA1 := bA.below HB.out bA.lt
                        have bR1 := bR.below HB.out bR.lt
                        have cA0 := bA1.cell 0
                        have cA1 := bA1.cell 1
                        have cA2 := bA1.cell 2
                        simp at cA0 cA1 cA2
                        have cD0 : wr.cell? ⟨B, 0, none⟩ = some (.int .i64 (digit many s n 0 0)) := Hbt.out.cell 0
                        have cD1 : wr.cell? ⟨B, 1, none⟩ = some (.int .i64 (digit many s n 0 1)) := Hbt.out.cell 1
                        have cD2 : wr.cell? ⟨B, 2, none⟩ = some (.int .i64 (digit many s n 0 2)) := Hbt.out.cell 2
                        have hez : (e : Int) < (ed : Int) := by omega
                        have hpre := enumTo_pre (l := l) (many := many) (s := s) (ed := ed) (n := n) (e := e + 1) (N := N) hnN hee
                        rw [enumTo_snoc, Henum.out] at hpre
                        have hmem : caseAt l many s n e ∈ a.alg.casesOf l := hpre.subset (by simp)
                        have hfit := (Hft.out _ hmem)
                        have Hpre := hide hpre
                        have HO1 := hide (HO.out _ hfit.1)
                        have Hlaw := hide hfit.2
                        have hval : (caseAt l many s n e).val = .agg #[.int .i64 l, .int .i64 (digit many s n 0 0), .int .i64 (digit many s n 0 1), .int .i64 (digit many s n 0 2), .int .i64 e] := rfl
                        rw [hval] at HO1
                        have Hcv := hide hval
                        clear hpre hmem hfit hval
                        generalize ((digit many s n 0 0 : Nat) : Int) = x0 at *
                        generalize ((digit many s n 0 1 : Nat) : Int) = x1 at *
                        generalize ((digit many s n 0 2 : Nat) : Int) = x2 at *
                        have hB1 : B < wr.heap.size := Hbt.out.lt
                        have hbl1 : bl < wr.heap.size := Nat.lt_of_lt_of_le hbl hBw.size
                        have hw1 : w.heap.size < wr.heap.size := bA1.lt
                        have kcell : ∀ o, (wr.alloc o).cell? ⟨bl, p, none⟩ = some (.int .i64 l) := fun o => cell_al _ hcell
                        have kD0 : ∀ o, (wr.alloc o).cell? ⟨B, 0, none⟩ = some (.int .i64 x0) := fun o => cell_al _ cD0
                        have kD1 : ∀ o, (wr.alloc o).cell? ⟨B, 1, none⟩ = some (.int .i64 x1) := fun o => cell_al _ cD1
                        have kD2 : ∀ o, (wr.alloc o).cell? ⟨B, 2, none⟩ = some (.int .i64 x2) := fun o => cell_al _ cD2
                        go_wp2_with fail
                        go_region
                        have hX : Below wr.heap.size wr ((wr.alloc (.cells #[.int .i64 l, .int .i64 x0, .int .i64 x1, .int .i64 x2, .int .i64 e] 26)).drew) := below_dr' wr _
                        have bF : Blk ((wr.alloc (.cells #[.int .i64 l, .int .i64 x0, .int .i64 x1, .int .i64 x2, .int .i64 e] 26)).drew) wr.heap.size #[.int .i64 l, .int .i64 x0, .int .i64 x1, .int .i64 x2, .int .i64 e] 26 := Blk.new wr _ _
                        have hIX := (h.below (hBw.trans (hX.mono hBw.size)) (Nat.le_refl _)).mono (hBw.trans (hX.mono hBw.size)).size
                        have HC := hide (HO1.out _ hIX)
                        clear cD0 cD1 cD2 kD0 kD1 kD2 kcell hcell HO1 hIX cA0 cA1 cA2
                        have bA2 := bA1.below hX bA1.lt
                        have cA0 := bA2.cell 0
                        have cA1 := bA2.cell 1
                        have cA2 := bA2.cell 2
                        simp at cA0 cA1 cA2
                        have bR2 := bR1.below hX bR1.lt
                        have bD2 := Hbt.out.below hX Hbt.out.lt
                        have hBX := HB.out.trans (hX.mono HB.out.size)
                        have hXs := hX.size
                        clear bA1 bR1 hX Hbt
                        have hval : (caseAt l many s n e).val = .agg #[.int .i64 l, .int .i64 x0, .int .i64 x1, .int .i64 x2, .int .i64 e] := Hcv.out
                        have Hval := hide hval
                        clear hval
                        have Hkeep : Hid (a.alg.holds (caseAt l many s n e) = true → ∀ b ∈ enumTo l many s ed n (e + 1), a.alg.holds b = true) := hide (fun hh b hb => by
                          rw [enumTo_snoc] at hb
                          rcases List.mem_append.1 hb with hb | hb
                          · exact He.out b hb
                          · obtain rfl : b = caseAt l many s n e := by simpa using hb
                            exact hh)
                        have Hbad : Hid (a.alg.holds (caseAt l many s n e) = false → a.alg.firstOf ls = caseAt l many s n e) := hide (fun hh => by
                          have e1 := first_of_pre Hpre.out He.out hh
                          have e2 : a.alg.first (a.alg.casesOf l) ≠ Brk.none := by
                            rw [e1]; intro e3
                            have e4 := Hlaw.out
                            rw [e3] at e4
                            have e5 := Hl.out
                            have e6 : Brk.none.law = 0 := rfl
                            omega
                          rw [Hat.out e2, e1])
                        generalize a.alg.holds (caseAt l many s n e) = hh at *
                        go_wp2_with fail
                        go_at_call 25
                        refine HC.out.mono ?_
                        rintro en w4 ⟨rfl, hb4⟩
                        have bF4 := bF.below hb4 bF.lt
                        have bR4 := bR2.below hb4 bR2.lt
                        have bD4 := bD2.below hb4 bD2.lt
                        have hB4 := hBX.trans (hb4.mono hBX.size)
                        clear HC hb4 bF bR2 bD2 hBX bA2 cA0 cA1 cA2
                        cases hh
                        · have Hfin := hide (Hbad.out rfl)
                          have f0 := bF4.cell 0
                          have f1 := bF4.cell 1
                          have f2 := bF4.cell 2
                          have f3 := bF4.cell 3
                          have f4 := bF4.cell 4
                          have r0 := bR4.cell 0
                          have r1 := bR4.cell 1
                          have r2 := bR4.cell 2
                          have r3 := bR4.cell 3
                          have r4 := bR4.cell 4
                          have rf := bR4.frozen
                          simp at f0 f1 f2 f3 f4 r0 r1 r2 r3 r4
                          go_wp2
                          have bR5 := bR4.set5 (.int .i64 l) (.int .i64 x0) (.int .i64 x1) (.int .i64 x2) (.int .i64 e)
                          have d0 := bR5.cell 0
                          have d1 := bR5.cell 1
                          have d2 := bR5.cell 2
                          have d3 := bR5.cell 3
                          have d4 := bR5.cell 4
                          unfold Ytjhkadffaephmaa.set5 at d0 d1 d2 d3 d4
                          simp at d0 d1 d2 d3 d4
                          refine bodyPost_ret (v := .agg #[.int .i64 l, .int .i64 x0, .int .i64 x1, .int .i64 x2, .int .i64 e]) (by simp [results, Try.results19, go_sem, d0, d1, d2, d3, d4]) rfl ⟨by rw [Hfin.out, Hval.out], ?_⟩
                          exact below5 (hB0.trans (hB4.mono hB0.size)) (by omega) _ _ _ _ _
                        · have Hk := hide (Hkeep.out rfl)
                          go_wp2
                          go_roundw
                          case rel =>
                            exact ⟨_, _, _, _, _, _, _, _, _, _, _, _, _, _, _, _, _, _, _, _, _, _, _, _, ⟨e + 1, by omega, by go_num, Hk, hide bD4, hide hB4⟩, rfl⟩
                          case measure => simp [intOf]; omega
                      · obtain rfl : ed = e := by omega
                        have Hn2 := hide (show ∀ b ∈ enumTo l many s ed (n + 1) 0, a.alg.holds b = true by rw [← enumTo_row]; exact He.out)
                        clear He
                        go_wp2
                        go_roundw
                        case rel => exact ⟨n + 1, by omega, by go_num, Hn2, HB⟩
                        case measure => simp [intOf]; omega
                  | succ t =>
                    have e1 : ((t + 1 : Nat) : Int) - 1 = (t : Int) := by omega
                    rw [e1]
                    have hmn : n / s ^ (many - (t + 1)) ≤ 13824 := Nat.le_trans (Nat.div_le_self _ _) (by omega)
                    have hst := hide (digits_step (many := many) (s := s) (n := n) (t := t) hm3 (by omega))
                    have hdv := hide (div_step (many := many) (s := s) (n := n) (t := t) (by omega))
                    have ht3 : (t : Int) < 3 := by omega
                    have hcv : ∃ v, wr.cell? ⟨B, t, none⟩ = some v := by
                      rw [Hbt.out.cell t]
                      have : t = 0 ∨ t = 1 ∨ t = 2 := by omega
                      rcases this with rfl | rfl | rfl
                      · exact ⟨_, rfl⟩
                      · exact ⟨_, rfl⟩
                      · exact ⟨_, rfl⟩
                    obtain ⟨v, hcv⟩ := hcv
                    have hfz := Hbt.out.frozen t
                    have Hnew := hide (fun u => Hbt.out.set t u)
                    have hBB : bA1.lt = bA1.lt := rfl
                    have hBne : w.heap.size ≠ B := by have := bA.lt; omega
                    generalize hmm : n / s ^ (many - (t + 1)) = m at *
                    have hemod := hide (show (m : Int) % (s : Int) = ((m % s : Nat) : Int) from (Int.natCast_emod m s).symm)
                    have hediv := hide (show (m : Int) / (s : Int) = ((m / s : Nat) : Int) from (Int.natCast_ediv m s).symm)
                    have HM := hide hmm
                    have hq0 : 0 ≤ (m : Int) / (s : Int) := by rw [hediv.out]; exact Int.natCast_nonneg _
                    have hq1 : (m : Int) / (s : Int) ≤ 13824 := by rw [hediv.out]; exact Int.ofNat_le.2 (Nat.le_trans (Nat.div_le_self m s) hmn)
                    have hBn := hide (HB.out.setCell (p := ⟨B, t, none⟩) hBlt (.int .i64 ((m : Int) % (s : Int))))
                    clear hmm hBB
                    go_wp2
                    go_roundw
                    case rel => exact ⟨t, by omega, by go_num, by rw [hediv.out, hdv.out], hide (by rw [← hst.out, ← hemod.out]; exact Hnew.out _), hBn⟩
                    case measure => simp [intOf]
              · obtain rfl : N = n := by omega
                have hfirst : a.alg.first (a.alg.casesOf l) = Brk.none := by rw [← Henum.out]; exact first_of_all Hn.out
                have Hg2 := hide (Hgo.out hfirst)
                clear Hn Hgo hfirst
                go_wp2
                go_roundw
                case rel => exact ⟨p + 1, by omega, by go_num, Hg2, HB⟩
                case measure => simp [intOf]; omega
    · have Hfin := hide (firstOf_none (a := a.alg) (ls := ls) (fun i hi => Hall.out i (by omega) hi))
      have r0 := bR1.cell 0
      have r1 := bR1.cell 1
      have r2 := bR1.cell 2
      have r3 := bR1.cell 3
      have r4 := bR1.cell 4
      have rf := bR1.frozen
      simp at r0 r1 r2 r3 r4
      go_wp2
      have bR5 := bR1.set5 (.int .i64 0) (.int .i64 0) (.int .i64 0) (.int .i64 0) (.int .i64 0)
      have d0 := bR5.cell 0
      have d1 := bR5.cell 1
      have d2 := bR5.cell 2
      have d3 := bR5.cell 3
      have d4 := bR5.cell 4
      unfold Ytjhkadffaephmaa.set5 at d0 d1 d2 d3 d4
      simp at d0 d1 d2 d3 d4
      refine bodyPost_ret (v := Brk.none.val) (by simp [results, Try.results19, go_sem, d0, d1, d2, d3, d4, Brk.val, Brk.none]) rfl ⟨by rw [Hfin.out], ?_⟩
      exact below5 hBw (by omega) _ _ _ _ _

end Go.Proofs.Ytjhkadffaephmaa
