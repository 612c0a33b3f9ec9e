/-
  Our own texts, bundled: a claim holds few files.
-/
import Derived.Test.YtjhkadffaephmabGreatCutEnginePlaysAI
import Derived.Test.YtjhkadffaephmabGreatCutEnginePlaysAC
import Derived.Test.YtjhkadffaephmabGreatCutEnginePlaysAJ
import Derived.Deep.CutRange
import Derived.BigRegion
import Derived.Test.YtjhkadffaephmabGreatCutEnginePlaysAH
/-
 signpostref.BrokenOf, AllLaws.
-/
namespace Go.Proofs.YtjhkadffaephmabGreat
open Go.RowKit

theorem pow_le {s many k : Nat} (hs : s ≤ 24) (hm : many ≤ 3) (hk : k ≤ many) : s ^ k ≤ 13824 := by
 have h1 : s ^ k ≤ 24 ^ k := Nat.pow_le_pow_left hs k
 have h2 : 24 ^ k ≤ 24 ^ 3 := Nat.pow_le_pow_right (by omega) (by omega)
 omega

theorem cell_al {w : World} {b i : Nat} {v : Value} (o : Obj) (h : w.cell? ⟨b, i, none⟩ = some v) : (w.alloc o).cell? ⟨b, i, none⟩ = some v := by
 have hb := World.block_lt_of_cell? _ _ h
 exact (((Below.refl w.heap.size w).alloc (Nat.le_refl _) o).cell (p := ⟨b, i, none⟩) hb).trans h

/-- The three numbers of the array when t places are still to come. -/
def digits (many s n t : Nat) : Array Value := #[.int .i64 (digit many s n t 0), .int .i64 (digit many s n t 1), .int .i64 (digit many s n t 2)]

theorem digit_same {many s n t i : Nat} (h : i ≠ t) : digit many s n (t + 1) i = digit many s n t i := by
 unfold digit
 by_cases h1 : t ≤ i ∧ i < many
 ·rw [if_pos h1, if_pos (by omega)]
 ·rw [if_neg h1, if_neg (by omega)]
theorem digit_new {many s n t : Nat} (ht : t < many) : digit many s n t t = n / s ^ (many - (t + 1)) % s := by
 unfold digit
 rw [if_pos (by omega), show many - 1 - t = many - (t + 1) by omega]

theorem digits_step {many s n t : Nat} (hm : many ≤ 3) (ht : t < many) : (digits many s n (t + 1)).setIfInBounds t (.int .i64 ((n / s ^ (many - (t + 1)) % s : Nat) : Int)) = digits many s n t := by
 have hc : t = 0 ∨ t = 1 ∨ t = 2 := by omega
 rw [← digit_new ht]
 unfold digits
 rcases hc with rfl | rfl | rfl
 ·rw [digit_same (i := 1) (by omega), digit_same (i := 2) (by omega)]; rfl
 ·rw [digit_same (i := 0) (by omega), digit_same (i := 2) (by omega)]; rfl
 ·rw [digit_same (i := 0) (by omega), digit_same (i := 1) (by omega)]; rfl

theorem div_step {many s n t : Nat} (ht : t < many) : n / s ^ (many - (t + 1)) / s = n / s ^ (many - t) := by
 rw [Nat.div_div_eq_div_mul, show many - t = many - (t + 1) + 1 by omega, Nat.pow_succ]

set_option maxRecDepth 100000 in
set_option maxHeartbeats 8000000 in
theorem refFirst_any (a : AlgM) (g : a.alg.Good) (ls : List Int) (hls : ∀ l ∈ ls, 1 ≤ l ∧ l ≤ 9) (hlen : ls.length ≤ 100) (bl : Nat) (w : World) (h : a.In w.heap.size w) (hbl : bl < w.heap.size)
  (hcl : ∀ i, (hi : i < ls.length) → w.cell? ⟨bl, i, none⟩ = some (.int .i64 ls[i])) :
  Calls Tryz.prog 50 #[a.val, .slice (some ⟨bl, 0, none⟩) ls.length ls.length] w fun e w' => e = .returned (a.alg.firstOf ls).val ∧ Below w.heap.size w w' := by
 have hel : a.E.t.len ≤ 8 := g.el
 have g0 : 2 ≤ a.size := g.lo
 have g1 : a.size ≤ 24 := g.hi
 obtain ⟨s, hs⟩ := Int.eq_ofNat_of_zero_le (show 0 ≤ a.size by omega)
 have HL := hide hcl
 have HG := hide g
 have HS := hide (show a.alg.size = (s : Int) from hs)
 have s0 : 2 ≤ s := by omega
 have s1 : s ≤ 24 := by omega
 have z0 : (2 : Int) ≤ (s : Int) := by omega
 have z1 : (s : Int) ≤ 24 := by omega
 have z2 : ((s : Int) == 0) = false := by rw [beq_eq_false_iff_ne]; omega
 clear hcl g
 have hB0 : Below w.heap.size w ((w.alloc (.cells #[.int .i64 s, .slice a.B.ga a.B.t.len a.B.cap, .slice a.E.ga a.E.t.len a.E.cap] 24)).alloc (.cells #[.int .i64 0, .int .i64 0, .int .i64 0, .int .i64 0, .int .i64 0] 93)) :=
  ((Below.refl _ w).alloc (Nat.le_refl _) _).alloc (by simp) _
 have bA : Blk ((w.alloc (.cells #[.int .i64 s, .slice a.B.ga a.B.t.len a.B.cap, .slice a.E.ga a.E.t.len a.E.cap] 24)).alloc (.cells #[.int .i64 0, .int .i64 0, .int .i64 0, .int .i64 0, .int .i64 0] 93)) w.heap.size #[.int .i64 s, .slice a.B.ga a.B.t.len a.B.cap, .slice a.E.ga a.E.t.len a.E.cap] 24 := (Blk.new w _ _).alloc _
 have bR : Blk ((w.alloc (.cells #[.int .i64 s, .slice a.B.ga a.B.t.len a.B.cap, .slice a.E.ga a.E.t.len a.E.cap] 24)).alloc (.cells #[.int .i64 0, .int .i64 0, .int .i64 0, .int .i64 0, .int .i64 0] 93)) (w.heap.size + 1) #[.int .i64 0, .int .i64 0, .int .i64 0, .int .i64 0, .int .i64 0] 93 := by
  have := Blk.new (w.alloc (.cells #[.int .i64 s, .slice a.B.ga a.B.t.len a.B.cap, .slice a.E.ga a.E.t.len a.E.cap] 24)) #[.int .i64 0, .int .i64 0, .int .i64 0, .int .i64 0, .int .i64 0] 93
  simpa using this
 have hav : a.val = .agg #[.int .i64 s, .slice a.B.ga a.B.t.len a.B.cap, .slice a.E.ga a.E.t.len a.E.cap] := by simp only [AlgM.val, Mat.val, hs]
 have HO := hide (fun x (f : a.alg.Fits x) W (hI : a.In W.heap.size W) => refHolds_any a HG.out x f W hI)
 rw [hav] at HO ⊢
 clear hav hs g0 g1
 go_enter Tryz.func50, Tryz.ntmps50
 go_wp2
 generalize (w.alloc (.cells #[.int .i64 s, .slice a.B.ga a.B.t.len a.B.cap, .slice a.E.ga a.E.t.len a.E.cap] 24)).alloc (.cells #[.int .i64 0, .int .i64 0, .int .i64 0, .int .i64 0, .int .i64 0] 93) = W0 at *
 go_loopw [5] (fun i wr => ∃ k : Nat, k ≤ ls.length ∧ i = .int .i64 k ∧ Hid (∀ j, (hj : j < k) → (hj' : j < ls.length) → a.alg.first (a.alg.casesOf ls[j]) = Brk.none) ∧ Hid (Below W0.heap.size W0 wr)) (fun i _ => ls.length - (intOf i).toNat)
 case atStart => exact ⟨0, Nat.zero_le _, rfl, hide (fun j hj => absurd hj (Nat.not_lt_zero _)), hide (Below.refl _ _)⟩
 case round =>
  obtain ⟨p, hp, rfl, Hall, HB⟩ := hrel
  have hBw := hB0.trans (HB.out.mono hB0.size)
  have bR1 := bR.below HB.out bR.lt
  by_cases hlt : p < ls.length
  ·have hcell : wr.cell? ⟨bl, p, none⟩ = some (.int .i64 ls[p]) := (hBw.cell (p := ⟨bl, p, none⟩) hbl).trans (HL.out p hlt)
   obtain ⟨l0, l1⟩ := hls _ (List.getElem_mem hlt)
   have bA1 := bA.below HB.out bA.lt
   have HN := hide (fun W => refNames_any ls[p] l0 l1 W)
   obtain ⟨many, hm⟩ := Int.eq_ofNat_of_zero_le (show 0 ≤ routesOf ls[p] by rcases routes_cases ls[p] with e | e | e | e <;> omega)
   have hm3 : many ≤ 3 := by rcases routes_cases ls[p] with e | e | e | e <;> omega
   obtain ⟨ed, hed⟩ : ∃ ed : Nat, ed = if edgeOf ls[p] then a.E.t.len else 1 := ⟨_, rfl⟩
   have hed8 : ed ≤ 8 := by rw [hed]; split <;> omega
   have Henum := hide (enum_eq (a := a.alg) (l := ls[p]) (s := s) (many := many) (ed := ed) HS.out hm hed.symm)
   have Hat : Hid (a.alg.first (a.alg.casesOf ls[p]) ≠ Brk.none → a.alg.firstOf ls = a.alg.first (a.alg.casesOf ls[p])) := hide (fun hn => firstOf_at hlt (fun i hi => Hall.out i hi (by omega)) hn)
   have Hgo : Hid (a.alg.first (a.alg.casesOf ls[p]) = Brk.none → ∀ j, (hj : j < p + 1) → (hj' : j < ls.length) → a.alg.first (a.alg.casesOf ls[j]) = Brk.none) := hide (fun he j hj hj' => by
    by_cases e : j = p
    ·subst e; exact he
    ·exact Hall.out j (by omega) hj')
   have Hft : Hid (∀ b ∈ a.alg.casesOf ls[p], a.alg.Fits b ∧ b.law = ls[p]) := hide (fun b hb => HG.out.fits_cases l0 l1 hb)
   have Hed := hide hed
   have Hl := hide l0
   have Hcl := hide (HL.out p hlt)
   rw [hm] at HN
   have hpz : (p : Int) < (ls.length : Int) := by omega
   generalize ls[p] = l at *
   generalize edgeOf l = edge at *
   clear hm hed l0 l1 Hall
   have cA0 := bA1.cell 0
   have cA2 := bA1.cell 2
   simp at cA0 cA2
   go_upto_if 31 with (go_at_call 78; refine (HN.out _).mono ?_; rintro e w' ⟨rfl, rfl⟩)
   go_cut [8] from 17 to 87 (fun s8 wx => s8 = .int .i64 ed ∧ wx = w')
   case first =>
    cases edge
    ·obtain rfl : ed = 1 := Hed.out
     go_wp2_with fail
     go_meet
     exact ⟨rfl, rfl⟩
    ·obtain rfl : ed = a.E.t.len := Hed.out
     go_wp2_with fail
     go_meet
     exact ⟨rfl, rfl⟩
   case rest =>
    obtain ⟨rfl, rfl⟩ := hcut
    clear HN Hed cA2 hcell
    go_wp2
    go_loopw [9, 10] (fun c k wr => ∃ t : Nat, t ≤ many ∧ k = .int .i64 t ∧ c = .int .i64 ((s ^ t : Nat) : Int) ∧ wr = wc) (fun _ k _ => many - (intOf k).toNat)
    case atStart => exact ⟨0, Nat.zero_le _, rfl, by simp, rfl⟩
    case round =>
     obtain ⟨t, ht, rfl, rfl, rfl⟩ := hrel
     by_cases htm : t < many
     ·have hp1 := pow_le s1 hm3 (show t + 1 ≤ many from htm)
      have hpe : ((s ^ (t + 1) : Nat) : Int) = ((s ^ t : Nat) : Int) * (s : Int) := by rw [Nat.pow_succ]; exact Int.natCast_mul _ _
      have q1 : ((s ^ t : Nat) : Int) * (s : Int) ≤ 13824 := by rw [← hpe]; omega
      have q0 : 0 ≤ ((s ^ t : Nat) : Int) * (s : Int) := by rw [← hpe]; omega
      have Hpe := hide hpe
      clear hpe hp1
      generalize ((s ^ t : Nat) : Int) = C at *
      go_wp2
      go_roundw
      case rel => exact ⟨t + 1, by omega, by go_num, by rw [Hpe.out], by first | rfl | trivial⟩
      case measure => simp [intOf]; omega
     ·obtain rfl : many = t := by omega
      have hN := pow_le s1 hm3 (Nat.le_refl many)
      obtain ⟨N, hNe⟩ : ∃ N, N = s ^ many := ⟨_, rfl⟩
      rw [← hNe] at hN Henum ⊢
      have HNe := hide hNe
      clear hNe htm
      go_wp2
      go_loopw [11] (fun c wx => ∃ n : Nat, n ≤ N ∧ c = .int .i64 n ∧ Hid (∀ b ∈ enumTo l many s ed n 0, a.alg.holds b = true) ∧ Hid (Below W0.heap.size W0 wx)) (fun c _ => N - (intOf c).toNat)
      case atStart => exact ⟨0, Nat.zero_le _, rfl, hide (fun b hb => by rw [enumTo_0] at hb; simp at hb), HB⟩
      case round =>
       clear cA0 bA1 bR1 hBw HB
       obtain ⟨n, hn, rfl, Hn, HB⟩ := hrel
       by_cases hnN : n < N
       ·have bA1 := bA.below HB.out bA.lt
        have bA2 := bA1.alloc (.cells #[.int .i64 0, .int .i64 0, .int .i64 0] 120)
        have hBn := HB.out.alloc HB.out.size (.cells #[.int .i64 0, .int .i64 0, .int .i64 0] 120)
        have hnz : (n : Int) < (N : Int) := by omega
        have hd0 : digits many s n many = #[.int .i64 0, .int .i64 0, .int .i64 0] := by
         unfold digits digit
         rw [if_neg (by omega), if_neg (by omega), if_neg (by omega)]; rfl
        have bArr : Blk (wr.alloc (.cells #[.int .i64 0, .int .i64 0, .int .i64 0] 120)) wr.heap.size (digits many s n many) 120 := by rw [hd0]; exact Blk.new wr _ _
        clear hd0
        go_wp2
        obtain ⟨B, hBdef⟩ : ∃ B, B = wr.heap.size := ⟨_, rfl⟩
        have hBlt : W0.heap.size ≤ B := by rw [hBdef]; exact HB.out.size
        rw [← hBdef] at bArr ⊢
        generalize wr.alloc (.cells #[.int .i64 0, .int .i64 0, .int .i64 0] 120) = W1 at *
        clear hBdef bA1 HB
        go_loopw [13, 14] (fun m k wx => ∃ t : Nat, t ≤ many ∧ k = .int .i64 ((t : Int) - 1) ∧ m = .int .i64 ((n / s ^ (many - t) : Nat) : Int) ∧ Hid (Blk wx B (digits many s n t) 120) ∧ Hid (Below W0.heap.size W0 wx)) (fun _ k _ => (intOf k + 1).toNat)
        case atStart => exact ⟨many, Nat.le_refl _, rfl, by simp, hide bArr, hide hBn⟩
        case round =>
         clear bArr bA2 hBn
         obtain ⟨t, ht, rfl, rfl, Hbt, HB⟩ := hrel
         have bA1 := bA.below HB.out bA.lt
         have cA0 := bA1.cell 0
         simp at cA0
         cases t with
         | zero =>
          have e0 : ((0 : Nat) : Int) - 1 = -1 := rfl
          rw [e0]
          clear cA0 bA1
          go_wp2
          go_loopw [15, 16] (fun c _ wx => ∃ e : Nat, e ≤ ed ∧ c = .int .i64 e ∧ Hid (∀ b ∈ enumTo l many s ed n e, a.alg.holds b = true) ∧ Hid (Blk wx B (digits many s n 0) 120) ∧ Hid (Below W0.heap.size W0 wx)) (fun c _ _ => ed - (intOf c).toNat)
          case atStart => exact ⟨0, Nat.zero_le _, rfl, Hn, Hbt, HB⟩
          case round =>
           clear Hbt HB
           obtain ⟨e, he, rfl, He, Hbt, HB⟩ := hrel
           by_cases hee : e < ed
           ·have hBw := hB0.trans (HB.out.mono hB0.size)
            have hcell : wr.cell? ⟨bl, p, none⟩ = some (.int .i64 l) := (hBw.cell (p := ⟨bl, p, none⟩) hbl).trans (Hcl.out)
            have bA1 := bA.below HB.out bA.lt
            have bR1 := bR.below HB.out bR.lt
            have cA0 := bA1.cell 0
            have cA1 := bA1.cell 1
            have cA2 := bA1.cell 2
            simp at cA0 cA1 cA2
            have cD0 : wr.cell? ⟨B, 0, none⟩ = some (.int .i64 (digit many s n 0 0)) := Hbt.out.cell 0
            have cD1 : wr.cell? ⟨B, 1, none⟩ = some (.int .i64 (digit many s n 0 1)) := Hbt.out.cell 1
            have cD2 : wr.cell? ⟨B, 2, none⟩ = some (.int .i64 (digit many s n 0 2)) := Hbt.out.cell 2
            have hez : (e : Int) < (ed : Int) := by omega
            have hpre := enumTo_pre (l := l) (many := many) (s := s) (ed := ed) (n := n) (e := e + 1) (N := N) hnN hee
            rw [enumTo_snoc, Henum.out] at hpre
            have hmem : caseAt l many s n e ∈ a.alg.casesOf l := hpre.subset (by simp)
            have hfit := (Hft.out _ hmem)
            have Hpre := hide hpre
            have HO1 := hide (HO.out _ hfit.1)
            have Hlaw := hide hfit.2
            have hval : (caseAt l many s n e).val = .agg #[.int .i64 l, .int .i64 (digit many s n 0 0), .int .i64 (digit many s n 0 1), .int .i64 (digit many s n 0 2), .int .i64 e] := rfl
            rw [hval] at HO1
            have Hcv := hide hval
            clear hpre hmem hfit hval
            generalize ((digit many s n 0 0 : Nat) : Int) = x0 at *
            generalize ((digit many s n 0 1 : Nat) : Int) = x1 at *
            generalize ((digit many s n 0 2 : Nat) : Int) = x2 at *
            have hB1 : B < wr.heap.size := Hbt.out.lt
            have hbl1 : bl < wr.heap.size := Nat.lt_of_lt_of_le hbl hBw.size
            have hw1 : w.heap.size < wr.heap.size := bA1.lt
            have kcell : ∀ o, (wr.alloc o).cell? ⟨bl, p, none⟩ = some (.int .i64 l) := fun o => cell_al _ hcell
            have kD0 : ∀ o, (wr.alloc o).cell? ⟨B, 0, none⟩ = some (.int .i64 x0) := fun o => cell_al _ cD0
            have kD1 : ∀ o, (wr.alloc o).cell? ⟨B, 1, none⟩ = some (.int .i64 x1) := fun o => cell_al _ cD1
            have kD2 : ∀ o, (wr.alloc o).cell? ⟨B, 2, none⟩ = some (.int .i64 x2) := fun o => cell_al _ cD2
            go_wp2_with fail
            go_region
            have hX : Below wr.heap.size wr ((wr.alloc (.cells #[.int .i64 l, .int .i64 x0, .int .i64 x1, .int .i64 x2, .int .i64 e] 93)).drew) := below_dr' wr _
            have bF : Blk ((wr.alloc (.cells #[.int .i64 l, .int .i64 x0, .int .i64 x1, .int .i64 x2, .int .i64 e] 93)).drew) wr.heap.size #[.int .i64 l, .int .i64 x0, .int .i64 x1, .int .i64 x2, .int .i64 e] 93 := Blk.new wr _ _
            have hIX := (h.below (hBw.trans (hX.mono hBw.size)) (Nat.le_refl _)).mono (hBw.trans (hX.mono hBw.size)).size
            have HC := hide (HO1.out _ hIX)
            clear cD0 cD1 cD2 kD0 kD1 kD2 kcell hcell HO1 hIX cA0 cA1 cA2
            have bA2 := bA1.below hX bA1.lt
            have cA0 := bA2.cell 0
            have cA1 := bA2.cell 1
            have cA2 := bA2.cell 2
            simp at cA0 cA1 cA2
            have bR2 := bR1.below hX bR1.lt
            have bD2 := Hbt.out.below hX Hbt.out.lt
            have hBX := HB.out.trans (hX.mono HB.out.size)
            have hXs := hX.size
            clear bA1 bR1 hX Hbt
            have hval : (caseAt l many s n e).val = .agg #[.int .i64 l, .int .i64 x0, .int .i64 x1, .int .i64 x2, .int .i64 e] := Hcv.out
            have Hval := hide hval
            clear hval
            have Hkeep : Hid (a.alg.holds (caseAt l many s n e) = true → ∀ b ∈ enumTo l many s ed n (e + 1), a.alg.holds b = true) := hide (fun hh b hb => by
             rw [enumTo_snoc] at hb
             rcases List.mem_append.1 hb with hb | hb
             ·exact He.out b hb
             ·obtain rfl : b = caseAt l many s n e := by simpa using hb
              exact hh)
            have Hbad : Hid (a.alg.holds (caseAt l many s n e) = false → a.alg.firstOf ls = caseAt l many s n e) := hide (fun hh => by
             have e1 := first_of_pre Hpre.out He.out hh
             have e2 : a.alg.first (a.alg.casesOf l) ≠ Brk.none := by
              rw [e1]; intro e3
              have e4 := Hlaw.out
              rw [e3] at e4
              have e5 := Hl.out
              have e6 : Brk.none.law = 0 := rfl
              omega
             rw [Hat.out e2, e1])
            generalize a.alg.holds (caseAt l many s n e) = hh at *
            go_wp2_with fail
            go_at_call 79
            refine HC.out.mono ?_
            rintro en w4 ⟨rfl, hb4⟩
            have bF4 := bF.below hb4 bF.lt
            have bR4 := bR2.below hb4 bR2.lt
            have bD4 := bD2.below hb4 bD2.lt
            have hB4 := hBX.trans (hb4.mono hBX.size)
            clear HC hb4 bF bR2 bD2 hBX bA2 cA0 cA1 cA2
            cases hh
            ·have Hfin := hide (Hbad.out rfl)
             have f0 := bF4.cell 0
             have f1 := bF4.cell 1
             have f2 := bF4.cell 2
             have f3 := bF4.cell 3
             have f4 := bF4.cell 4
             have r0 := bR4.cell 0
             have r1 := bR4.cell 1
             have r2 := bR4.cell 2
             have r3 := bR4.cell 3
             have r4 := bR4.cell 4
             have rf := bR4.frozen
             simp at f0 f1 f2 f3 f4 r0 r1 r2 r3 r4
             go_wp2
             have bR5 := bR4.set5 (.int .i64 l) (.int .i64 x0) (.int .i64 x1) (.int .i64 x2) (.int .i64 e)
             have d0 := bR5.cell 0
             have d1 := bR5.cell 1
             have d2 := bR5.cell 2
             have d3 := bR5.cell 3
             have d4 := bR5.cell 4
             unfold YtjhkadffaephmabGreat.set5 at d0 d1 d2 d3 d4
             simp at d0 d1 d2 d3 d4
             refine bodyPost_ret (v := .agg #[.int .i64 l, .int .i64 x0, .int .i64 x1, .int .i64 x2, .int .i64 e]) (by simp [results, Tryz.results50, go_sem, d0, d1, d2, d3, d4]) rfl ⟨by rw [Hfin.out, Hval.out], ?_⟩
             exact below5 (hB0.trans (hB4.mono hB0.size)) (by omega) _ _ _ _ _
            ·have Hk := hide (Hkeep.out rfl)
             go_wp2
             go_roundw
             case rel =>
              exact ⟨_, _, _, _, _, _, _, _, _, _, _, _, _, _, _, _, _, _, _, _, _, _, _, _, ⟨e + 1, by omega, by go_num, Hk, hide bD4, hide hB4⟩, rfl⟩
             case measure => simp [intOf]; omega
           ·obtain rfl : ed = e := by omega
            have Hn2 := hide (show ∀ b ∈ enumTo l many s ed (n + 1) 0, a.alg.holds b = true by rw [← enumTo_row]; exact He.out)
            clear He
            go_wp2
            go_roundw
            case rel => exact ⟨n + 1, by omega, by go_num, Hn2, HB⟩
            case measure => simp [intOf]; omega
         | succ t =>
          have e1 : ((t + 1 : Nat) : Int) - 1 = (t : Int) := by omega
          rw [e1]
          have hmn : n / s ^ (many - (t + 1)) ≤ 13824 := Nat.le_trans (Nat.div_le_self _ _) (by omega)
          have hst := hide (digits_step (many := many) (s := s) (n := n) (t := t) hm3 (by omega))
          have hdv := hide (div_step (many := many) (s := s) (n := n) (t := t) (by omega))
          have ht3 : (t : Int) < 3 := by omega
          have hcv : ∃ v, wr.cell? ⟨B, t, none⟩ = some v := by
           rw [Hbt.out.cell t]
           have : t = 0 ∨ t = 1 ∨ t = 2 := by omega
           rcases this with rfl | rfl | rfl
           ·exact ⟨_, rfl⟩
           ·exact ⟨_, rfl⟩
           ·exact ⟨_, rfl⟩
          obtain ⟨v, hcv⟩ := hcv
          have hfz := Hbt.out.frozen t
          have Hnew := hide (fun u => Hbt.out.set t u)
          have hBB : bA1.lt = bA1.lt := rfl
          have hBne : w.heap.size ≠ B := by have := bA.lt; omega
          generalize hmm : n / s ^ (many - (t + 1)) = m at *
          have hemod := hide (show (m : Int) % (s : Int) = ((m % s : Nat) : Int) from (Int.natCast_emod m s).symm)
          have hediv := hide (show (m : Int) / (s : Int) = ((m / s : Nat) : Int) from (Int.natCast_ediv m s).symm)
          have HM := hide hmm
          have hq0 : 0 ≤ (m : Int) / (s : Int) := by rw [hediv.out]; exact Int.natCast_nonneg _
          have hq1 : (m : Int) / (s : Int) ≤ 13824 := by rw [hediv.out]; exact Int.ofNat_le.2 (Nat.le_trans (Nat.div_le_self m s) hmn)
          have hBn := hide (HB.out.setCell (p := ⟨B, t, none⟩) hBlt (.int .i64 ((m : Int) % (s : Int))))
          clear hmm hBB
          go_wp2
          go_roundw
          case rel => exact ⟨t, by omega, by go_num, by rw [hediv.out, hdv.out], hide (by rw [← hst.out, ← hemod.out]; exact Hnew.out _), hBn⟩
          case measure => simp [intOf]
       ·obtain rfl : N = n := by omega
        have hfirst : a.alg.first (a.alg.casesOf l) = Brk.none := by rw [← Henum.out]; exact first_of_all Hn.out
        have Hg2 := hide (Hgo.out hfirst)
        clear Hn Hgo hfirst
        go_wp2
        go_roundw
        case rel => exact ⟨p + 1, by omega, by go_num, Hg2, HB⟩
        case measure => simp [intOf]; omega
  ·have Hfin := hide (firstOf_none (a := a.alg) (ls := ls) (fun i hi => Hall.out i (by omega) hi))
   have r0 := bR1.cell 0
   have r1 := bR1.cell 1
   have r2 := bR1.cell 2
   have r3 := bR1.cell 3
   have r4 := bR1.cell 4
   have rf := bR1.frozen
   simp at r0 r1 r2 r3 r4
   go_wp2
   have bR5 := bR1.set5 (.int .i64 0) (.int .i64 0) (.int .i64 0) (.int .i64 0) (.int .i64 0)
   have d0 := bR5.cell 0
   have d1 := bR5.cell 1
   have d2 := bR5.cell 2
   have d3 := bR5.cell 3
   have d4 := bR5.cell 4
   unfold YtjhkadffaephmabGreat.set5 at d0 d1 d2 d3 d4
   simp at d0 d1 d2 d3 d4
   refine bodyPost_ret (v := Brk.none.val) (by simp [results, Tryz.results50, go_sem, d0, d1, d2, d3, d4, Brk.val, Brk.none]) rfl ⟨by rw [Hfin.out], ?_⟩
   exact below5 hBw (by omega) _ _ _ _ _

end Go.Proofs.YtjhkadffaephmabGreat

/-
 signpostref.CheckAlgebra: the walk.
-/
namespace Go.Proofs.YtjhkadffaephmabGreat
set_option maxRecDepth 100000
open Go.RowKit

theorem Alg.check_small {a : Alg} (h1 : 2 ≤ a.size) (h2 : a.size ≤ 24) (h3 : a.E.len ≤ 8) (h4 : (a.B.len : Int) = a.size) :
  a.check = if (a.B.append a.E).wide a.size = false then 1 else if (a.B.append a.E).routes a.size = false then 5 else 0 := by
 rw [Tab.append_wide, Tab.append_routes]
 unfold Alg.check Alg.formOk Alg.routesOk
 rw [if_neg (by omega), if_neg (by omega)]
 simp [h4]

set_option maxHeartbeats 4000000 in
theorem refCheck_small (a : AlgM) (w : World) (h : a.In w.heap.size w) (h1 : 2 ≤ a.size) (h2 : a.size ≤ 24) (h3 : a.E.t.len ≤ 8) (h4 : (a.B.t.len : Int) = a.size) :
  Calls Tryz.prog 22 #[a.val] w fun e w' => e = .returned (.int .i64 a.alg.check) ∧ Below w.heap.size w w' := by
 have Hck := hide (Alg.check_small (a := a.alg) h1 h2 h3 h4)
 have H4 := hide h4
 have h3' : (a.E.t.len : Int) ≤ 8 := by omega
 have h4' : ((a.B.t.len : Int) != a.size) = false := by simp [h4]
 have hbl : a.B.t.len ≤ 24 := by omega
 have hEl := h.E.len
 have hBl := h.B.len
 unfold maxLen at hEl hBl
 have hb0 : ∀ o, Below w.heap.size w (w.alloc o) := fun o => (Below.refl _ _).alloc (Nat.le_refl _) _
 clear h4
 obtain ⟨size, B, E⟩ := a
 simp only [AlgM.val, AlgM.alg] at *
 have hBv : B.val = .slice B.ga B.t.len B.cap := rfl
 have hEv : E.val = .slice E.ga E.t.len E.cap := rfl
 rw [hBv, hEv]
 have HBv := hide hBv
 have HEv := hide hEv
 clear hBv hEv
 go_enter Tryz.func22, Tryz.ntmps22
 go_wp2_with (go_at_call 24; refine (between_any _ _ _ _).mono ?_; rintro e w' ⟨rfl, rfl⟩)
 have hI1 := h.below (((hb0 (.cells #[.int .i64 size, .slice B.ga B.t.len B.cap, .slice E.ga E.t.len E.cap] 24)).alloc (by simp) (.cells #[] 32)).trans (Below.mono (below_dr _) (by simp; omega))) (Nat.le_refl _)
 have bA0 : Blk ((w.alloc (.cells #[.int .i64 size, .slice B.ga B.t.len B.cap, .slice E.ga E.t.len E.cap] 24)).alloc (.cells #[] 32)).drew w.heap.size #[.int .i64 size, .slice B.ga B.t.len B.cap, .slice E.ga E.t.len E.cap] 24 := (Blk.new w _ _).alloc _
 have hB0 := (((hb0 (.cells #[.int .i64 size, .slice B.ga B.t.len B.cap, .slice E.ga E.t.len E.cap] 24)).alloc (by simp) (.cells #[] 32)).trans (Below.mono (below_dr _) (by simp; omega)))
 have hsz0 : ((w.alloc (.cells #[.int .i64 size, .slice B.ga B.t.len B.cap, .slice E.ga E.t.len E.cap] 24)).alloc (.cells #[] 32)).drew.heap.size = w.heap.size + 2 := by
  show ((w.alloc (.cells #[.int .i64 size, .slice B.ga B.t.len B.cap, .slice E.ga E.t.len E.cap] 24)).alloc (.cells #[] 32)).heap.size = _
  simp
 have hown0 : World.ownsRow ((w.alloc (.cells #[.int .i64 size, .slice B.ga B.t.len B.cap, .slice E.ga E.t.len E.cap] 24)).alloc (.cells #[] 32)).drew (w.heap.size + 1) 32 1 (.slice (some ⟨w.heap.size + 1, 0, none⟩) 0 0) 0 [] := by
  have := World.ownsRow_made (w.alloc (.cells #[.int .i64 size, .slice B.ga B.t.len B.cap, .slice E.ga E.t.len E.cap] 24)) #[] 0 (base := w.heap.size + 1) (e := 32) (size := 1) (by simp) (Nat.zero_le _) (by simp)
  simp only [World.size_alloc] at this
  exact this
 obtain ⟨g1, c1, W1, hrun1, hown1, hgr1⟩ := append_mat _ (w.heap.size + 1) w.heap.size (w.heap.size + 1) 0 0 [] hown0 B hI1.B (by rw [hsz0]; omega) (by omega) 22
 have hW1 : Below (w.heap.size + 1) _ W1 := (Below.refl _ _).grown hgr1 (by rw [hsz0]; omega) (fun k e => by cases e; exact Nat.le_refl _)
 have bA1 := bA0.below hW1 (by omega)
 have hI2 := hI1.below hW1 (by omega)
 have hsz1 := hW1.size
 rw [hsz0] at hsz1
 simp only [Nat.zero_add, List.nil_append] at hrun1 hown1
 obtain ⟨g2, c2, W2, hrun2, hown2, hgr2⟩ := append_mat _ (w.heap.size + 1) w.heap.size g1 c1 B.t.len B.rows hown1 E hI2.E (by omega) (by omega) 22
 have hg1 := (hown1.lt g1 rfl).1
 have hW2 : Below (w.heap.size + 1) W1 W2 := (Below.refl _ _).grown hgr2 (by omega) (fun k e => by cases e; exact hg1)
 have bA2 := bA1.below hW2 (by omega)
 have hI3 := hI2.below hW2 (by omega)
 have hsz2 := hW2.size
 have hBW2 := hB0.trans ((hW1.trans hW2).mono (by omega))
 obtain ⟨m, hmv, hmI, hmt⟩ := all_mat hown2 hI3.B hI3.E (by omega) (by omega)
 have Hm := hide (show ∃ m : Mat, Value.slice (some ⟨g2, 0, none⟩) (B.t.len + E.t.len) c2 = .slice m.ga m.t.len m.cap ∧ Hid (m.In W2.heap.size W2) ∧ Hid (m.t = B.t.append E.t) ∧ Hid (Blk W2 w.heap.size #[.int .i64 size, .slice B.ga B.t.len B.cap, .slice E.ga E.t.len E.cap] 24) ∧ Hid (Below w.heap.size w W2) from ⟨m, hmv.symm, hmI, hmt, bA2, hBW2⟩)
 rw [HBv.out] at hrun1
 rw [HEv.out] at hrun2
 have d0 := bA1.cell 0
 have d1 := bA1.cell 1
 have d2 := bA1.cell 2
 simp at d0 d1 d2
 have R1 := hide hrun1
 have R2 := hide hrun2
 clear hmv hmI hmt m hBW2 hsz2 hI3 bA2 hW2 hg1 hgr2 hown2 hrun2 hrun1 hsz1 hI2 bA1 hW1 hgr1 hown1 hown0 hsz0 hB0 bA0 hI1
 go_cut [3] from 21 to 27 (fun s3 wx => ∃ m : Mat, s3 = .slice m.ga m.t.len m.cap ∧ Hid (m.In wx.heap.size wx) ∧ Hid (m.t = B.t.append E.t) ∧ Hid (Blk wx w.heap.size #[.int .i64 size, .slice B.ga B.t.len B.cap, .slice E.ga E.t.len E.cap] 24) ∧ Hid (Below w.heap.size w wx))
 case first =>
  go_region_law (first
   | (refine step_append_run rfl (.tmp 21) (.tmp 23) 22 rfl _ _ (by simp [Act.eval]) (by simp [Act.eval]) _ _ R1.out ?_)
   | (refine step_append_run rfl (.tmp 24) (.tmp 26) 22 rfl _ _ (by simp [Act.eval]) (by simp [Act.eval]) _ _ R2.out ?_))
  all_goals
   go_wp2_with fail
   go_meet
   exact Hm.out
 case rest =>
  obtain ⟨m, rfl, HI, HT, HA, HB⟩ := hcut
  clear Hm R1 R2 d0 d1 d2 HBv HEv hb0
  have hml := HI.out.len
  unfold maxLen at hml
  have hmn : Hid (m.t.len ≤ 32) := hide (by rw [HT.out]; show B.t.len + E.t.len ≤ 32; omega)
  have hck : Hid (Alg.check ⟨size, B.t, E.t⟩ = if m.t.wide size = false then 1 else if m.t.routes size = false then 5 else 0) := hide (by rw [HT.out]; exact Hck.out)
  clear Hck
  go_wp2
  go_loopw [4] (fun i wr => ∃ k : Nat, k ≤ m.t.len ∧ i = .int .i64 k ∧ Hid (∀ r, r < k → (m.t.L r : Int) = size) ∧ Hid (Below wc.heap.size wc wr)) (fun i _ => m.t.len - (intOf i).toNat)
  case atStart => exact ⟨0, Nat.zero_le _, rfl, hide (fun r hr => absurd hr (Nat.not_lt_zero _)), hide (Below.refl _ _)⟩
  case round =>
   obtain ⟨k, hk, rfl, Hall, HBr⟩ := hrel
   have bA3 := HA.out.below HBr.out HA.out.lt
   have c0 := bA3.cell 0
   simp at c0
   have hBw := hide (HB.out.trans (HBr.out.mono HB.out.size))
   by_cases hlt : k < m.t.len
   ·have hI3 := HI.out.below HBr.out (Nat.le_refl _)
    have hga := HI.out.ga (by omega)
    have hrow := hI3.row k hlt
    have hlens := HI.out.lens k hlt
    unfold maxLen at hlens
    have hkz : (k : Int) < (m.t.len : Int) := by omega
    clear hI3
    by_cases he : (m.t.L k : Int) = size
    ·have he' : ((m.t.L k : Int) != size) = false := by simp [he]
     have He := hide he
     clear he
     go_wp2_with fail
     go_quiet (fail)
     go_wp2
     go_roundw
     case rel => exact ⟨k + 1, by omega, by go_num, hide (fun r hr => by
      by_cases e : r = k
      ·subst e; exact He.out
      ·exact Hall.out r (by omega)), hide (below_drewN HBr.out _)⟩
     case measure => simp [intOf]; omega
    ·have he' : ((m.t.L k : Int) != size) = true := by simp [he]
     have hfin := hide (show Alg.check ⟨size, B.t, E.t⟩ = 1 by rw [hck.out]; simp [Tab.wide_false hlt he])
     clear he
     go_wp2_with fail
     go_quiet (fail)
     go_wp2
     go_ret
     exact ⟨by rw [hfin.out]; rfl, below_drewN hBw.out _⟩
   ·have hwide : m.t.wide size = true := (m.t.wide_iff size).2 (fun r hr => Hall.out r (by omega))
    have hck2 : Hid (Alg.check ⟨size, B.t, E.t⟩ = if m.t.routes size = false then 5 else 0) := hide (by rw [hck.out, hwide]; rfl)
    have HW := hide hwide
    clear hwide
    go_wp2
    go_loopw [5, 6] (fun i _ wr => ∃ k : Nat, k ≤ m.t.len ∧ i = .int .i64 k ∧ Hid (∀ r, r < k → ∀ c, c < m.t.L r → 0 ≤ m.t.Z r c ∧ m.t.Z r c < size) ∧ Hid (Below wc.heap.size wc wr)) (fun i _ _ => m.t.len - (intOf i).toNat)
    case atStart => exact ⟨0, Nat.zero_le _, rfl, hide (fun r hr => absurd hr (Nat.not_lt_zero _)), HBr⟩
    case round =>
     clear Hall bA3 c0 hBw HBr
     obtain ⟨i, hi, rfl, Hall, HBr⟩ := hrel
     by_cases hlt2 : i < m.t.len
     ·have hga := HI.out.ga (by omega)
      have hlens := HI.out.lens i hlt2
      unfold maxLen at hlens
      have hLi : Hid ((m.t.L i : Int) = size) := hide ((m.t.wide_iff size).1 HW.out i hlt2)
      have hkz : (i : Int) < (m.t.len : Int) := by omega
      go_wp2
      go_loopw [6] (fun j wr => ∃ c : Nat, (c : Int) ≤ size ∧ j = .int .i64 c ∧ Hid (∀ c', c' < c → 0 ≤ m.t.Z i c' ∧ m.t.Z i c' < size) ∧ Hid (Below wc.heap.size wc wr)) (fun j _ => size.toNat - (intOf j).toNat)
      case atStart => exact ⟨0, by omega, rfl, hide (fun r hr => absurd hr (Nat.not_lt_zero _)), HBr⟩
      case round =>
       clear HBr
       obtain ⟨c, hc, rfl, Hrow, HBr⟩ := hrel
       have bA3 := HA.out.below HBr.out HA.out.lt
       have c0 := bA3.cell 0
       simp at c0
       have hBw := hide (HB.out.trans (HBr.out.mono HB.out.size))
       by_cases hcs : (c : Int) < size
       ·have hI3 := HI.out.below HBr.out (Nat.le_refl _)
        have hcl : c < m.t.L i := by have := hLi.out; omega
        have hrow := hI3.row i hlt2
        have hA := (HI.out.addr i hlt2 (by omega)).1
        rw [hA] at hrow
        have hcell := hI3.cell i hlt2 c hcl
        have hcz : (c : Int) < (m.t.L i : Int) := by omega
        clear hI3 hA
        by_cases hok : 0 ≤ m.t.Z i c ∧ m.t.Z i c ≤ size - 1
        ·have hb : (decide (0 ≤ m.t.Z i c) && decide (m.t.Z i c ≤ size - 1)) = true := by simp [hok]
         have CB := hide (fun W => show Calls Tryz.prog 24 #[.int .i64 (m.t.Z i c), .int .i64 0, .int .i64 (size - 1)] W fun e w' => e = .returned (.bool true) ∧ w' = W from by rw [← hb]; exact between_any _ _ _ W)
         have Hok := hide hok
         clear hok hb
         go_wp2_with fail
         go_quiet ((go_at_call 24; exact Calls.quiet_of_same (CB.out _)))
         go_wp2
         go_roundw
         case rel => exact ⟨c + 1, by omega, by go_num, hide (fun c' hc' => by
          by_cases e : c' = c
          ·subst e; have := Hok.out; omega
          ·exact Hrow.out c' (by omega)), hide (below_drewN HBr.out _)⟩
         case measure => simp [intOf]; omega
        ·have hb : (decide (0 ≤ m.t.Z i c) && decide (m.t.Z i c ≤ size - 1)) = false := by rw [Bool.eq_false_iff]; simpa using hok
         have CB := hide (fun W => show Calls Tryz.prog 24 #[.int .i64 (m.t.Z i c), .int .i64 0, .int .i64 (size - 1)] W fun e w' => e = .returned (.bool false) ∧ w' = W from by rw [← hb]; exact between_any _ _ _ W)
         have hfin := hide (show Alg.check ⟨size, B.t, E.t⟩ = 5 by rw [hck2.out]; simp [Tab.routes_false (s := size) hlt2 hcl (by omega)])
         clear hok hb
         go_wp2_with fail
         go_quiet ((go_at_call 24; exact Calls.quiet_of_same (CB.out _)))
         go_wp2
         go_ret
         exact ⟨by rw [hfin.out]; rfl, below_drewN hBw.out _⟩
       ·have hfin : ∀ r, r < i + 1 → ∀ c, c < m.t.L r → 0 ≤ m.t.Z r c ∧ m.t.Z r c < size := fun r hr => by
         by_cases e : r = i
         ·subst e; intro c' hc'; exact Hrow.out c' (by have := hLi.out; omega)
         ·exact Hall.out r (by omega)
        have Hfin := hide hfin
        clear hfin
        go_wp2
        go_roundw
        case rel => exact ⟨i + 1, by omega, by go_num, Hfin, HBr⟩
        case measure => simp [intOf]; omega
     ·have hfin := hide (show Alg.check ⟨size, B.t, E.t⟩ = 0 by rw [hck2.out]; simp [(m.t.routes_iff size).2 (fun r hr => Hall.out r (by omega))])
      have hBw := hide (HB.out.trans (HBr.out.mono HB.out.size))
      go_wp2
      go_ret
      exact ⟨by rw [hfin.out]; rfl, hBw.out⟩

set_option maxHeartbeats 1000000 in
theorem refCheck_any (a : AlgM) (w : World) (h : a.In w.heap.size w) :
  Calls Tryz.prog 22 #[a.val] w fun e w' => e = .returned (.int .i64 a.alg.check) ∧ Below w.heap.size w w' := by
 have hb0 : ∀ o, Below w.heap.size w (w.alloc o) := fun o => (Below.refl _ _).alloc (Nat.le_refl _) _
 by_cases h1 : 2 ≤ a.size ∧ a.size ≤ 24
 ·by_cases h3 : a.E.t.len ≤ 8
  ·by_cases h4 : (a.B.t.len : Int) = a.size
   ·exact refCheck_small a w h h1.1 h1.2 h3 h4
   ·obtain ⟨g1, g2⟩ := h1
    have hBl := h.B.len
    unfold maxLen at hBl
    have hfin := hide (show a.alg.check = 1 by simp [Alg.check, Alg.formOk, AlgM.alg, h4]; omega)
    have h3' : (a.E.t.len : Int) ≤ 8 := by omega
    have h4' : ((a.B.t.len : Int) != a.size) = true := by simp [h4]
    have H4 := hide h4
    clear h4
    simp only [AlgM.val, Mat.val]
    go_enter Tryz.func22, Tryz.ntmps22
    go_wp2_with (go_at_call 24; refine (between_any _ _ _ _).mono ?_; rintro e w' ⟨rfl, rfl⟩)
    go_ret
    exact ⟨by rw [hfin.out]; rfl, hb0 _⟩
  ·obtain ⟨g1, g2⟩ := h1
   have hEl := h.E.len
   unfold maxLen at hEl
   have hfin := hide (show a.alg.check = 2 by simp [Alg.check, AlgM.alg]; omega)
   have h3' : 8 < (a.E.t.len : Int) := by omega
   simp only [AlgM.val, Mat.val]
   go_enter Tryz.func22, Tryz.ntmps22
   go_wp2_with (go_at_call 24; refine (between_any _ _ _ _).mono ?_; rintro e w' ⟨rfl, rfl⟩)
   go_ret
   exact ⟨by rw [hfin.out]; rfl, hb0 _⟩
 ·have hfin := hide (show a.alg.check = 3 by simp [Alg.check, AlgM.alg]; omega)
  have hb : (decide (2 ≤ a.size) && decide (a.size ≤ 24)) = false := by rw [Bool.eq_false_iff]; simpa using h1
  have CB := hide (fun W => show Calls Tryz.prog 24 #[.int .i64 a.size, .int .i64 2, .int .i64 24] W fun e w' => e = .returned (.bool false) ∧ w' = W from by rw [← hb]; exact between_any _ _ _ W)
  clear hb h1
  simp only [AlgM.val]
  go_enter Tryz.func22, Tryz.ntmps22
  go_wp2_with (go_at_call 24; refine (CB.out _).mono ?_; rintro e w' ⟨rfl, rfl⟩)
  go_ret
  exact ⟨by rw [hfin.out]; rfl, hb0 _⟩

end Go.Proofs.YtjhkadffaephmabGreat
