/-
  Our own texts, bundled: a claim holds few files.
-/
import Derived.Test.YtjhkadffaephmabGreatCutEngineStepsAI
import Derived.Test.YtjhkadffaephmabGreatCutEngineStepsBC
import Derived.Test.YtjhkadffaephmabGreatCutEngineStepsBF
import Derived.Test.YtjhkadffaephmabGreatCutEngineStepsAH
import Derived.Lib.SliceRun
/-
  engine.tick.
-/
namespace Go.Proofs.YtjhkadffaephmabGreat
set_option maxRecDepth 100000
open Go.RowKit

/-- Numbers in a row of one's own. -/
theorem own_nats {W : World} {b : Nat} {v : Value} {K : List Nat} (h : W.ownsRow b 3 1 v K.length (natsL K)) :
    ∃ (ta : Option Addr) (tc gt : Nat), v = .slice ta K.length tc ∧ (0 < K.length → ta = some ⟨gt, 0, none⟩ ∧ b ≤ gt ∧ gt < W.heap.size ∧ ∀ k, k < K.length → W.cell? ⟨gt, k, none⟩ = some (.int .i64 ((K.getD k 0 : Nat) : Int))) := by
  rcases Go.Joins.ownsRow_forms h with ⟨e0, e1⟩ | ⟨g, cap, e1⟩
  · exact ⟨none, 0, 0, by rw [e0, e1], fun h0 => by omega⟩
  · refine ⟨some ⟨g, 0, none⟩, cap, g, e1, fun h0 => ⟨rfl, (h.lt g (by rw [e1]; rfl)).1, (h.lt g (by rw [e1]; rfl)).2, fun k hk => ?_⟩⟩
    rw [e1] at h
    rw [h.cellAt k (by omega)]
    simp [natsL, List.getD_eq_getElem?_getD, List.getElem?_eq_getElem hk]

set_option maxHeartbeats 2000000 in
theorem tick_many (n : NetM) (base P N i : Nat) (e : Eng) (Bv : Value) (y : Lay) (w : World) (h : n.In base w) (hck : n.net.check = 0) (hN : n.nodes = N) (hL : Live base P N e Bv y w) (hm : e.bag.length ≤ 120) (hK : 120 < e.bag.length + (n.net.hearers i).length) :
    Calls Tryz.prog 41 #[n.val, .pointer (some ⟨P, 0, none⟩), .int .i64 i] w fun r w' => r = .returned (.int .i64 2) ∧ Live base P N e Bv y w' ∧ Below base w w' := by
  have hbw : base ≤ w.heap.size := Nat.le_of_lt (Nat.lt_of_le_of_lt hL.lp hL.head.lt)
  have hk6 : (n.net.hearers i).length ≤ 6 := by
    have := n.net.hearers_le i
    have g := Net.good_of_check hck
    have := g.hi
    have := Net.nodes_N g
    omega
  obtain ⟨W1, hW1⟩ : ∃ W1, W1 = w.alloc (.cells n.cells 27) := ⟨_, rfl⟩
  have hB1 : Below w.heap.size w W1 := by rw [hW1]; exact (Below.refl _ w).alloc (Nat.le_refl _) _
  have b3 : Blk W1 w.heap.size n.cells 27 := by rw [hW1]; exact Blk.new w _ _
  have HH := hide (hearers_any n i W1 ((h.below (hB1.mono hbw) (Nat.le_refl _)).mono (Nat.le_trans hbw hB1.size)) hck)
  have HX : Hid (∀ W, Below W1.heap.size W1 W → Live base P N e Bv y W ∧ Below base w W) := hide (fun W hb => ⟨(hL.below hB1).below hb, (hB1.mono hbw).trans (hb.mono (Nat.le_trans hbw hB1.size))⟩)
  obtain ⟨bl, hbl⟩ : ∃ bl bc, Bv = .slice bl e.bag.length bc := by
    rcases Go.Joins.ownsRow_forms hL.bag with ⟨e0, e1⟩ | ⟨g, cap, e1⟩
    · exact ⟨none, 0, by rw [e0, e1]⟩
    · exact ⟨_, _, e1⟩
  obtain ⟨bc, hbl⟩ := hbl
  have HL := hide (hL.below hB1)
  have Hbl := hide hbl
  have hcells : n.cells = #[.int .i64 n.a.size, .slice n.a.B.ga n.a.B.t.len n.a.B.cap, .slice n.a.E.ga n.a.E.t.len n.a.E.cap, .int .i64 N, .slice n.la n.ln n.lc] := by simp only [NetM.cells, Mat.val, hN]
  rw [hcells] at hW1
  rw [NetM.val, hcells, hW1] at HH
  rw [NetM.val, hcells]
  generalize n.net.hearers i = K at *
  generalize e.bag.length = len at *
  have HW1 := hide hW1
  clear h hck hN hL hbw hB1 b3 hbl hcells hW1
  go_enter Tryz.func41, Tryz.ntmps41
  go_wp2_with fail
  go_at_call 70
  refine HH.out.mono ?_
  rw [← HW1.out]
  rintro r W2 ⟨⟨v, rfl, hv⟩, hb2⟩
  obtain ⟨ta, tc, gt, rfl, _⟩ := own_nats hv
  have HF := hide (HX.out W2 hb2)
  have p1 := HF.out.1.head.cell 1
  simp at p1
  rw [Hbl.out] at p1
  have hki : (120 : Int) < (len : Int) + (K.length : Int) := by omega
  generalize K.length = kl at *
  clear hb2 hv HX HH
  go_wp2
  go_ret
  exact ⟨rfl, HF.out⟩

/-- Behind so many tellings. -/
structure TickI (base P N : Nat) (n : Net) (e1 : Eng) (i : Nat) (K : List Nat) (y3 : Lay) (gt k : Nat) (wr : World) : Prop where
  live : ∃ Bvk, Live base P N { e1 with bag := e1.bag ++ (K.take k).map fun q => e1.mail n i q } Bvk y3 wr ∧ (0 < K.length → Bvk.ownBlock ≠ some gt)
  lt : 0 < K.length → gt < wr.heap.size ∧ gt ≠ P
  cell : ∀ j, j < K.length → wr.cell? ⟨gt, j, none⟩ = some (.int .i64 ((K.getD j 0 : Nat) : Int))

theorem take_snoc (K : List Nat) (f : Nat → Mail) (k : Nat) (hk : k < K.length) : (K.take (k + 1)).map f = (K.take k).map f ++ [f (K.getD k 0)] := by
  rw [List.take_add_one, List.getElem?_eq_getElem hk, List.map_append, List.getD_eq_getElem?_getD, List.getElem?_eq_getElem hk]
  rfl

set_option maxHeartbeats 4000000 in
theorem tick_ok (n : NetM) (base P N i : Nat) (e : Eng) (Bv : Value) (y : Lay) (w : World) (h : n.In base w) (hck : n.net.check = 0) (hN : n.nodes = N) (hL : Live base P N e Bv y w) (hfit : e.Fit n.net) (hi : i < N) (hK : e.bag.length + (n.net.hearers i).length ≤ 120) :
    Calls Tryz.prog 41 #[n.val, .pointer (some ⟨P, 0, none⟩), .int .i64 i] w fun r w' => r = .returned (.int .i64 0) ∧ (∃ Bv' y', Live base P N (e.tick n.net i) Bv' y' w') ∧ Below base w w' := by
  have hbw : base ≤ w.heap.size := Nat.le_of_lt (Nat.lt_of_le_of_lt hL.lp hL.head.lt)
  have g := Net.good_of_check hck
  have hi6 := g.hi
  have hNN : n.net.N = N := by show n.nodes.toNat = N; omega
  have hN6 : N ≤ 6 := by have : n.net.nodes = n.nodes := rfl; omega
  obtain ⟨i0, hi0, hq⟩ : ∃ i, Tryz.prog.info? 69 = some i ∧ (i.zero.map (fun z => z.cells.size), i.size, i.bytes) = (some 3, 3, 32) := Option.map_eq_some_iff.1 Tryz.infoMail
  obtain ⟨z, hz, hzs⟩ : ∃ z, i0.zero = some z ∧ z.cells.size = 3 := by
    have := congrArg Prod.fst hq
    simpa [Option.map_eq_some_iff] using this
  have hsz : i0.size = 3 := congrArg (fun x => x.2.1) hq
  have hby : i0.bytes = 32 := congrArg (fun x => x.2.2) hq
  obtain ⟨W1, hW1⟩ : ∃ W1, W1 = w.alloc (.cells n.cells 27) := ⟨_, rfl⟩
  have hB1 : Below w.heap.size w W1 := by rw [hW1]; exact (Below.refl _ w).alloc (Nat.le_refl _) _
  have b3 : Blk W1 w.heap.size n.cells 27 := by rw [hW1]; exact Blk.new w _ _
  have HH := hide (hearers_any n i W1 ((h.below (hB1.mono hbw) (Nat.le_refl _)).mono (Nat.le_trans hbw hB1.size)) hck)
  obtain ⟨bl, hbl⟩ : ∃ bl bc, Bv = .slice bl e.bag.length bc := by
    rcases Go.Joins.ownsRow_forms hL.bag with ⟨e0, e1⟩ | ⟨g, cap, e1⟩
    · exact ⟨none, 0, by rw [e0, e1]⟩
    · exact ⟨_, _, e1⟩
  obtain ⟨bc, hbl⟩ := hbl
  have hL1 := hL.below hB1
  have HL := hide hL1
  have Hbl := hide hbl
  have hcells : n.cells = #[.int .i64 n.a.size, .slice n.a.B.ga n.a.B.t.len n.a.B.cap, .slice n.a.E.ga n.a.E.t.len n.a.E.cap, .int .i64 N, .slice n.la n.ln n.lc] := by simp only [NetM.cells, Mat.val, hN]
  have HLk := hide (fun W (hb : Below W1.heap.size W1 W) => engLook_all n base P N i e Bv y W (h.below ((hB1.mono hbw).trans (hb.mono (Nat.le_trans hbw hB1.size))) (Nat.le_refl _)) hck hN (hL1.below hb) hfit hi)
  have HBw : Hid (∀ W, Below W1.heap.size W1 W → Below base w W) := hide (fun W hb => (hB1.mono hbw).trans (hb.mono (Nat.le_trans hbw hB1.size)))
  have Hb3 := hide b3
  rw [hcells] at hW1
  rw [NetM.val, hcells, hW1] at HH
  rw [NetM.val, hcells] at HLk
  have HW1 := hide hW1
  obtain ⟨K, hKe⟩ : ∃ K, K = n.net.hearers i := ⟨_, rfl⟩
  rw [← hKe] at HH hK
  have Het : Hid (e.tick n.net i = { e.look n.net i with bag := e.bag ++ K.map fun k => (e.look n.net i).mail n.net i k }) := hide (by rw [hKe]; rfl)
  have Hcells := hide hcells
  have hbwH := hide hbw
  rw [NetM.val, hcells]
  obtain ⟨len, hlen⟩ : ∃ len, len = e.bag.length := ⟨_, rfl⟩
  rw [← hlen] at hK Hbl
  have Hlen := hide hlen
  have hbw1 : base ≤ W1.heap.size := Nat.le_trans hbw hB1.size
  clear h hck hN hL hL1 hbw hB1 b3 hbl hcells hW1 hfit hq hKe hlen
  go_enter Tryz.func41, Tryz.ntmps41
  go_wp2_with fail
  go_at_call 70
  refine HH.out.mono ?_
  rw [← HW1.out]
  rintro r W2 ⟨⟨v, rfl, hv⟩, hb2⟩
  obtain ⟨ta, tc, gt, rfl, hto⟩ := own_nats hv
  have hL2 := HL.out.below hb2
  have p1 := hL2.head.cell 1
  have q3 := Hb3.out.below hb2 Hb3.out.lt
  have x0 := q3.cell 0
  have x1 := q3.cell 1
  have x2 := q3.cell 2
  have x3 := q3.cell 3
  have x4 := q3.cell 4
  simp only [Hcells.out] at x0 x1 x2 x3 x4
  simp at p1 x0 x1 x2 x3 x4
  rw [Hbl.out] at p1
  have hki : ¬ (120 : Int) < (len : Int) + (K.length : Int) := by omega
  have Hto := hide hto
  have hgt : 0 < K.length → y.Off P N Bv W2 gt := fun h0 => by
    obtain ⟨_, h1, h2, _⟩ := hto h0
    have hl1 := HL.out
    exact ⟨by have := hl1.head.lt; omega, by have := hl1.rtrs.lt; omega, fun k hk => by have := (hl1.tolds k hk).lt; omega, fun hv => by have := (hl1.bag.lt _ hv).2; omega, h2, by have := hl1.ylo; have := hl1.head.lt; omega⟩
  have Hgt := hide hgt
  have HC := hide (HLk.out W2 hb2)
  have HB2 := hide (HBw.out W2 hb2)
  obtain ⟨kl, hkl⟩ : ∃ kl, kl = K.length := ⟨_, rfl⟩
  rw [← hkl] at hki Hto Hgt hK
  rw [← hkl]
  have Hkl := hide hkl
  clear hb2 hv HH HL hL2 q3 hto hgt HLk HBw hkl
  go_wp2_with fail
  go_at_call 71
  refine HC.out.mono ?_
  rintro r W3 ⟨rfl, ⟨y3, hl3, hyG, hyT⟩, hb3, hk3⟩
  have Hto3 : Hid (0 < kl → ta = some ⟨gt, 0, none⟩ ∧ gt < W3.heap.size ∧ y3.Off P N Bv W3 gt ∧ ∀ k, k < kl → W3.cell? ⟨gt, k, none⟩ = some (.int .i64 ((K.getD k 0 : Nat) : Int))) := hide (fun h0 => by
    obtain ⟨h1, h2, h3, h4⟩ := Hto.out h0
    have ho := Hgt.out h0
    have hlt : gt < W3.heap.size := Nat.lt_of_lt_of_le h3 hb3.size
    exact ⟨h1, hlt, ⟨ho.p, by rw [hyG]; exact ho.g, by rw [hyT.1]; exact ho.t, ho.v, hlt, by rw [hyT.2]; exact ho.lo⟩, fun k hk => by rw [World.cell?_of_block (hk3 gt ho)]; exact h4 k hk⟩)
  have hlb : ({ e.look n.net i with bag := (e.look n.net i).bag ++ (K.take 0).map fun q => (e.look n.net i).mail n.net i q } : Eng) = e.look n.net i := by simp
  have HI0 : Hid (TickI base P N n.net (e.look n.net i) i K y3 gt 0 W3) := hide ⟨⟨Bv, by rw [hlb]; exact hl3, fun h0 => (Hto3.out (by rw [Hkl.out]; exact h0)).2.2.1.v⟩, fun h0 => ⟨(Hto3.out (by rw [Hkl.out]; exact h0)).2.1, (Hto3.out (by rw [Hkl.out]; exact h0)).2.2.1.p⟩, fun j hj => (Hto3.out (by rw [Hkl.out]; omega)).2.2.2 j (by rw [Hkl.out]; exact hj)⟩
  have HB3 := hide (HB2.out.trans hb3)
  have Hta : Hid (0 < kl → ta = some ⟨gt, 0, none⟩) := hide (fun h0 => (Hto3.out h0).1)
  obtain ⟨e1, he1⟩ : ∃ e1, e1 = e.look n.net i := ⟨_, rfl⟩
  have Hebag : Hid (e1.bag.length = len) := hide (by rw [he1, Hlen.out]; rfl)
  have Het2 : Hid (e.tick n.net i = { e1 with bag := e1.bag ++ (K.take kl).map fun q => e1.mail n.net i q }) := hide (by rw [Het.out, he1, Hkl.out, List.take_length]; rfl)
  rw [← he1] at HI0
  have Hst : Hid (∀ k, k < K.length → K.getD k 0 < N → (Pkt.mk i (K.getD k 0) n.net.N (e1.R i)).text = (e1.mail n.net i (K.getD k 0)).b) := hide (fun k _ _ => rfl)
  clear hl3 hyG hyT hb3 hk3 hlb HC Hto Hgt HB2 Hto3 Het he1 x0 x1 x2 x3 x4 p1 Hbl HW1 Hcells Hb3
  go_wp2
  go_loopw [9, 10, 11, 30] (fun _ _ _ q wr => ∃ k : Nat, k ≤ kl ∧ q = .int .i64 k ∧ Hid (TickI base P N n.net e1 i K y3 gt k wr) ∧ Hid (Below base w wr)) (fun _ _ _ q _ => kl - (intOf q).toNat)
  case atStart => exact ⟨0, Nat.zero_le _, rfl, HI0, HB3⟩
  case round =>
    obtain ⟨k, hk, rfl, HI, HBr⟩ := hrel
    by_cases hlt : k < kl
    · have hki' : (k : Int) < (kl : Int) := by omega
      have hkK : k < K.length := by rw [← Hkl.out]; exact hlt
      obtain rfl := Hta.out (by omega)
      obtain ⟨⟨Bvk, hl, hne⟩, hgl, hgc⟩ := HI.out
      have c0 := hgc k hkK
      obtain ⟨ba, bc2, hBvk⟩ : ∃ ba bc2, Bvk = .slice ba (len + k) bc2 := by
        have hln : (e1.bag ++ (K.take k).map fun q => e1.mail n.net i q).length = len + k := by
          rw [List.length_append, List.length_map, List.length_take, Hebag.out]; omega
        rcases Go.Joins.ownsRow_forms hl.bag with ⟨e0, e1'⟩ | ⟨g, cap, e1'⟩
        · have h00 : len + k = 0 := by rw [← hln]; exact e1'
          exact ⟨none, 0, by rw [e0, h00]⟩
        · exact ⟨_, _, by rw [e1']; show Value.slice _ (List.length _) _ = _; rw [hln]⟩
      obtain ⟨q, hq⟩ : ∃ q, q = K.getD k 0 := ⟨_, rfl⟩
      rw [← hq] at c0
      have h0 := hl.head.cell 0
      have r0 := hl.rtrs.cell (i * 2)
      rw [hl.r0 i hi] at r0
      simp at h0
      obtain ⟨hro, hrc⟩ := hl.routes i hi
      have HWr := hide (write_any ⟨i, q, some ⟨y3.rb i, 0, none⟩, N, y3.rc i, y3.rb i, 0, e1.R i⟩ wr ⟨⟨fun _ => rfl, fun j hj => by rw [Nat.zero_add]; exact hrc j hj, by show N ≤ _; unfold maxLen; omega⟩, fun _ => hro.lt, by show N ≤ _; omega⟩)
      simp only [PktM.val, PktM.cells, PktM.pkt, txt] at HWr
      have hii : (i : Int) < (N : Int) := by omega
      have HLv := hide hl
      have Hne := hide hne
      have Hgl := hide hgl
      have Hgc := hide hgc
      have HBvk := hide hBvk
      have Hq := hide hq
      clear hl hne hgl hgc hro hrc hBvk hq HI HI0
      go_wp2_with fail
      go_at_call 72
      refine HWr.out.mono ?_
      rintro r w2 ⟨rfl, hb2⟩
      have hl2 := HLv.out.below hb2
      obtain ⟨tx, htx⟩ : ∃ tx, tx = (Pkt.mk i q N (e1.R i)).text := ⟨_, rfl⟩
      obtain ⟨er, her⟩ : ∃ er, er = (Pkt.mk i q N (e1.R i)).err := ⟨_, rfl⟩
      rw [← htx, ← her]
      obtain ⟨W5, hW5⟩ : ∃ W5, W5 = w2.alloc (.cells #[.int .i64 (i : Int), .int .i64 (q : Int), .string ⟨tx.toArray⟩] 69) := ⟨_, rfl⟩
      have hb5 : Below w2.heap.size w2 W5 := by rw [hW5]; exact (Below.refl _ w2).alloc (Nat.le_refl _) _
      have hl5 := hl2.below hb5
      have HL5 := hide hl5
      have p2 := hl2.head.cell 1
      have hln : (e1.bag ++ (K.take k).map fun q => e1.mail n.net i q).length = len + k := by
        rw [List.length_append, List.length_map, List.length_take, Hebag.out]; omega
      have hbag5 := hl5.bag
      have hbag5' : W5.ownsRow base 69 3 Bvk (len + k) (mailsL (e1.bag ++ (K.take k).map fun q => e1.mail n.net i q)) := by rw [← hln]; exact hbag5
      rw [HBvk.out] at hbag5'
      have HO5 := hide hbag5'
      have hn5 : W5.heap[w2.heap.size]? = some (.cells #[.int .i64 (i : Int), .int .i64 (q : Int), .string ⟨tx.toArray⟩] 69 (0, 0)) := by rw [hW5]; exact heap_alloc_new w2 _
      simp at p2
      rw [HBvk.out] at p2
      have Hn5 := hide hn5
      have hbw5 : base ≤ W5.heap.size := Nat.le_of_lt (Nat.lt_of_le_of_lt hl5.lp hl5.head.lt)
      have HB5 : Hid (Below base wr W5) := hide ((hb2.trans (hb5.mono hb2.size)).mono (Nat.le_of_lt (Nat.lt_of_le_of_lt HLv.out.lp HLv.out.head.lt)))
      have Hkeep : Hid (gt < W5.heap.size ∧ ∀ j, j < K.length → W5.cell? ⟨gt, j, none⟩ = some (.int .i64 ((K.getD j 0 : Nat) : Int))) := hide (by
        have hb25 := hb2.trans (hb5.mono hb2.size)
        refine ⟨Nat.lt_of_lt_of_le (Hgl.out (by omega)).1 hb25.size, fun j hj => ?_⟩
        rw [hb25.cell (p := ⟨gt, j, none⟩) (Hgl.out (by omega)).1]
        exact Hgc.out j hj)
      have Hw2s : Hid (W5.heap.size = w2.heap.size + 1) := hide (by rw [hW5]; simp)
      rw [hW5] at HO5 hbw5 Hn5
      have HW5 := hide hW5
      have Htx := hide htx
      clear hb2 hl2 hb5 hl5 hln hbag5 hbag5' hn5 HWr hW5 htx her
      go_wp2_with (at_builtin; refine wpList_append_lies _ rfl _ _ _ rfl base 69 i0 z 3 32 Tryz.underlying29 hi0 hz hsz hby hzs (by decide) _ (len + k) _ rfl HO5.out ⟨w2.heap.size, 0, none⟩ 1 1 [.int .i64 (i : Int), .int .i64 (q : Int), .string ⟨tx.toArray⟩] rfl rfl ?c1 ?c2 (by decide) ?c3 ?c4 ?c5 _ rfl ?_)
      all_goals try (case c1 => exact World.news_of_block Hn5.out)
      all_goals try (case c2 => simp [Value.oneCell'])
      all_goals try (case c3 => unfold maxLen; omega)
      all_goals try (case c4 => omega)
      all_goals try (case c5 => exact hbw5)
      intro g' cap' w4 hown2 hgrow hat2 hlt2
      rw [← HW5.out] at hgrow
      have hgrow' : W5.grownBy w4 Bvk.ownBlock := by rw [HBvk.out]; exact hgrow
      have hat' : Bvk.ownBlock = some g' ∨ W5.heap.size ≤ g' := by
        rw [HBvk.out]
        rcases hat2 with h1 | h1
        · exact Or.inl h1
        · right; have := Hw2s.out; omega
      have hmail : e1.mail n.net i q = ⟨i, q, tx⟩ := by unfold Eng.mail; rw [hNN, Htx.out]
      have hln : (e1.bag ++ (K.take k).map fun q => e1.mail n.net i q).length = len + k := by
        rw [List.length_append, List.length_map, List.length_take, Hebag.out]; omega
      have hown3 : w4.ownsRow base 69 3 (.slice (some ⟨g', 0, none⟩) (len + k + 1) cap') ((e1.bag ++ (K.take k).map fun q => e1.mail n.net i q) ++ [e1.mail n.net i q]).length (mailsL ((e1.bag ++ (K.take k).map fun q => e1.mail n.net i q) ++ [e1.mail n.net i q])) := by
        rw [mailsL_append, List.length_append, hln, hmail, List.map_take]
        exact hown2
      have hset := HL5.out.setBag hgrow' hown3 (fun q' hq' => by
        have : q' = g' := by simpa [Value.ownBlock] using hq'.symm
        subst this; exact hat')
      have hh4 := HL5.out.head.kept hgrow' (fun e2 => (HL5.out.bv P e2.symm).1 rfl)
      have p4 := hh4.cell 1
      have pf := hh4.frozen 1
      simp at p4
      rw [HBvk.out] at p4
      have HI4 : Hid (TickI base P N n.net e1 i K y3 gt (k + 1) (w4.setCell ⟨P, 1, none⟩ (.slice (some ⟨g', 0, none⟩) (len + k + 1) cap'))) := hide ⟨⟨_, by rw [take_snoc K _ k hkK, ← List.append_assoc, ← Hq.out]; exact hset, fun h0 hh => by
          have : g' = gt := by simpa [Value.ownBlock] using hh
          subst this
          rcases hat' with h1 | h1
          · exact Hne.out h0 h1
          · have := Hkeep.out.1; omega⟩, fun h0 => ⟨by have := Hkeep.out.1; have := hgrow.size; simp; omega, (Hgl.out h0).2⟩, fun j hj => by
          rw [cell_other (Hgl.out (by omega)).2, grown_cell hgrow' Hkeep.out.1 (Hne.out (by omega))]
          exact Hkeep.out.2 j hj⟩
      have HB4 := hide ((HBr.out.trans (HB5.out.trans (grown_below hgrow' (fun q' hq' => (HL5.out.bag.lt q' hq').1) (by rw [HW5.out]; exact hbw5)))).setCell (p := ⟨P, 1, none⟩) HL5.out.lp (.slice (some ⟨g', 0, none⟩) (len + k + 1) cap'))
      clear hown2 hgrow hat2 hlt2 hgrow' hat' hmail hln hown3 hset hh4 HB5 HO5 HBr HL5 HLv Hkeep hbw5
      go_wp2
      go_roundw
      case rel =>
        first
        | exact ⟨k + 1, by omega, by go_num, HI4, HB4⟩
        | ((repeat apply Exists.intro); refine ⟨?_, rfl⟩; exact ⟨k + 1, by omega, by go_num, HI4, HB4⟩)
      case measure => simp [intOf]; omega
    · have hkn : k = kl := by omega
      subst hkn
      obtain ⟨⟨Bvk, hl, _⟩, _, _⟩ := HI.out
      rw [← Het2.out] at hl
      have HF := hide (And.intro (Exists.intro (p := fun Bv' => ∃ y', Live base P N (e.tick n.net i) Bv' y' wr) Bvk ⟨y3, hl⟩) HBr.out)
      clear hl HI HI0 Het2
      go_wp2
      go_ret
      exact ⟨rfl, HF.out⟩

end Go.Proofs.YtjhkadffaephmabGreat

/-
  slices.Delete at mail; engine.lose.
-/
namespace Go.Proofs.YtjhkadffaephmabGreat
set_option maxRecDepth 100000
open Go.RowKit

theorem mailsL_take : ∀ (l : List Mail) (i : Nat), (mailsL l).take (i * 3) = mailsL (l.take i)
  | [], i => by simp [mailsL]
  | m :: l, 0 => by simp [mailsL]
  | m :: l, i + 1 => by
    have ih := mailsL_take l i
    have e : mailsL (m :: l) = .int .i64 m.F :: .int .i64 m.T :: .string ⟨m.b.toArray⟩ :: mailsL l := rfl
    have e2 : mailsL ((m :: l).take (i + 1)) = .int .i64 m.F :: .int .i64 m.T :: .string ⟨m.b.toArray⟩ :: mailsL (l.take i) := rfl
    rw [e, e2, show (i + 1) * 3 = i * 3 + 3 by omega, ← ih]
    rfl
theorem mailsL_drop : ∀ (l : List Mail) (i : Nat), (mailsL l).drop (i * 3) = mailsL (l.drop i)
  | [], i => by simp [mailsL]
  | m :: l, 0 => by simp
  | m :: l, i + 1 => by
    have ih := mailsL_drop l i
    have e : mailsL (m :: l) = .int .i64 m.F :: .int .i64 m.T :: .string ⟨m.b.toArray⟩ :: mailsL l := rfl
    rw [e, show (i + 1) * 3 = i * 3 + 3 by omega]
    exact ih
theorem mailsL_one (l : List Mail) : ∀ u ∈ mailsL l, u.oneCell' = true := fun u hu => by
  simp only [mailsL, List.mem_flatMap] at hu
  obtain ⟨m, _, hu⟩ := hu
  simp at hu
  rcases hu with rfl | rfl | rfl <;> rfl

/-- One mail is cleared. -/
theorem clear_mail (w : World) (g o c : Nat) (cs : Array Value) (ty : TypeId) (hb : Blk w g cs 69) (ho : o + 3 ≤ cs.size) :
    (Builtin.clear_ #[29] ty #[.slice (some ⟨g, o, none⟩) 1 c]).run Tryz.prog w = .ok (.tuple #[]) (((w.setCell ⟨g, o, none⟩ (.int .i64 0)).setCell ⟨g, o + 1, none⟩ (.int .i64 0)).setCell ⟨g, o + 1 + 1, none⟩ (.string ⟨#[]⟩)) := by
  have hst := run_storeCells_cells (P := Tryz.prog) g o [.int .i64 0, .int .i64 0, .string ⟨#[]⟩] 0 w (fun j hj => by
      have hj' : j < 3 := hj
      rw [hb.cell]
      rw [Array.getElem?_eq_getElem (by omega)]
      rfl) (fun j _ => hb.frozen _) (by intro v hv; simp at hv; rcases hv with rfl | rfl | rfl <;> rfl)
  have hzc : (Builtin.zeroCells (Value.agg #[.int .i64 0, .int .i64 0, .string ⟨#[]⟩]).cells 1).toList = [.int .i64 0, .int .i64 0, .string ⟨#[]⟩] := by kernel_rfl
  simp only [Nat.add_zero] at hst
  simp [Builtin.clear_, run_underlying Tryz.underlying29, hzc, hst]
  rfl

set_option maxHeartbeats 2000000 in
theorem deleteMail_any (w : World) (base g cap i j : Nat) (l : List Mail) (ho : w.ownsRow base 69 3 (.slice (some ⟨g, 0, none⟩) l.length cap) l.length (mailsL l)) (hi : i < l.length) (hij : j = i + 1) (hl : l.length ≤ 200) :
    Calls Tryz.prog 93 #[.slice (some ⟨g, 0, none⟩) l.length cap, .int .i64 i, .int .i64 (j : Int)] w fun e w' => e = .returned (.slice (some ⟨g, 0, none⟩) (l.length - 1) cap) ∧ w.grownBy w' (some g) ∧ w'.ownsRow base 69 3 (.slice (some ⟨g, 0, none⟩) (l.length - 1) cap) (l.eraseIdx i).length (mailsL (l.eraseIdx i)) := by
  obtain ⟨i0, hi0, hq⟩ : ∃ i, Tryz.prog.info? 69 = some i ∧ (i.zero.map (fun z => z.cells.size), i.size, i.bytes) = (some 3, 3, 32) := Option.map_eq_some_iff.1 Tryz.infoMail
  have hsz : i0.size = 3 := congrArg (fun x => x.2.1) hq
  obtain ⟨hxl, ho2⟩ := ho
  rcases ho2 with ⟨h0, _⟩ | ⟨g', cap', cur, e1, hbase, hb, hn, hm, hcs, htk⟩
  · cases h0
  obtain ⟨rfl, rfl⟩ : g = g' ∧ cap = cap' := by simpa using e1
  generalize hlen : l.length = n at *
  have hbD : Blk w.drew g cur 69 := hb
  obtain ⟨news, hnews⟩ : ∃ news, news = mailsL (l.drop j) := ⟨_, rfl⟩
  have hnl : news.length = (n - j) * 3 := by rw [hnews, mailsL_len, List.length_drop, hlen]
  have hget : ∀ k, k < n * 3 → cur[k]? = (mailsL l)[k]? := fun k hk => by
    rw [← htk, List.getElem?_take, if_pos hk, Array.getElem?_toList]
  obtain ⟨A, hA, hsrc⟩ : ∃ A : Addr, (if cap = j then some (⟨g, 0, none⟩ : Addr) else some ⟨g, j * 3, none⟩) = some A ∧ ∀ t u, news[t]? = some u → w.drew.cell? (A.add t) = some u := by
    by_cases h : cap = j
    · refine ⟨⟨g, 0, none⟩, by simp [h], fun t u hu => ?_⟩
      have h0 : news.length = 0 := by rw [hnl]; omega
      rw [List.length_eq_zero_iff.1 h0] at hu
      simp at hu
    · refine ⟨⟨g, j * 3, none⟩, by simp [h], fun t u hu => ?_⟩
      have ht : t < (n - j) * 3 := by
        have := (List.getElem?_eq_some_iff.1 hu).1
        rwa [hnl] at this
      rw [Go.WideShapes.add_plain, hbD.cell, hget _ (by omega), ← hu, hnews, ← mailsL_drop, List.getElem?_drop]
  have hfit : i * i0.size + news.length ≤ cur.size := by rw [hnl, hsz, hcs]; omega
  have hrun := run_append_room (P := Tryz.prog) w.drew 29 29 69 i0 Tryz.underlying29 hi0 g i cap cur hbD A (n - j) (cap - j) news (by rw [hsz]; exact hnl) hsrc (by rw [hnews]; exact mailsL_one _) (by omega) hfit
  obtain ⟨arr, harr⟩ : ∃ arr, arr = (cur.toList.take (i * i0.size) ++ news ++ cur.toList.drop (i * i0.size + news.length)).toArray := ⟨_, rfl⟩
  rw [← harr] at hrun
  have hasz : arr.size = cap * 3 := by
    rw [harr, hsz]
    simp [hnl, hcs]
    omega
  have hatk : arr.toList.take ((n - 1) * 3) = mailsL (l.eraseIdx i) := by
    rw [harr, hsz, List.eraseIdx_eq_take_drop_succ, ← hij, mailsL_append, ← hnews, ← mailsL_take, ← htk]
    simp only [List.take_take]
    rw [show min (i * 3) (n * 3) = i * 3 by omega]
    rw [List.take_left' (by simp [hnl, hcs]; omega)]
  obtain ⟨W1, hW1⟩ : ∃ W1, W1 = w.drew.setRow g arr := ⟨_, rfl⟩
  have hb1 : Blk W1 g arr 69 := by rw [hW1]; exact setRow_heap w.drew g cur arr 69 (0, 0) hbD
  have hcl : ∀ ty, (Builtin.clear_ #[29] ty #[.slice (some ⟨g, (n - 1) * 3, none⟩) (n - (n - 1)) (cap - (n - 1))]).run Tryz.prog W1 = .ok (.tuple #[]) (((W1.setCell ⟨g, (n - 1) * 3, none⟩ (.int .i64 0)).setCell ⟨g, (n - 1) * 3 + 1, none⟩ (.int .i64 0)).setCell ⟨g, (n - 1) * 3 + 1 + 1, none⟩ (.string ⟨#[]⟩)) := fun ty => by
    rw [show n - (n - 1) = 1 by omega]
    exact clear_mail W1 g ((n - 1) * 3) (cap - (n - 1)) arr ty hb1 (by rw [hasz]; omega)
  have hg1 : w.grownBy W1 (some g) := by
    rw [hW1]
    refine ⟨rfl, rfl, rfl, by simp [World.setRow], fun k hk hne => ?_⟩
    show (w.heap.modify g _)[k]? = w.heap[k]?
    rw [Array.getElem?_modify, if_neg (fun e => hne (by rw [e]))]
  have hg2 : w.grownBy (((W1.setCell ⟨g, (n - 1) * 3, none⟩ (.int .i64 0)).setCell ⟨g, (n - 1) * 3 + 1, none⟩ (.int .i64 0)).setCell ⟨g, (n - 1) * 3 + 1 + 1, none⟩ (.string ⟨#[]⟩)) (some g) :=
    ⟨hg1.os, hg1.tape, hg1.output, by simpa using hg1.size, fun k hk hne => by
      have hkg : k ≠ g := fun e => hne (by rw [e])
      rw [Below.heap_setCell _ _ _ _ hkg, Below.heap_setCell _ _ _ _ hkg, Below.heap_setCell _ _ _ _ hkg]
      exact hg1.block k hk hne⟩
  have hb2 := ((hb1.set ((n - 1) * 3) (.int .i64 0)).set ((n - 1) * 3 + 1) (.int .i64 0)).set ((n - 1) * 3 + 1 + 1) (.string ⟨#[]⟩)
  have hlE : (l.eraseIdx i).length = n - 1 := by rw [List.length_eraseIdx, hlen, if_pos hi]
  have hown : World.ownsRow (((W1.setCell ⟨g, (n - 1) * 3, none⟩ (.int .i64 0)).setCell ⟨g, (n - 1) * 3 + 1, none⟩ (.int .i64 0)).setCell ⟨g, (n - 1) * 3 + 1 + 1, none⟩ (.string ⟨#[]⟩)) base 69 3 (.slice (some ⟨g, 0, none⟩) (n - 1) cap) (l.eraseIdx i).length (mailsL (l.eraseIdx i)) := by
    rw [hlE]
    refine ⟨by rw [mailsL_len, hlE], Or.inr ⟨g, cap, _, rfl, hbase, hb2, by omega, hm, by simp [hasz], ?_⟩⟩
    rw [Array.toList_setIfInBounds, Array.toList_setIfInBounds, Array.toList_setIfInBounds, List.take_set_of_le (by omega), List.take_set_of_le (by omega), List.take_set_of_le (by omega)]
    exact hatk
  have HF := hide (And.intro hg2 hown)
  have R1 := hide hrun
  have hm' : cap ≤ 2 ^ 63 - 1 := hm
  have h1 : (i : Int) ≤ (n : Int) := by omega
  have h2 : (j : Int) ≤ (n : Int) := by omega
  have h3 : ((i : Int) == (j : Int)) = false := by simp; omega
  have hic : i ≤ cap := by omega
  have hjc : j ≤ cap := by omega
  have hjn : j ≤ n := by omega
  have hij' : i ≤ j := by omega
  have hnc : n - 1 ≤ cap := by omega
  have HW1 := hide hW1
  rw [← hW1] at R1
  have hsum : i + (n - j) = n - 1 := by omega
  rw [hsum] at R1
  clear hrun hg1 hg2 hown hb1 hb2 hatk hasz hfit hsrc hget hnl hbD hb hxl htk hq hW1 harr hnews hlE e1 hbase hij
  go_enter Tryz.func93, Tryz.ntmps93
  go_wp2_with fail
  go_region_law (refine step_append_run rfl (.tmp 22) (.tmp 25) 29 rfl (.slice (some ⟨g, 0, none⟩) i cap) (.slice (some A) (n - j) (cap - j)) (by simp [Act.eval, Act.put]) (by simp [Act.eval, Act.put]) (.slice (some ⟨g, 0, none⟩) (n - 1) cap) W1 R1.out ?_)
  all_goals
    go_wp2
    go_ret
    exact ⟨rfl, HF.out⟩

theorem eraseIdx_own {base P N : Nat} {e : Eng} {Bv : Value} {y : Lay} {W : World} (h : Live base P N e Bv y W) {i : Nat} (hi : i < e.bag.length) : ∃ g cap, Bv = .slice (some ⟨g, 0, none⟩) e.bag.length cap := by
  rcases Go.Joins.ownsRow_forms h.bag with ⟨_, e0⟩ | ⟨g, cap, e1⟩
  · omega
  · exact ⟨g, cap, e1⟩

set_option maxHeartbeats 1000000 in
theorem lose_all (base P N i : Nat) (e : Eng) (Bv : Value) (y : Lay) (w : World) (hL : Live base P N e Bv y w) (hi : i < e.bag.length) (hm : e.bag.length ≤ 200) :
    Calls Tryz.prog 76 #[.pointer (some ⟨P, 0, none⟩), .int .i64 i] w fun r w' => r = .returned (.tuple #[]) ∧ (∃ Bv', Live base P N (e.without i) Bv' y w' ∧ Bv'.ownBlock = Bv.ownBlock) ∧ Below base w w' ∧ Kept y P N Bv w w' := by
  have hbw : base ≤ w.heap.size := Nat.le_of_lt (Nat.lt_of_le_of_lt hL.lp hL.head.lt)
  obtain ⟨g, cap, hBv⟩ := eraseIdx_own hL hi
  have hbag := hL.bag
  rw [hBv] at hbag
  have HD := hide (deleteMail_any w base g cap i (i + 1) e.bag hbag hi rfl hm)
  rw [show ((i + 1 : Nat) : Int) = (i : Int) + 1 by omega] at HD
  have HL := hide hL
  have hbg := (hbag.lt g rfl).1
  have x1 := hL.head.cell 1
  simp at x1
  rw [hBv] at x1
  have HBv := hide hBv
  clear hL hbag hBv
  go_enter Tryz.func76, Tryz.ntmps76
  go_wp2_with fail
  go_at_call 93
  refine HD.out.mono ?_
  rintro r w2 ⟨rfl, hg, hown⟩
  have hg' : w.grownBy w2 Bv.ownBlock := by rw [HBv.out]; exact hg
  have hset := HL.out.setBag (l := e.bag.eraseIdx i) hg' hown (fun q hq => by
    left
    rw [HBv.out]
    exact hq)
  have hh := HL.out.head.kept hg' (fun e1 => (HL.out.bv P e1.symm).1 rfl)
  have p1 := hh.cell 1
  have pf := hh.frozen 1
  simp at p1
  rw [HBv.out] at p1
  have hK : Kept y P N Bv w (w2.setCell ⟨P, 1, none⟩ (.slice (some ⟨g, 0, none⟩) (e.bag.length - 1) cap)) := fun b hb => by
    rw [Below.heap_setCell _ _ _ _ hb.p]
    exact hg'.block b hb.lt (fun e1 => hb.v e1.symm)
  have HF := hide (And.intro (Exists.intro (p := fun Bv' => Live base P N (e.without i) Bv' y (w2.setCell ⟨P, 1, none⟩ (.slice (some ⟨g, 0, none⟩) (e.bag.length - 1) cap)) ∧ Bv'.ownBlock = Bv.ownBlock) _ ⟨hset, by rw [HBv.out]; rfl⟩) (And.intro ((grown_below hg (fun q hq => by cases hq; exact hbg) hbw).setCell (p := ⟨P, 1, none⟩) HL.out.lp (.slice (some ⟨g, 0, none⟩) (e.bag.length - 1) cap)) hK))
  clear hg hown hg' hset hh HD x1 hK
  go_wp2
  go_end0
  exact ⟨rfl, HF.out⟩

theorem lose_any (base P N i : Nat) (e : Eng) (Bv : Value) (y : Lay) (w : World) (hL : Live base P N e Bv y w) (hi : i < e.bag.length) (hm : e.bag.length ≤ 200) :
    Calls Tryz.prog 76 #[.pointer (some ⟨P, 0, none⟩), .int .i64 i] w fun r w' => r = .returned (.tuple #[]) ∧ (∃ Bv', Live base P N (e.without i) Bv' y w') ∧ Below base w w' ∧ Kept y P N Bv w w' :=
  (lose_all base P N i e Bv y w hL hi hm).mono (fun _ _ ⟨h1, ⟨B, h2, _⟩, h3, h4⟩ => ⟨h1, ⟨B, h2⟩, h3, h4⟩)

end Go.Proofs.YtjhkadffaephmabGreat
