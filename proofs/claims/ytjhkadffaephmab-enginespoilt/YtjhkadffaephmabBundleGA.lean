/-
  Our own texts, bundled: a claim holds few files.
-/
import Derived.Test.YtjhkadffaephmabBundleFJ
import Derived.Test.YtjhkadffaephmabBundleFI
import Derived.Test.YtjhkadffaephmabBundleCJ
import Derived.Test.YtjhkadffaephmabBundleFH
import Derived.Lib.SliceRun
import Derived.Test.YtjhkadffaephmabBundleDA
import Derived.Test.YtjhkadffaephmabBundleAJ
import Derived.Test.YtjhkadffaephmabBundleBG
/-
  engine.tick.
-/
namespace Go.Proofs.Ytjhkadffaephmab
set_option maxRecDepth 100000
open Go.RowKit

/-- Numbers in a row of one's own. -/
theorem own_nats {W : World} {b : Nat} {v : Value} {K : List Nat} (h : W.ownsRow b 3 1 v K.length (natsL K)) :
    ∃ (ta : Option Addr) (tc gt : Nat), v = .slice ta K.length tc ∧ (0 < K.length → ta = some ⟨gt, 0, none⟩ ∧ b ≤ gt ∧ gt < W.heap.size ∧ ∀ k, k < K.length → W.cell? ⟨gt, k, none⟩ = some (.int .i64 ((K.getD k 0 : Nat) : Int))) := by
  rcases Go.Joins.ownsRow_forms h with ⟨e0, e1⟩ | ⟨g, cap, e1⟩
  · exact ⟨none, 0, 0, by rw [e0, e1], fun h0 => by omega⟩
  · refine ⟨some ⟨g, 0, none⟩, cap, g, e1, fun h0 => ⟨rfl, (h.lt g (by rw [e1]; rfl)).1, (h.lt g (by rw [e1]; rfl)).2, fun k hk => ?_⟩⟩
    rw [e1] at h
    rw [h.cellAt k (by omega)]
    simp [natsL, List.getD_eq_getElem?_getD, List.getElem?_eq_getElem hk]

set_option maxHeartbeats 2000000 in
theorem tick_many (n : NetM) (base P N i : Nat) (e : Eng) (Bv : Value) (y : Lay) (w : World) (h : n.In base w) (hck : n.net.check = 0) (hN : n.nodes = N) (hL : Live base P N e Bv y w) (hm : e.bag.length ≤ 120) (hK : 120 < e.bag.length + (n.net.hearers i).length) :
    Calls Try.prog 81 #[n.val, .pointer (some ⟨P, 0, none⟩), .int .i64 i] w fun r w' => r = .returned (.int .i64 2) ∧ Live base P N e Bv y w' ∧ Below base w w' := by
  have hbw : base ≤ w.heap.size := Nat.le_of_lt (Nat.lt_of_le_of_lt hL.lp hL.head.lt)
  have hk6 : (n.net.hearers i).length ≤ 6 := by
    have := n.net.hearers_le i
    have g := Net.good_of_check hck
    have := g.hi
    have := Net.nodes_N g
    omega
  obtain ⟨W1, hW1⟩ : ∃ W1, W1 = w.alloc (.cells n.cells 41) := ⟨_, rfl⟩
  have hB1 : Below w.heap.size w W1 := by rw [hW1]; exact (Below.refl _ w).alloc (Nat.le_refl _) _
  have b3 : Blk W1 w.heap.size n.cells 41 := by rw [hW1]; exact Blk.new w _ _
  have HH := hide (hearers_any n i W1 ((h.below (hB1.mono hbw) (Nat.le_refl _)).mono (Nat.le_trans hbw hB1.size)) hck)
  have HX : Hid (∀ W, Below W1.heap.size W1 W → Live base P N e Bv y W ∧ Below base w W) := hide (fun W hb => ⟨(hL.below hB1).below hb, (hB1.mono hbw).trans (hb.mono (Nat.le_trans hbw hB1.size))⟩)
  obtain ⟨bl, hbl⟩ : ∃ bl bc, Bv = .slice bl e.bag.length bc := by
    rcases Go.Joins.ownsRow_forms hL.bag with ⟨e0, e1⟩ | ⟨g, cap, e1⟩
    · exact ⟨none, 0, by rw [e0, e1]⟩
    · exact ⟨_, _, e1⟩
  obtain ⟨bc, hbl⟩ := hbl
  have HL := hide (hL.below hB1)
  have Hbl := hide hbl
  have hcells : n.cells = #[.int .i64 n.a.size, .slice n.a.B.ga n.a.B.t.len n.a.B.cap, .slice n.a.E.ga n.a.E.t.len n.a.E.cap, .int .i64 N, .slice n.la n.ln n.lc] := by simp only [NetM.cells, Mat.val, hN]
  rw [hcells] at hW1
  rw [NetM.val, hcells, hW1] at HH
  rw [NetM.val, hcells]
  generalize n.net.hearers i = K at *
  generalize e.bag.length = len at *
  have HW1 := hide hW1
  clear h hck hN hL hbw hB1 b3 hbl hcells hW1
  go_enter Try.func81, Try.ntmps81
  go_wp2_with fail
  go_at_call 150
  refine HH.out.mono ?_
  rw [← HW1.out]
  rintro r W2 ⟨⟨v, rfl, hv⟩, hb2⟩
  obtain ⟨ta, tc, gt, rfl, _⟩ := own_nats hv
  have HF := hide (HX.out W2 hb2)
  have p1 := HF.out.1.head.cell 1
  simp at p1
  rw [Hbl.out] at p1
  have hki : (120 : Int) < (len : Int) + (K.length : Int) := by omega
  generalize K.length = kl at *
  clear hb2 hv HX HH
  go_wp2
  go_ret
  exact ⟨rfl, HF.out⟩

/-- Behind so many tellings. -/
structure TickI (base P N : Nat) (n : Net) (e1 : Eng) (i : Nat) (K : List Nat) (y3 : Lay) (gt k : Nat) (wr : World) : Prop where
  live : ∃ Bvk, Live base P N { e1 with bag := e1.bag ++ (K.take k).map fun q => e1.mail n i q } Bvk y3 wr ∧ (0 < K.length → Bvk.ownBlock ≠ some gt)
  lt : 0 < K.length → gt < wr.heap.size ∧ gt ≠ P
  cell : ∀ j, j < K.length → wr.cell? ⟨gt, j, none⟩ = some (.int .i64 ((K.getD j 0 : Nat) : Int))

theorem take_snoc (K : List Nat) (f : Nat → Mail) (k : Nat) (hk : k < K.length) : (K.take (k + 1)).map f = (K.take k).map f ++ [f (K.getD k 0)] := by
  rw [List.take_add_one, List.getElem?_eq_getElem hk, List.map_append, List.getD_eq_getElem?_getD, List.getElem?_eq_getElem hk]
  rfl

set_option maxHeartbeats 4000000 in
theorem tick_ok (n : NetM) (base P N i : Nat) (e : Eng) (Bv : Value) (y : Lay) (w : World) (h : n.In base w) (hck : n.net.check = 0) (hN : n.nodes = N) (hL : Live base P N e Bv y w) (hfit : e.Fit n.net) (hi : i < N) (hK : e.bag.length + (n.net.hearers i).length ≤ 120) :
    Calls Try.prog 81 #[n.val, .pointer (some ⟨P, 0, none⟩), .int .i64 i] w fun r w' => r = .returned (.int .i64 0) ∧ (∃ Bv' y', Live base P N (e.tick n.net i) Bv' y' w') ∧ Below base w w' := by
  have hbw : base ≤ w.heap.size := Nat.le_of_lt (Nat.lt_of_le_of_lt hL.lp hL.head.lt)
  have g := Net.good_of_check hck
  have hi6 := g.hi
  have hNN : n.net.N = N := by show n.nodes.toNat = N; omega
  have hN6 : N ≤ 6 := by have : n.net.nodes = n.nodes := rfl; omega
  obtain ⟨i0, hi0, hq⟩ : ∃ i, Try.prog.info? 52 = some i ∧ (i.zero.map (fun z => z.cells.size), i.size, i.bytes) = (some 3, 3, 32) := Option.map_eq_some_iff.1 Try.infoMail
  obtain ⟨z, hz, hzs⟩ : ∃ z, i0.zero = some z ∧ z.cells.size = 3 := by
    have := congrArg Prod.fst hq
    simpa [Option.map_eq_some_iff] using this
  have hsz : i0.size = 3 := congrArg (fun x => x.2.1) hq
  have hby : i0.bytes = 32 := congrArg (fun x => x.2.2) hq
  obtain ⟨W1, hW1⟩ : ∃ W1, W1 = w.alloc (.cells n.cells 41) := ⟨_, rfl⟩
  have hB1 : Below w.heap.size w W1 := by rw [hW1]; exact (Below.refl _ w).alloc (Nat.le_refl _) _
  have b3 : Blk W1 w.heap.size n.cells 41 := by rw [hW1]; exact Blk.new w _ _
  have HH := hide (hearers_any n i W1 ((h.below (hB1.mono hbw) (Nat.le_refl _)).mono (Nat.le_trans hbw hB1.size)) hck)
  obtain ⟨bl, hbl⟩ : ∃ bl bc, Bv = .slice bl e.bag.length bc := by
    rcases Go.Joins.ownsRow_forms hL.bag with ⟨e0, e1⟩ | ⟨g, cap, e1⟩
    · exact ⟨none, 0, by rw [e0, e1]⟩
    · exact ⟨_, _, e1⟩
  obtain ⟨bc, hbl⟩ := hbl
  have hL1 := hL.below hB1
  have HL := hide hL1
  have Hbl := hide hbl
  have hcells : n.cells = #[.int .i64 n.a.size, .slice n.a.B.ga n.a.B.t.len n.a.B.cap, .slice n.a.E.ga n.a.E.t.len n.a.E.cap, .int .i64 N, .slice n.la n.ln n.lc] := by simp only [NetM.cells, Mat.val, hN]
  have HLk := hide (fun W (hb : Below W1.heap.size W1 W) => engLook_all n base P N i e Bv y W (h.below ((hB1.mono hbw).trans (hb.mono (Nat.le_trans hbw hB1.size))) (Nat.le_refl _)) hck hN (hL1.below hb) hfit hi)
  have HBw : Hid (∀ W, Below W1.heap.size W1 W → Below base w W) := hide (fun W hb => (hB1.mono hbw).trans (hb.mono (Nat.le_trans hbw hB1.size)))
  have Hb3 := hide b3
  rw [hcells] at hW1
  rw [NetM.val, hcells, hW1] at HH
  rw [NetM.val, hcells] at HLk
  have HW1 := hide hW1
  obtain ⟨K, hKe⟩ : ∃ K, K = n.net.hearers i := ⟨_, rfl⟩
  rw [← hKe] at HH hK
  have Het : Hid (e.tick n.net i = { e.look n.net i with bag := e.bag ++ K.map fun k => (e.look n.net i).mail n.net i k }) := hide (by rw [hKe]; rfl)
  have Hcells := hide hcells
  have hbwH := hide hbw
  rw [NetM.val, hcells]
  obtain ⟨len, hlen⟩ : ∃ len, len = e.bag.length := ⟨_, rfl⟩
  rw [← hlen] at hK Hbl
  have Hlen := hide hlen
  have hbw1 : base ≤ W1.heap.size := Nat.le_trans hbw hB1.size
  clear h hck hN hL hL1 hbw hB1 b3 hbl hcells hW1 hfit hq hKe hlen
  go_enter Try.func81, Try.ntmps81
  go_wp2_with fail
  go_at_call 150
  refine HH.out.mono ?_
  rw [← HW1.out]
  rintro r W2 ⟨⟨v, rfl, hv⟩, hb2⟩
  obtain ⟨ta, tc, gt, rfl, hto⟩ := own_nats hv
  have hL2 := HL.out.below hb2
  have p1 := hL2.head.cell 1
  have q3 := Hb3.out.below hb2 Hb3.out.lt
  have x0 := q3.cell 0
  have x1 := q3.cell 1
  have x2 := q3.cell 2
  have x3 := q3.cell 3
  have x4 := q3.cell 4
  simp only [Hcells.out] at x0 x1 x2 x3 x4
  simp at p1 x0 x1 x2 x3 x4
  rw [Hbl.out] at p1
  have hki : ¬ (120 : Int) < (len : Int) + (K.length : Int) := by omega
  have Hto := hide hto
  have hgt : 0 < K.length → y.Off P N Bv W2 gt := fun h0 => by
    obtain ⟨_, h1, h2, _⟩ := hto h0
    have hl1 := HL.out
    exact ⟨by have := hl1.head.lt; omega, by have := hl1.rtrs.lt; omega, fun k hk => by have := (hl1.tolds k hk).lt; omega, fun hv => by have := (hl1.bag.lt _ hv).2; omega, h2, by have := hl1.ylo; have := hl1.head.lt; omega⟩
  have Hgt := hide hgt
  have HC := hide (HLk.out W2 hb2)
  have HB2 := hide (HBw.out W2 hb2)
  obtain ⟨kl, hkl⟩ : ∃ kl, kl = K.length := ⟨_, rfl⟩
  rw [← hkl] at hki Hto Hgt hK
  rw [← hkl]
  have Hkl := hide hkl
  clear hb2 hv HH HL hL2 q3 hto hgt HLk HBw hkl
  go_wp2_with fail
  go_at_call 151
  refine HC.out.mono ?_
  rintro r W3 ⟨rfl, ⟨y3, hl3, hyG, hyT⟩, hb3, hk3⟩
  have Hto3 : Hid (0 < kl → ta = some ⟨gt, 0, none⟩ ∧ gt < W3.heap.size ∧ y3.Off P N Bv W3 gt ∧ ∀ k, k < kl → W3.cell? ⟨gt, k, none⟩ = some (.int .i64 ((K.getD k 0 : Nat) : Int))) := hide (fun h0 => by
    obtain ⟨h1, h2, h3, h4⟩ := Hto.out h0
    have ho := Hgt.out h0
    have hlt : gt < W3.heap.size := Nat.lt_of_lt_of_le h3 hb3.size
    exact ⟨h1, hlt, ⟨ho.p, by rw [hyG]; exact ho.g, by rw [hyT.1]; exact ho.t, ho.v, hlt, by rw [hyT.2]; exact ho.lo⟩, fun k hk => by rw [World.cell?_of_block (hk3 gt ho)]; exact h4 k hk⟩)
  have hlb : ({ e.look n.net i with bag := (e.look n.net i).bag ++ (K.take 0).map fun q => (e.look n.net i).mail n.net i q } : Eng) = e.look n.net i := by simp
  have HI0 : Hid (TickI base P N n.net (e.look n.net i) i K y3 gt 0 W3) := hide ⟨⟨Bv, by rw [hlb]; exact hl3, fun h0 => (Hto3.out (by rw [Hkl.out]; exact h0)).2.2.1.v⟩, fun h0 => ⟨(Hto3.out (by rw [Hkl.out]; exact h0)).2.1, (Hto3.out (by rw [Hkl.out]; exact h0)).2.2.1.p⟩, fun j hj => (Hto3.out (by rw [Hkl.out]; omega)).2.2.2 j (by rw [Hkl.out]; exact hj)⟩
  have HB3 := hide (HB2.out.trans hb3)
  have Hta : Hid (0 < kl → ta = some ⟨gt, 0, none⟩) := hide (fun h0 => (Hto3.out h0).1)
  obtain ⟨e1, he1⟩ : ∃ e1, e1 = e.look n.net i := ⟨_, rfl⟩
  have Hebag : Hid (e1.bag.length = len) := hide (by rw [he1, Hlen.out]; rfl)
  have Het2 : Hid (e.tick n.net i = { e1 with bag := e1.bag ++ (K.take kl).map fun q => e1.mail n.net i q }) := hide (by rw [Het.out, he1, Hkl.out, List.take_length]; rfl)
  rw [← he1] at HI0
  have Hst : Hid (∀ k, k < K.length → K.getD k 0 < N → (Pkt.mk i (K.getD k 0) n.net.N (e1.R i)).text = (e1.mail n.net i (K.getD k 0)).b) := hide (fun k _ _ => rfl)
  clear hl3 hyG hyT hb3 hk3 hlb HC Hto Hgt HB2 Hto3 Het he1 x0 x1 x2 x3 x4 p1 Hbl HW1 Hcells Hb3
  go_wp2
  go_loopw [9, 10, 11, 30] (fun _ _ _ q wr => ∃ k : Nat, k ≤ kl ∧ q = .int .i64 k ∧ Hid (TickI base P N n.net e1 i K y3 gt k wr) ∧ Hid (Below base w wr)) (fun _ _ _ q _ => kl - (intOf q).toNat)
  case atStart => exact ⟨0, Nat.zero_le _, rfl, HI0, HB3⟩
  case round =>
    obtain ⟨k, hk, rfl, HI, HBr⟩ := hrel
    by_cases hlt : k < kl
    · have hki' : (k : Int) < (kl : Int) := by omega
      have hkK : k < K.length := by rw [← Hkl.out]; exact hlt
      obtain rfl := Hta.out (by omega)
      obtain ⟨⟨Bvk, hl, hne⟩, hgl, hgc⟩ := HI.out
      have c0 := hgc k hkK
      obtain ⟨ba, bc2, hBvk⟩ : ∃ ba bc2, Bvk = .slice ba (len + k) bc2 := by
        have hln : (e1.bag ++ (K.take k).map fun q => e1.mail n.net i q).length = len + k := by
          rw [List.length_append, List.length_map, List.length_take, Hebag.out]; omega
        rcases Go.Joins.ownsRow_forms hl.bag with ⟨e0, e1'⟩ | ⟨g, cap, e1'⟩
        · have h00 : len + k = 0 := by rw [← hln]; exact e1'
          exact ⟨none, 0, by rw [e0, h00]⟩
        · exact ⟨_, _, by rw [e1']; show Value.slice _ (List.length _) _ = _; rw [hln]⟩
      obtain ⟨q, hq⟩ : ∃ q, q = K.getD k 0 := ⟨_, rfl⟩
      rw [← hq] at c0
      have h0 := hl.head.cell 0
      have r0 := hl.rtrs.cell (i * 2)
      rw [hl.r0 i hi] at r0
      simp at h0
      obtain ⟨hro, hrc⟩ := hl.routes i hi
      have HWr := hide (write_any ⟨i, q, some ⟨y3.rb i, 0, none⟩, N, y3.rc i, y3.rb i, 0, e1.R i⟩ wr ⟨⟨fun _ => rfl, fun j hj => by rw [Nat.zero_add]; exact hrc j hj, by show N ≤ _; unfold maxLen; omega⟩, fun _ => hro.lt, by show N ≤ _; omega⟩)
      simp only [PktM.val, PktM.cells, PktM.pkt, txt] at HWr
      have hii : (i : Int) < (N : Int) := by omega
      have HLv := hide hl
      have Hne := hide hne
      have Hgl := hide hgl
      have Hgc := hide hgc
      have HBvk := hide hBvk
      have Hq := hide hq
      clear hl hne hgl hgc hro hrc hBvk hq HI HI0
      go_wp2_with fail
      go_at_call 17
      refine HWr.out.mono ?_
      rintro r w2 ⟨rfl, hb2⟩
      have hl2 := HLv.out.below hb2
      obtain ⟨tx, htx⟩ : ∃ tx, tx = (Pkt.mk i q N (e1.R i)).text := ⟨_, rfl⟩
      obtain ⟨er, her⟩ : ∃ er, er = (Pkt.mk i q N (e1.R i)).err := ⟨_, rfl⟩
      rw [← htx, ← her]
      obtain ⟨W5, hW5⟩ : ∃ W5, W5 = w2.alloc (.cells #[.int .i64 (i : Int), .int .i64 (q : Int), .string ⟨tx.toArray⟩] 52) := ⟨_, rfl⟩
      have hb5 : Below w2.heap.size w2 W5 := by rw [hW5]; exact (Below.refl _ w2).alloc (Nat.le_refl _) _
      have hl5 := hl2.below hb5
      have HL5 := hide hl5
      have p2 := hl2.head.cell 1
      have hln : (e1.bag ++ (K.take k).map fun q => e1.mail n.net i q).length = len + k := by
        rw [List.length_append, List.length_map, List.length_take, Hebag.out]; omega
      have hbag5 := hl5.bag
      have hbag5' : W5.ownsRow base 52 3 Bvk (len + k) (mailsL (e1.bag ++ (K.take k).map fun q => e1.mail n.net i q)) := by rw [← hln]; exact hbag5
      rw [HBvk.out] at hbag5'
      have HO5 := hide hbag5'
      have hn5 : W5.heap[w2.heap.size]? = some (.cells #[.int .i64 (i : Int), .int .i64 (q : Int), .string ⟨tx.toArray⟩] 52 (0, 0)) := by rw [hW5]; exact heap_alloc_new w2 _
      simp at p2
      rw [HBvk.out] at p2
      have Hn5 := hide hn5
      have hbw5 : base ≤ W5.heap.size := Nat.le_of_lt (Nat.lt_of_le_of_lt hl5.lp hl5.head.lt)
      have HB5 : Hid (Below base wr W5) := hide ((hb2.trans (hb5.mono hb2.size)).mono (Nat.le_of_lt (Nat.lt_of_le_of_lt HLv.out.lp HLv.out.head.lt)))
      have Hkeep : Hid (gt < W5.heap.size ∧ ∀ j, j < K.length → W5.cell? ⟨gt, j, none⟩ = some (.int .i64 ((K.getD j 0 : Nat) : Int))) := hide (by
        have hb25 := hb2.trans (hb5.mono hb2.size)
        refine ⟨Nat.lt_of_lt_of_le (Hgl.out (by omega)).1 hb25.size, fun j hj => ?_⟩
        rw [hb25.cell (p := ⟨gt, j, none⟩) (Hgl.out (by omega)).1]
        exact Hgc.out j hj)
      have Hw2s : Hid (W5.heap.size = w2.heap.size + 1) := hide (by rw [hW5]; simp)
      rw [hW5] at HO5 hbw5 Hn5
      have HW5 := hide hW5
      have Htx := hide htx
      clear hb2 hl2 hb5 hl5 hln hbag5 hbag5' hn5 HWr hW5 htx her
      go_wp2_with (at_builtin; refine wpList_append_lies _ rfl _ _ _ rfl base 52 i0 z 3 32 Try.underlying43 hi0 hz hsz hby hzs (by decide) _ (len + k) _ rfl HO5.out ⟨w2.heap.size, 0, none⟩ 1 1 [.int .i64 (i : Int), .int .i64 (q : Int), .string ⟨tx.toArray⟩] rfl rfl ?c1 ?c2 (by decide) ?c3 ?c4 ?c5 _ rfl ?_)
      all_goals try (case c1 => exact World.news_of_block Hn5.out)
      all_goals try (case c2 => simp [Value.oneCell'])
      all_goals try (case c3 => unfold maxLen; omega)
      all_goals try (case c4 => omega)
      all_goals try (case c5 => exact hbw5)
      intro g' cap' w4 hown2 hgrow hat2 hlt2
      rw [← HW5.out] at hgrow
      have hgrow' : W5.grownBy w4 Bvk.ownBlock := by rw [HBvk.out]; exact hgrow
      have hat' : Bvk.ownBlock = some g' ∨ W5.heap.size ≤ g' := by
        rw [HBvk.out]
        rcases hat2 with h1 | h1
        · exact Or.inl h1
        · right; have := Hw2s.out; omega
      have hmail : e1.mail n.net i q = ⟨i, q, tx⟩ := by unfold Eng.mail; rw [hNN, Htx.out]
      have hln : (e1.bag ++ (K.take k).map fun q => e1.mail n.net i q).length = len + k := by
        rw [List.length_append, List.length_map, List.length_take, Hebag.out]; omega
      have hown3 : w4.ownsRow base 52 3 (.slice (some ⟨g', 0, none⟩) (len + k + 1) cap') ((e1.bag ++ (K.take k).map fun q => e1.mail n.net i q) ++ [e1.mail n.net i q]).length (mailsL ((e1.bag ++ (K.take k).map fun q => e1.mail n.net i q) ++ [e1.mail n.net i q])) := by
        rw [mailsL_append, List.length_append, hln, hmail, List.map_take]
        exact hown2
      have hset := HL5.out.setBag hgrow' hown3 (fun q' hq' => by
        have : q' = g' := by simpa [Value.ownBlock] using hq'.symm
        subst this; exact hat')
      have hh4 := HL5.out.head.kept hgrow' (fun e2 => (HL5.out.bv P e2.symm).1 rfl)
      have p4 := hh4.cell 1
      have pf := hh4.frozen 1
      simp at p4
      rw [HBvk.out] at p4
      have HI4 : Hid (TickI base P N n.net e1 i K y3 gt (k + 1) (w4.setCell ⟨P, 1, none⟩ (.slice (some ⟨g', 0, none⟩) (len + k + 1) cap'))) := hide ⟨⟨_, by rw [take_snoc K _ k hkK, ← List.append_assoc, ← Hq.out]; exact hset, fun h0 hh => by
          have : g' = gt := by simpa [Value.ownBlock] using hh
          subst this
          rcases hat' with h1 | h1
          · exact Hne.out h0 h1
          · have := Hkeep.out.1; omega⟩, fun h0 => ⟨by have := Hkeep.out.1; have := hgrow.size; simp; omega, (Hgl.out h0).2⟩, fun j hj => by
          rw [cell_other (Hgl.out (by omega)).2, grown_cell hgrow' Hkeep.out.1 (Hne.out (by omega))]
          exact Hkeep.out.2 j hj⟩
      have HB4 := hide ((HBr.out.trans (HB5.out.trans (grown_below hgrow' (fun q' hq' => (HL5.out.bag.lt q' hq').1) (by rw [HW5.out]; exact hbw5)))).setCell (p := ⟨P, 1, none⟩) HL5.out.lp (.slice (some ⟨g', 0, none⟩) (len + k + 1) cap'))
      clear hown2 hgrow hat2 hlt2 hgrow' hat' hmail hln hown3 hset hh4 HB5 HO5 HBr HL5 HLv Hkeep hbw5
      go_wp2
      go_roundw
      case rel =>
        first
        | exact ⟨k + 1, by omega, by go_num, HI4, HB4⟩
        | ((repeat apply Exists.intro); refine ⟨?_, rfl⟩; exact ⟨k + 1, by omega, by go_num, HI4, HB4⟩)
      case measure => simp [intOf]; omega
    · have hkn : k = kl := by omega
      subst hkn
      obtain ⟨⟨Bvk, hl, _⟩, _, _⟩ := HI.out
      rw [← Het2.out] at hl
      have HF := hide (And.intro (Exists.intro (p := fun Bv' => ∃ y', Live base P N (e.tick n.net i) Bv' y' wr) Bvk ⟨y3, hl⟩) HBr.out)
      clear hl HI HI0 Het2
      go_wp2
      go_ret
      exact ⟨rfl, HF.out⟩

end Go.Proofs.Ytjhkadffaephmab

/-
  slices.Delete at mail; engine.lose.
-/
namespace Go.Proofs.Ytjhkadffaephmab
set_option maxRecDepth 100000
open Go.RowKit

theorem mailsL_take : ∀ (l : List Mail) (i : Nat), (mailsL l).take (i * 3) = mailsL (l.take i)
  | [], i => by simp [mailsL]
  | m :: l, 0 => by simp [mailsL]
  | m :: l, i + 1 => by
    have ih := mailsL_take l i
    have e : mailsL (m :: l) = .int .i64 m.F :: .int .i64 m.T :: .string ⟨m.b.toArray⟩ :: mailsL l := rfl
    have e2 : mailsL ((m :: l).take (i + 1)) = .int .i64 m.F :: .int .i64 m.T :: .string ⟨m.b.toArray⟩ :: mailsL (l.take i) := rfl
    rw [e, e2, show (i + 1) * 3 = i * 3 + 3 by omega, ← ih]
    rfl
theorem mailsL_drop : ∀ (l : List Mail) (i : Nat), (mailsL l).drop (i * 3) = mailsL (l.drop i)
  | [], i => by simp [mailsL]
  | m :: l, 0 => by simp
  | m :: l, i + 1 => by
    have ih := mailsL_drop l i
    have e : mailsL (m :: l) = .int .i64 m.F :: .int .i64 m.T :: .string ⟨m.b.toArray⟩ :: mailsL l := rfl
    rw [e, show (i + 1) * 3 = i * 3 + 3 by omega]
    exact ih
theorem mailsL_one (l : List Mail) : ∀ u ∈ mailsL l, u.oneCell' = true := fun u hu => by
  simp only [mailsL, List.mem_flatMap] at hu
  obtain ⟨m, _, hu⟩ := hu
  simp at hu
  rcases hu with rfl | rfl | rfl <;> rfl

/-- One mail is cleared. -/
theorem clear_mail (w : World) (g o c : Nat) (cs : Array Value) (ty : TypeId) (hb : Blk w g cs 52) (ho : o + 3 ≤ cs.size) :
    (Builtin.clear_ #[43] ty #[.slice (some ⟨g, o, none⟩) 1 c]).run Try.prog w = .ok (.tuple #[]) (((w.setCell ⟨g, o, none⟩ (.int .i64 0)).setCell ⟨g, o + 1, none⟩ (.int .i64 0)).setCell ⟨g, o + 1 + 1, none⟩ (.string ⟨#[]⟩)) := by
  have hst := run_storeCells_cells (P := Try.prog) g o [.int .i64 0, .int .i64 0, .string ⟨#[]⟩] 0 w (fun j hj => by
      have hj' : j < 3 := hj
      rw [hb.cell]
      rw [Array.getElem?_eq_getElem (by omega)]
      rfl) (fun j _ => hb.frozen _) (by intro v hv; simp at hv; rcases hv with rfl | rfl | rfl <;> rfl)
  have hzc : (Builtin.zeroCells (Value.agg #[.int .i64 0, .int .i64 0, .string ⟨#[]⟩]).cells 1).toList = [.int .i64 0, .int .i64 0, .string ⟨#[]⟩] := by kernel_rfl
  simp only [Nat.add_zero] at hst
  simp [Builtin.clear_, run_underlying Try.underlying43, hzc, hst]
  rfl

set_option maxHeartbeats 2000000 in
theorem deleteMail_any (w : World) (base g cap i j : Nat) (l : List Mail) (ho : w.ownsRow base 52 3 (.slice (some ⟨g, 0, none⟩) l.length cap) l.length (mailsL l)) (hi : i < l.length) (hij : j = i + 1) (hl : l.length ≤ 200) :
    Calls Try.prog 201 #[.slice (some ⟨g, 0, none⟩) l.length cap, .int .i64 i, .int .i64 (j : Int)] w fun e w' => e = .returned (.slice (some ⟨g, 0, none⟩) (l.length - 1) cap) ∧ w.grownBy w' (some g) ∧ w'.ownsRow base 52 3 (.slice (some ⟨g, 0, none⟩) (l.length - 1) cap) (l.eraseIdx i).length (mailsL (l.eraseIdx i)) := by
  obtain ⟨i0, hi0, hq⟩ : ∃ i, Try.prog.info? 52 = some i ∧ (i.zero.map (fun z => z.cells.size), i.size, i.bytes) = (some 3, 3, 32) := Option.map_eq_some_iff.1 Try.infoMail
  have hsz : i0.size = 3 := congrArg (fun x => x.2.1) hq
  obtain ⟨hxl, ho2⟩ := ho
  rcases ho2 with ⟨h0, _⟩ | ⟨g', cap', cur, e1, hbase, hb, hn, hm, hcs, htk⟩
  · cases h0
  obtain ⟨rfl, rfl⟩ : g = g' ∧ cap = cap' := by simpa using e1
  generalize hlen : l.length = n at *
  have hbD : Blk w.drew g cur 52 := hb
  obtain ⟨news, hnews⟩ : ∃ news, news = mailsL (l.drop j) := ⟨_, rfl⟩
  have hnl : news.length = (n - j) * 3 := by rw [hnews, mailsL_len, List.length_drop, hlen]
  have hget : ∀ k, k < n * 3 → cur[k]? = (mailsL l)[k]? := fun k hk => by
    rw [← htk, List.getElem?_take, if_pos hk, Array.getElem?_toList]
  obtain ⟨A, hA, hsrc⟩ : ∃ A : Addr, (if cap = j then some (⟨g, 0, none⟩ : Addr) else some ⟨g, j * 3, none⟩) = some A ∧ ∀ t u, news[t]? = some u → w.drew.cell? (A.add t) = some u := by
    by_cases h : cap = j
    · refine ⟨⟨g, 0, none⟩, by simp [h], fun t u hu => ?_⟩
      have h0 : news.length = 0 := by rw [hnl]; omega
      rw [List.length_eq_zero_iff.1 h0] at hu
      simp at hu
    · refine ⟨⟨g, j * 3, none⟩, by simp [h], fun t u hu => ?_⟩
      have ht : t < (n - j) * 3 := by
        have := (List.getElem?_eq_some_iff.1 hu).1
        rwa [hnl] at this
      rw [Go.WideShapes.add_plain, hbD.cell, hget _ (by omega), ← hu, hnews, ← mailsL_drop, List.getElem?_drop]
  have hfit : i * i0.size + news.length ≤ cur.size := by rw [hnl, hsz, hcs]; omega
  have hrun := run_append_room (P := Try.prog) w.drew 43 43 52 i0 Try.underlying43 hi0 g i cap cur hbD A (n - j) (cap - j) news (by rw [hsz]; exact hnl) hsrc (by rw [hnews]; exact mailsL_one _) (by omega) hfit
  obtain ⟨arr, harr⟩ : ∃ arr, arr = (cur.toList.take (i * i0.size) ++ news ++ cur.toList.drop (i * i0.size + news.length)).toArray := ⟨_, rfl⟩
  rw [← harr] at hrun
  have hasz : arr.size = cap * 3 := by
    rw [harr, hsz]
    simp [hnl, hcs]
    omega
  have hatk : arr.toList.take ((n - 1) * 3) = mailsL (l.eraseIdx i) := by
    rw [harr, hsz, List.eraseIdx_eq_take_drop_succ, ← hij, mailsL_append, ← hnews, ← mailsL_take, ← htk]
    simp only [List.take_take]
    rw [show min (i * 3) (n * 3) = i * 3 by omega]
    rw [List.take_left' (by simp [hnl, hcs]; omega)]
  obtain ⟨W1, hW1⟩ : ∃ W1, W1 = w.drew.setRow g arr := ⟨_, rfl⟩
  have hb1 : Blk W1 g arr 52 := by rw [hW1]; exact setRow_heap w.drew g cur arr 52 (0, 0) hbD
  have hcl : ∀ ty, (Builtin.clear_ #[43] ty #[.slice (some ⟨g, (n - 1) * 3, none⟩) (n - (n - 1)) (cap - (n - 1))]).run Try.prog W1 = .ok (.tuple #[]) (((W1.setCell ⟨g, (n - 1) * 3, none⟩ (.int .i64 0)).setCell ⟨g, (n - 1) * 3 + 1, none⟩ (.int .i64 0)).setCell ⟨g, (n - 1) * 3 + 1 + 1, none⟩ (.string ⟨#[]⟩)) := fun ty => by
    rw [show n - (n - 1) = 1 by omega]
    exact clear_mail W1 g ((n - 1) * 3) (cap - (n - 1)) arr ty hb1 (by rw [hasz]; omega)
  have hg1 : w.grownBy W1 (some g) := by
    rw [hW1]
    refine ⟨rfl, rfl, rfl, by simp [World.setRow], fun k hk hne => ?_⟩
    show (w.heap.modify g _)[k]? = w.heap[k]?
    rw [Array.getElem?_modify, if_neg (fun e => hne (by rw [e]))]
  have hg2 : w.grownBy (((W1.setCell ⟨g, (n - 1) * 3, none⟩ (.int .i64 0)).setCell ⟨g, (n - 1) * 3 + 1, none⟩ (.int .i64 0)).setCell ⟨g, (n - 1) * 3 + 1 + 1, none⟩ (.string ⟨#[]⟩)) (some g) :=
    ⟨hg1.os, hg1.tape, hg1.output, by simpa using hg1.size, fun k hk hne => by
      have hkg : k ≠ g := fun e => hne (by rw [e])
      rw [Below.heap_setCell _ _ _ _ hkg, Below.heap_setCell _ _ _ _ hkg, Below.heap_setCell _ _ _ _ hkg]
      exact hg1.block k hk hne⟩
  have hb2 := ((hb1.set ((n - 1) * 3) (.int .i64 0)).set ((n - 1) * 3 + 1) (.int .i64 0)).set ((n - 1) * 3 + 1 + 1) (.string ⟨#[]⟩)
  have hlE : (l.eraseIdx i).length = n - 1 := by rw [List.length_eraseIdx, hlen, if_pos hi]
  have hown : World.ownsRow (((W1.setCell ⟨g, (n - 1) * 3, none⟩ (.int .i64 0)).setCell ⟨g, (n - 1) * 3 + 1, none⟩ (.int .i64 0)).setCell ⟨g, (n - 1) * 3 + 1 + 1, none⟩ (.string ⟨#[]⟩)) base 52 3 (.slice (some ⟨g, 0, none⟩) (n - 1) cap) (l.eraseIdx i).length (mailsL (l.eraseIdx i)) := by
    rw [hlE]
    refine ⟨by rw [mailsL_len, hlE], Or.inr ⟨g, cap, _, rfl, hbase, hb2, by omega, hm, by simp [hasz], ?_⟩⟩
    rw [Array.toList_setIfInBounds, Array.toList_setIfInBounds, Array.toList_setIfInBounds, List.take_set_of_le (by omega), List.take_set_of_le (by omega), List.take_set_of_le (by omega)]
    exact hatk
  have HF := hide (And.intro hg2 hown)
  have R1 := hide hrun
  have hm' : cap ≤ 2 ^ 63 - 1 := hm
  have h1 : (i : Int) ≤ (n : Int) := by omega
  have h2 : (j : Int) ≤ (n : Int) := by omega
  have h3 : ((i : Int) == (j : Int)) = false := by simp; omega
  have hic : i ≤ cap := by omega
  have hjc : j ≤ cap := by omega
  have hjn : j ≤ n := by omega
  have hij' : i ≤ j := by omega
  have hnc : n - 1 ≤ cap := by omega
  have HW1 := hide hW1
  rw [← hW1] at R1
  have hsum : i + (n - j) = n - 1 := by omega
  rw [hsum] at R1
  clear hrun hg1 hg2 hown hb1 hb2 hatk hasz hfit hsrc hget hnl hbD hb hxl htk hq hW1 harr hnews hlE e1 hbase hij
  go_enter Try.func201, Try.ntmps201
  go_wp2_with fail
  go_region_law (refine step_append_run rfl (.tmp 22) (.tmp 25) 43 rfl (.slice (some ⟨g, 0, none⟩) i cap) (.slice (some A) (n - j) (cap - j)) (by simp [Act.eval, Act.put]) (by simp [Act.eval, Act.put]) (.slice (some ⟨g, 0, none⟩) (n - 1) cap) W1 R1.out ?_)
  all_goals
    go_wp2
    go_ret
    exact ⟨rfl, HF.out⟩

theorem eraseIdx_own {base P N : Nat} {e : Eng} {Bv : Value} {y : Lay} {W : World} (h : Live base P N e Bv y W) {i : Nat} (hi : i < e.bag.length) : ∃ g cap, Bv = .slice (some ⟨g, 0, none⟩) e.bag.length cap := by
  rcases Go.Joins.ownsRow_forms h.bag with ⟨_, e0⟩ | ⟨g, cap, e1⟩
  · omega
  · exact ⟨g, cap, e1⟩

set_option maxHeartbeats 1000000 in
theorem lose_all (base P N i : Nat) (e : Eng) (Bv : Value) (y : Lay) (w : World) (hL : Live base P N e Bv y w) (hi : i < e.bag.length) (hm : e.bag.length ≤ 200) :
    Calls Try.prog 184 #[.pointer (some ⟨P, 0, none⟩), .int .i64 i] w fun r w' => r = .returned (.tuple #[]) ∧ (∃ Bv', Live base P N (e.without i) Bv' y w' ∧ Bv'.ownBlock = Bv.ownBlock) ∧ Below base w w' ∧ Kept y P N Bv w w' := by
  have hbw : base ≤ w.heap.size := Nat.le_of_lt (Nat.lt_of_le_of_lt hL.lp hL.head.lt)
  obtain ⟨g, cap, hBv⟩ := eraseIdx_own hL hi
  have hbag := hL.bag
  rw [hBv] at hbag
  have HD := hide (deleteMail_any w base g cap i (i + 1) e.bag hbag hi rfl hm)
  rw [show ((i + 1 : Nat) : Int) = (i : Int) + 1 by omega] at HD
  have HL := hide hL
  have hbg := (hbag.lt g rfl).1
  have x1 := hL.head.cell 1
  simp at x1
  rw [hBv] at x1
  have HBv := hide hBv
  clear hL hbag hBv
  go_enter Try.func184, Try.ntmps184
  go_wp2_with fail
  go_at_call 201
  refine HD.out.mono ?_
  rintro r w2 ⟨rfl, hg, hown⟩
  have hg' : w.grownBy w2 Bv.ownBlock := by rw [HBv.out]; exact hg
  have hset := HL.out.setBag (l := e.bag.eraseIdx i) hg' hown (fun q hq => by
    left
    rw [HBv.out]
    exact hq)
  have hh := HL.out.head.kept hg' (fun e1 => (HL.out.bv P e1.symm).1 rfl)
  have p1 := hh.cell 1
  have pf := hh.frozen 1
  simp at p1
  rw [HBv.out] at p1
  have hK : Kept y P N Bv w (w2.setCell ⟨P, 1, none⟩ (.slice (some ⟨g, 0, none⟩) (e.bag.length - 1) cap)) := fun b hb => by
    rw [Below.heap_setCell _ _ _ _ hb.p]
    exact hg'.block b hb.lt (fun e1 => hb.v e1.symm)
  have HF := hide (And.intro (Exists.intro (p := fun Bv' => Live base P N (e.without i) Bv' y (w2.setCell ⟨P, 1, none⟩ (.slice (some ⟨g, 0, none⟩) (e.bag.length - 1) cap)) ∧ Bv'.ownBlock = Bv.ownBlock) _ ⟨hset, by rw [HBv.out]; rfl⟩) (And.intro ((grown_below hg (fun q hq => by cases hq; exact hbg) hbw).setCell (p := ⟨P, 1, none⟩) HL.out.lp (.slice (some ⟨g, 0, none⟩) (e.bag.length - 1) cap)) hK))
  clear hg hown hg' hset hh HD x1 hK
  go_wp2
  go_end0
  exact ⟨rfl, HF.out⟩

theorem lose_any (base P N i : Nat) (e : Eng) (Bv : Value) (y : Lay) (w : World) (hL : Live base P N e Bv y w) (hi : i < e.bag.length) (hm : e.bag.length ≤ 200) :
    Calls Try.prog 184 #[.pointer (some ⟨P, 0, none⟩), .int .i64 i] w fun r w' => r = .returned (.tuple #[]) ∧ (∃ Bv', Live base P N (e.without i) Bv' y w') ∧ Below base w w' ∧ Kept y P N Bv w w' :=
  (lose_all base P N i e Bv y w hL hi hm).mono (fun _ _ ⟨h1, ⟨B, h2, _⟩, h3, h4⟩ => ⟨h1, ⟨B, h2⟩, h3, h4⟩)

end Go.Proofs.Ytjhkadffaephmab

/-
  engine.deliver.
-/
namespace Go.Proofs.Ytjhkadffaephmab
set_option maxRecDepth 100000
open Go.RowKit

theorem deliver_not {n : Net} {e : Eng} {i : Nat} (h : ¬ n.heeds (e.bag.getD i noMail)) : e.deliver n i = e.without i := by
  unfold Eng.deliver Eng.take
  rw [if_neg h]
theorem deliver_yes {n : Net} {e : Eng} {i : Nat} (h : n.heeds (e.bag.getD i noMail)) : e.deliver n i = ((e.without i).tell (e.bag.getD i noMail).T.toNat (e.bag.getD i noMail).F.toNat (packet (e.bag.getD i noMail).b).R).look n (e.bag.getD i noMail).T.toNat := by
  unfold Eng.deliver Eng.take
  rw [if_pos h]

/-- Blocks of others are as they were, and stay those of others. -/
def KeptO (y y' : Lay) (P N : Nat) (Bv Bv' : Value) (w w' : World) : Prop := ∀ b, y.Off P N Bv w b → w'.heap[b]? = w.heap[b]? ∧ y'.Off P N Bv' w' b


set_option maxHeartbeats 4000000 in
theorem deliver_all (n : NetM) (base P N i : Nat) (e : Eng) (Bv : Value) (y : Lay) (w : World) (h : n.In base w) (hck : n.net.check = 0) (hN : n.nodes = N) (hL : Live base P N e Bv y w) (hfit : e.Fit n.net) (hi : i < e.bag.length) :
    Calls Try.prog 149 #[n.val, .pointer (some ⟨P, 0, none⟩), .int .i64 i] w fun r w' => r = .returned (.tuple #[]) ∧ (∃ Bv' y', Live base P N (e.deliver n.net i) Bv' y' w' ∧ KeptO y y' P N Bv Bv' w w') ∧ Below base w w' := by
  have g := Net.good_of_check hck
  have hs0 : 2 ≤ n.a.size := g.law.good.lo
  have hs1 : n.a.size ≤ 24 := g.law.good.hi
  have hi6 := g.hi
  have hNN : n.net.N = N := by show n.nodes.toNat = N; omega
  have hN6 : N ≤ 6 := by have : n.net.nodes = n.nodes := rfl; omega
  have hbw : base ≤ w.heap.size := Nat.le_of_lt (Nat.lt_of_le_of_lt hL.lp hL.head.lt)
  obtain ⟨m, hm⟩ : ∃ m, m = e.bag.getD i noMail := ⟨_, rfl⟩
  have hmail := hfit.mail m (by rw [hm]; exact getD_mem hi)
  obtain ⟨⟨hF0, hF1⟩, ⟨hT0, hT1⟩, hbl⟩ := hmail
  have hF1' : m.F < (N : Int) := by rw [← hN]; exact hF1
  have hT1' : m.T < (N : Int) := by rw [← hN]; exact hT1
  obtain ⟨W2, hW2⟩ : ∃ W2, W2 = (w.alloc (.cells n.cells 41)).alloc (.cells #[.int .i64 m.F, .int .i64 m.T, .string ⟨m.b.toArray⟩] 52) := ⟨_, rfl⟩
  have hB2 : Below w.heap.size w W2 := by rw [hW2]; exact ((Below.refl _ w).alloc (Nat.le_refl _) _).alloc (by simp) _
  have b3 : Blk W2 w.heap.size n.cells 41 := by rw [hW2]; exact (Blk.new w _ _).alloc _
  have b6 : Blk W2 (w.heap.size + 1) #[.int .i64 m.F, .int .i64 m.T, .string ⟨m.b.toArray⟩] 52 := by rw [hW2]; exact Blk.new' (by simp)
  have hL2 := hL.below hB2
  have hoff : ∀ b, w.heap.size ≤ b → b < W2.heap.size → y.Off P N Bv W2 b := fun b h1 h2 => ⟨by have := hL.head.lt; omega, by have := hL.rtrs.lt; omega, fun k hk => by have := (hL.tolds k hk).lt; omega, fun hv => by have := (hL.bag.lt _ hv).2; omega, h2, by have := hL.ylo; have := hL.head.lt; omega⟩
  have HLo := hide (lose_all base P N i e Bv y W2 hL2 hi (by have := hfit.many; omega))
  obtain ⟨gB, cap, hBv, m0, m1, m2⟩ := hL.mail hi
  rw [← hm] at m0 m1 m2
  have hglt : gB < w.heap.size := (hL.bag.lt gB (by rw [hBv]; rfl)).2
  have p1a : ∀ o, (w.alloc o).cell? ⟨P, 1, none⟩ = some Bv := fun o => by have := (hL.head.alloc o).cell 1; simpa using this
  have n0 : ∀ o q, (w.alloc o).cell? ⟨gB, q, none⟩ = w.cell? ⟨gB, q, none⟩ := fun o q => by rw [((Below.refl w.heap.size w).alloc (Nat.le_refl _) o).cell (p := ⟨gB, q, none⟩) hglt]
  have q0 : ∀ o, (w.alloc o).cell? ⟨gB, i * 3, none⟩ = some (.int .i64 m.F) := fun o => by rw [n0]; exact m0
  have q1 : ∀ o, (w.alloc o).cell? ⟨gB, i * 3 + 1, none⟩ = some (.int .i64 m.T) := fun o => by rw [n0]; exact m1
  have q2 : ∀ o, (w.alloc o).cell? ⟨gB, i * 3 + 2, none⟩ = some (.string ⟨m.b.toArray⟩) := fun o => by rw [n0]; exact m2
  rw [hBv] at p1a
  have hii : (i : Int) < (e.bag.length : Int) := by omega
  have hcells : n.cells = #[.int .i64 n.a.size, .slice n.a.B.ga n.a.B.t.len n.a.B.cap, .slice n.a.E.ga n.a.E.t.len n.a.E.cap, .int .i64 N, .slice n.la n.ln n.lc] := by simp only [NetM.cells, Mat.val, hN]
  have H := hide h
  have Hoff := hide hoff
  have HBv := hide hBv
  have HB2 := hide hB2
  have Hb3 := hide b3
  have Hb6 := hide b6
  have Hfit := hide hfit
  have Hm := hide hm
  have Hbw := hide hbw
  have HL0 := hide hL
  rw [hW2, hcells] at HLo
  rw [hcells] at hW2
  have HW2 := hide hW2
  have Hcells := hide hcells
  have HRd := hide (fun W => read_any m.b W (by unfold maxLen; omega))
  unfold txt at HRd
  have HN := hide hN
  generalize e.bag.length = len at *
  simp only [NetM.val, hcells]
  clear h hL hL2 hoff hBv hB2 b3 b6 hfit hm hbw hW2 m0 m1 m2 n0 hglt hcells hN
  go_enter Try.func149, Try.ntmps149
  go_wp2_with fail
  go_at_call 184
  refine HLo.out.mono ?_
  rintro r W3 ⟨rfl, ⟨Bv3, hl3, hbv3⟩, hb3, hk3⟩
  rw [← HW2.out] at hb3 hk3
  have Hk3 : Hid (∀ b, y.Off P N Bv w b → W3.heap[b]? = w.heap[b]? ∧ y.Off P N Bv3 W3 b) := hide (fun b hb => ⟨(hk3 b (hb.grown HB2.out.size)).trans (HB2.out.block b hb.lt), ⟨hb.p, hb.g, hb.t, fun hv => hb.v (by rw [← hbv3]; exact hv), Nat.lt_of_lt_of_le hb.lt (Nat.le_trans HB2.out.size hb3.size), hb.lo⟩⟩)
  have c3 := hk3.blk (Hoff.out _ (Nat.le_refl _) Hb3.out.lt) Hb3.out
  have c6 := hk3.blk (Hoff.out _ (by omega) Hb6.out.lt) Hb6.out
  have hB3 := (HB2.out.mono Hbw.out).trans hb3
  have d2 := c6.cell 2
  simp at d2
  have HL3 := hide hl3
  have HB3 := hide hB3
  have Hc3 := hide c3
  have Hc6 := hide c6
  clear hl3 hb3 hk3 hbv3 c3 c6 hB3 HLo p1a q0 q1 q2
  go_wp2_with fail
  go_at_call 13
  refine (HRd.out _).mono ?_
  rintro r W4 ⟨⟨p, rfl, hsame, hin, hlo⟩, hb4⟩
  obtain ⟨W5, hW5⟩ : ∃ W5, W5 = W4.alloc (.cells p.cells 24) := ⟨_, rfl⟩
  have hB5 : Below W3.heap.size W3 W5 := by rw [hW5]; exact hb4.alloc hb4.size _
  have c7 : Blk W5 W4.heap.size p.cells 24 := by rw [hW5]; exact Blk.new W4 _ _
  have hin5 : p.In W5.heap.size W5 := by rw [hW5]; exact hin.grown ((Below.refl _ W4).alloc (Nat.le_refl _) _)
  have hl5 := HL3.out.below hB5
  have c3 := Hc3.out.below hB5 Hc3.out.lt
  have c6 := Hc6.out.below hB5 Hc6.out.lt
  have hb3s : base ≤ W3.heap.size := Nat.le_of_lt (Nat.lt_of_le_of_lt HL3.out.lp HL3.out.head.lt)
  have hBw5 : Below base w W5 := HB3.out.trans (hB5.mono hb3s)
  have Hk5 : Hid (∀ b, y.Off P N Bv w b → W5.heap[b]? = w.heap[b]? ∧ y.Off P N Bv3 W5 b) := hide (fun b hb => ⟨(hB5.block b (Hk3.out b hb).2.lt).trans (Hk3.out b hb).1, (Hk3.out b hb).2.grown hB5.size⟩)
  have HX : Hid (∀ W, Below W5.heap.size W5 W → ¬ n.net.heeds m → (∃ Bv' y', Live base P N (e.deliver n.net i) Bv' y' W ∧ KeptO y y' P N Bv Bv' w W) ∧ Below base w W) := hide (fun W hb hn => by
    rw [Hm.out] at hn
    rw [deliver_not hn]
    exact ⟨⟨Bv3, y, hl5.below hb, fun b hb' => ⟨(hb.block b (Hk5.out b hb').2.lt).trans (Hk5.out b hb').1, (Hk5.out b hb').2.grown hb.size⟩⟩, hBw5.trans (hb.mono (Nat.le_trans hb3s hB5.size))⟩)
  have HS := hide hsame
  have Hin5 := hide hin5
  have HL5 := hide hl5
  have HB5 := hide hBw5
  have Hp7 := hide c7
  have Hp3 := hide c3
  have Hp6 := hide c6
  have Hlo : Hid (0 < p.n → W3.heap.size ≤ p.rb) := hide hlo
  have HW5 := hide hW5
  have k6 := Hc6.out.below hb4 Hc6.out.lt
  have k3 := Hc3.out.below hb4 Hc3.out.lt
  have r60 : ∀ o, (W4.alloc o).cell? ⟨w.heap.size + 1, 0, none⟩ = some (.int .i64 m.F) := fun o => by have := (k6.alloc o).cell 0; simpa using this
  have r61 : ∀ o, (W4.alloc o).cell? ⟨w.heap.size + 1, 1, none⟩ = some (.int .i64 m.T) := fun o => by have := (k6.alloc o).cell 1; simpa using this
  have r30 : ∀ o, (W4.alloc o).cell? ⟨w.heap.size, 0, none⟩ = some (.int .i64 n.a.size) := fun o => by have := (k3.alloc o).cell 0; simpa [Hcells.out] using this
  have r33 : ∀ o, (W4.alloc o).cell? ⟨w.heap.size, 3, none⟩ = some (.int .i64 N) := fun o => by have := (k3.alloc o).cell 3; simpa [Hcells.out] using this
  have hsm : p.n ≤ 17592186044416 := hin.small
  have HL3' := HL3
  clear k6 k3 hsame hin hlo hb4 hB5 c7 hin5 hl5 c3 c6 hb3s hBw5 d2 HL3 HB3 Hc3 Hc6 HRd
  by_cases k1 : readErr m.b = 0
  rotate_left
  · have k1' : (readErr m.b == 0) = false := by simpa using k1
    have HP := hide (HX.out W5 (Below.refl _ _) (fun hh => k1 hh.1))
    rw [HW5.out] at HP
    simp only [PktM.val, PktM.cells] at *
    clear HX
    generalize readErr m.b = er at *
    go_wp2
    ((try simp only [Exit.inBlock, Exit.then]); refine bodyPost_ret (results_none rfl _ _ _) rfl ?_)
    exact ⟨rfl, HP.out⟩
  have hS : p.pkt.same (packet m.b) := by have := HS.out; unfold readOf at this; rwa [if_pos k1] at this
  have HS' := hide hS
  have HF' : Hid (p.F = (packet m.b).F) := hide hS.1
  have HT' : Hid (p.T = (packet m.b).T) := hide hS.2.1
  have Hn' : Hid (p.n = (packet m.b).n) := hide hS.2.2.1
  clear hS
  rw [k1]
  by_cases k2 : p.F = m.F
  rotate_left
  · have HP := hide (HX.out W5 (Below.refl _ _) (fun hh => k2 (HF'.out.trans hh.2.1)))
    have k2' : (p.F == m.F) = false := by simpa using k2
    rw [HW5.out] at HP
    simp only [PktM.cells] at HP
    simp only [PktM.val, PktM.cells]
    clear HX
    go_wp2
    ((try simp only [Exit.inBlock, Exit.then]); refine bodyPost_ret (results_none rfl _ _ _) rfl ?_)
    exact ⟨rfl, HP.out⟩
  by_cases k3 : p.T = m.T
  rotate_left
  · have HP := hide (HX.out W5 (Below.refl _ _) (fun hh => k3 (HT'.out.trans hh.2.2.1)))
    have k3' : (p.T == m.T) = false := by simpa using k3
    rw [HW5.out] at HP
    simp only [PktM.cells, k2] at HP
    simp only [PktM.val, PktM.cells, k2]
    clear HX
    go_wp2
    ((try simp only [Exit.inBlock, Exit.then]); refine bodyPost_ret (results_none rfl _ _ _) rfl ?_)
    exact ⟨rfl, HP.out⟩
  by_cases k4 : p.n = N
  rotate_left
  · have HP := hide (HX.out W5 (Below.refl _ _) (fun hh => k4 (by have h1 := (Net.row_zero.1 hh.2.2.2.1).1; have h2 := HN.out; have h3 : n.net.nodes = n.nodes := rfl; rw [← Hn'.out] at h1; omega)))
    have k4' : ((p.n : Int) == (N : Int)) = false := by simp; omega
    rw [HW5.out] at HP
    simp only [PktM.cells, k2, k3] at HP
    simp only [PktM.val, PktM.cells, k2, k3]
    clear HX
    go_wp2
    ((try simp only [Exit.inBlock, Exit.then]); refine bodyPost_ret (results_none rfl _ _ _) rfl ?_)
    exact ⟨rfl, HP.out⟩
  have hints : Ints p.ra N p.rb p.ro p.R W5 := by have := Hin5.out.ints; rwa [k4] at this
  have HA := hide (sallBelow_any p.ra N p.rc p.rb p.ro p.R n.a.size W5 hints (fun h0 => Hin5.out.lt (by omega)))
  have Hints := hide hints
  clear hints
  have hW5 := HW5.out
  simp only [PktM.cells, k2, k3, k4] at hW5
  rw [hW5] at HA
  simp only [PktM.val, PktM.cells, k2, k3, k4]
  go_wp2_with fail
  go_at_call 133
  refine HA.out.mono ?_
  rw [← hW5]
  clear HA
  rintro r W6 ⟨rfl, hb6⟩
  have c3 := Hp3.out.below hb6 Hp3.out.lt
  have c6 := Hp6.out.below hb6 Hp6.out.lt
  have Hb6' := hide hb6
  have x60 := c6.cell 0
  have x61 := c6.cell 1
  have x30 := c3.cell 0
  have x31 := c3.cell 1
  have x32 := c3.cell 2
  have x33 := c3.cell 3
  have x34 := c3.cell 4
  simp only [Hcells.out] at x30 x31 x32 x33 x34
  simp at x60 x61 x30 x31 x32 x33 x34
  have hrow : rowIn N p.R n.a.size = true ↔ n.net.row (packet m.b).n (packet m.b).R = 0 := by
    have h2 := HN.out
    have h3 : n.net.nodes = n.nodes := rfl
    have h4 := Hn'.out
    have h5 := HS'.out.2.2.2
    rw [rowIn_iff, Net.row_zero]
    constructor
    · intro h
      exact ⟨by omega, fun j hj => by rw [← h5 j (by show j < p.n; omega)]; exact h j (by omega)⟩
    · intro h j hj
      have := h.2 j (by omega)
      rw [← h5 j (by show j < p.n; omega)] at this
      exact this
  have Hrow := hide hrow
  clear hrow c3 c6 hb6 r60 r61 r30 r33 hW5
  cases k5 : rowIn N p.R n.a.size with
  | false =>
    have HP := hide (HX.out W6 Hb6'.out (fun hh => by have := Hrow.out.2 hh.2.2.2.1; rw [k5] at this; cases this))
    clear HX
    go_wp2
    ((try simp only [Exit.inBlock, Exit.then]); refine bodyPost_ret (results_none rfl _ _ _) rfl ?_)
    exact ⟨rfl, HP.out⟩
  | true =>
    have hbase5 : base ≤ W5.heap.size := Nat.le_of_lt (Nat.lt_of_le_of_lt HL5.out.lp HL5.out.head.lt)
    have hn6 : n.In base W6 := (H.out.below HB5.out (Nat.le_refl _)).below Hb6'.out hbase5
    have HH := hide (hears_any n m.T m.F W6 (hn6.mono (Nat.le_trans hbase5 Hb6'.out.size)) hck)
    rw [NetM.val, Hcells.out] at HH
    have Hn6 := hide hn6
    have Hbase5 := hide hbase5
    clear hn6 hbase5
    go_wp2_with fail
    go_at_call 190
    refine HH.out.mono ?_
    clear HH
    rintro r W7 ⟨rfl, hb7⟩
    have Hb7 := hide hb7
    by_cases k6 : 0 ≤ n.net.edge m.T m.F
    rotate_left
    · have HP := hide (HX.out W7 (Hb6'.out.trans (hb7.mono Hb6'.out.size)) (fun hh => k6 hh.2.2.2.2))
      simp only [k6, decide_false]
      clear HX hb7
      go_wp2
      ((try simp only [Exit.inBlock, Exit.then]); refine bodyPost_ret (results_none rfl _ _ _) rfl ?_)
      exact ⟨rfl, HP.out⟩
    simp only [k6, decide_true]
    clear HX
    go_wp2
    obtain ⟨tn, htn⟩ : ∃ tn : Nat, m.T = tn := ⟨m.T.toNat, by omega⟩
    obtain ⟨fn, hfn⟩ : ∃ fn : Nat, m.F = fn := ⟨m.F.toNat, by omega⟩
    have ht : tn < N := by omega
    have hf : fn < N := by omega
    have hb57 : Below W5.heap.size W5 W7 := Hb6'.out.trans (hb7.mono Hb6'.out.size)
    have hb57d : Below W5.heap.size W5 W7.drew := ⟨hb57.os, hb57.tape, hb57.output, hb57.size, hb57.block⟩
    have hl7 : Live base P N (e.without i) Bv3 y W7.drew := HL5.out.below hb57d
    have q6 := Hp6.out.below hb57d Hp6.out.lt
    have q7 := Hp7.out.below hb57d Hp7.out.lt
    have q3 := Hp3.out.below hb57d Hp3.out.lt
    have z60 := q6.cell 0
    have z61 := q6.cell 1
    have z72 := q7.cell 2
    have zh := hl7.head.cell 0
    have zr := hl7.rtrs.cell (tn * 2 + 1)
    rw [hl7.r1 tn ht] at zr
    have zt := (hl7.tolds tn ht).cell fn
    rw [hl7.t0 tn ht fn hf] at zt
    have zf := (hl7.tolds tn ht).frozen fn
    simp only [PktM.cells, k4] at z72
    simp [htn, hfn] at z60 z61 z72 zh
    have hti : (tn : Int) < (N : Int) := by omega
    have hfi : (fn : Int) < (N : Int) := by omega
    have hin7 := Hin5.out.below hb57d (Nat.le_refl _)
    have hlo3 : W3.heap.size ≤ p.rb := Hlo.out (by omega)
    have hoff7 : y.Off P N Bv3 W7.drew p.rb := ⟨by have := HL3'.out.head.lt; omega, by have := HL3'.out.rtrs.lt; omega, fun k hk => by have := (HL3'.out.tolds k hk).lt; omega, fun hv => by have := (HL3'.out.bag.lt _ hv).2; omega, Nat.lt_of_lt_of_le (hin7.lt (by omega)) hb57d.size, by have := HL3'.out.ylo; have := HL3'.out.head.lt; omega⟩
    have hset := hl7.setTold ht hf true (packet m.b).R p.ra p.rc p.rb p.ro (fun _ => ⟨hin7.ints.addr (by omega), hoff7, fun j hj => by rw [hin7.ints.cell j (by omega)]; exact congrArg (fun z => some (Value.int .i64 z)) (HS'.out.2.2.2 j (by show j < p.n; omega))⟩)
    simp only [if_true] at hset
    obtain ⟨W8, hW8⟩ : ∃ W8, W8 = W7.drew.setCell ⟨y.Tb tn, fn, none⟩ (.slice p.ra N p.rc) := ⟨_, rfl⟩
    rw [← hW8] at hset
    obtain ⟨y8, hset, hG8, hT8, hL8⟩ : ∃ y8 : Lay, Live base P N ((e.without i).tell tn fn (packet m.b).R) Bv3 y8 W8 ∧ y8.G = y.G ∧ y8.Tb = y.Tb ∧ y8.lo = y.lo := ⟨_, hset, rfl, rfl, rfl⟩
    have Hk8 : Hid (∀ b, y.Off P N Bv w b → W8.heap[b]? = w.heap[b]? ∧ y8.Off P N Bv3 W8 b) := hide (fun b hb => by
      obtain ⟨h1, h2⟩ := Hk5.out b hb
      have h3 := hb57d.block b h2.lt
      refine ⟨by rw [hW8, Below.heap_setCell _ _ _ _ (h2.t tn ht), h3]; exact h1, ⟨h2.p, by rw [hG8]; exact h2.g, by rw [hT8]; exact h2.t, h2.v, ?_, by rw [hL8]; exact h2.lo⟩⟩
      rw [hW8]; simpa using Nat.lt_of_lt_of_le h2.lt hb57d.size)
    have hB8 : Below base w W8 := by rw [hW8]; exact (HB5.out.trans (hb57d.mono Hbase5.out)).setCell (p := ⟨y.Tb tn, fn, none⟩) (HL0.out.lt tn ht) _
    have hn8 : n.In base W8 := H.out.below hB8 (Nat.le_refl _)
    have hheeds : n.net.heeds m := ⟨k1, HF'.out.symm.trans k2, HT'.out.symm.trans k3, Hrow.out.1 k5, k6⟩
    have hfit8 := (Hfit.out.without i).tell (i := tn) (k := fn) (f := (packet m.b).R) (fun j hj => by
      have := (Net.row_zero.1 hheeds.2.2.2.1).2 j (by have := Hn'.out; omega)
      exact this)
    have HLk := hide (engLook_all n base P N tn _ Bv3 y8 W8 hn8 hck HN.out hset hfit8 ht)
    have he : Eng.look n.net ((e.without i).tell tn fn (packet m.b).R) tn = e.deliver n.net i := by
      rw [Hm.out] at hheeds htn hfn
      rw [deliver_yes hheeds, ← Hm.out, show m.T.toNat = tn by rw [Hm.out]; omega, show m.F.toNat = fn by rw [Hm.out]; omega]
    have HLk : Hid (Calls Try.prog 151 #[n.val, .pointer (some ⟨P, 0, none⟩), .int .i64 tn] W8 fun r w' => r = .returned (.tuple #[]) ∧ (∃ y', Live base P N (e.deliver n.net i) Bv3 y' w' ∧ y'.G = y8.G ∧ y'.Tb = y8.Tb ∧ y'.lo = y8.lo) ∧ Below base W8 w' ∧ Kept y8 P N Bv3 W8 w') := by rw [← he]; exact HLk
    rw [NetM.val, Hcells.out] at HLk
    have hTlt := (HL0.out.tolds tn ht).lt
    have u3 : Blk W8 w.heap.size n.cells 41 := by rw [hW8]; exact q3.other (by omega) _ _
    have u6 : Blk W8 (w.heap.size + 1) #[.int .i64 m.F, .int .i64 m.T, .string ⟨m.b.toArray⟩] 52 := by rw [hW8]; exact q6.other (by omega) _ _
    have v30 := u3.cell 0
    have v31 := u3.cell 1
    have v32 := u3.cell 2
    have v33 := u3.cell 3
    have v34 := u3.cell 4
    have v61 := u6.cell 1
    simp only [Hcells.out] at v30 v31 v32 v33 v34
    simp [htn] at v30 v31 v32 v33 v34 v61
    have HB8 := hide hB8
    have HW8 := hide hW8
    clear HW5 Hm Hcells HBv HN HW2 HS HS' HF' HT' Hn' Hrow hheeds hfit8 he u3 u6 hn8 hB8 hset hoff7 hlo3 hin7 q6 q7 q3 hl7 hb57 hb57d hb7 hW8 hTlt k1 k2 k3 k4 k5 k6 x60 x61 x30 x31 x32 x33 x34 htn hfn hW5
    refine wp_region_last 14 _ (fun W => W = W7.drew) (valsE [.pointer (some ⟨P, 0, none⟩), .pointer (some ⟨P, 0, none⟩), .pointer (some ⟨P, 0, none⟩), .slice (some ⟨y.G, 0, none⟩) N y.gc, .pointer (some ⟨w.heap.size + 1, 1, none⟩), .int .i64 (tn : Int), .pointer (some ⟨y.G, tn * 2, none⟩), .pointer (some ⟨y.G, tn * 2 + 1, none⟩), .slice (some ⟨y.Tb tn, 0, none⟩) N (y.Tc tn), .pointer (some ⟨w.heap.size + 1, 0, none⟩), .int .i64 (fn : Int), .pointer (some ⟨W4.heap.size, 2, none⟩), .slice p.ra N p.rc, .pointer (some ⟨y.Tb tn, fn, none⟩)]) (fun _ W => W = W8) (fun _ _ _ => True) (by kernel_rfl) (by kernel_rfl) (by kernel_rfl) (by kernel_rfl) (by kernel_rfl) rfl rfl ⟨?_, ?_, ?_, ?_, ?_, ?_, ?_, ?_, ?_, ?_, ?_, ?_, ?_, ?_, trivial⟩ ?_ trivial ?_
    rotate_right
    · intro t W hG _
      simp only [fill, Act.put, List.setIfInBounds_toArray, List.set_cons_zero, List.set_cons_succ]
      subst hG
      go_wp2_with fail
      go_at_call 151
      refine HLk.out.mono ?_
      rintro r w9 ⟨rfl, ⟨y9, hl9, hG9, hT9⟩, hb9, hk9⟩
      have HF : Hid ((∃ Bv' y', Live base P N (e.deliver n.net i) Bv' y' w9 ∧ KeptO y y' P N Bv Bv' w w9) ∧ Below base w w9) := hide ⟨⟨Bv3, y9, hl9, fun b hb => ⟨(hk9 b (Hk8.out b hb).2).trans (Hk8.out b hb).1, ⟨(Hk8.out b hb).2.p, by rw [hG9]; exact (Hk8.out b hb).2.g, by rw [hT9.1]; exact (Hk8.out b hb).2.t, (Hk8.out b hb).2.v, Nat.lt_of_lt_of_le (Hk8.out b hb).2.lt hb9.size, by rw [hT9.2]; exact (Hk8.out b hb).2.lo⟩⟩⟩, HB8.out.trans hb9⟩
      clear hl9 hb9 hk9 hG9 hT9 HB8 HLk
      go_wp2
      go_end0
      exact ⟨rfl, HF.out⟩
    rotate_right
    · intro t W hG hE _ K hK
      have e12 := valsE_get (hE 12 (by omega)) rfl
      have e13 := valsE_get (hE 13 (by omega)) rfl
      subst hG
      simp only [fill, Act.put, List.setIfInBounds_toArray, List.set_cons_zero, List.set_cons_succ, e12, e13] at hK ⊢
      rw [if_pos (by rfl)]
      go_simp
      exact hK undef _ HW8.out.symm
    all_goals intro t W hG hp ht K hK
    all_goals clear ht
    all_goals subst hG
    all_goals simp only [fill, Act.put, List.setIfInBounds_toArray, List.set_cons_zero, List.set_cons_succ] at hK ⊢
    · rw [if_pos (by rfl)]
      go_simp
      exact hK _ _ rfl rfl (fun _ _ _ h => h)
    · have e0 := valsE_get (hp 0 (by decide)) rfl
      simp only [e0] at hK ⊢
      rw [if_pos (by rfl)]
      go_simp
      exact hK _ _ rfl rfl (fun _ _ _ h => h)
    · have e1 := valsE_get (hp 1 (by decide)) rfl
      simp only [e1] at hK ⊢
      rw [if_pos (by rfl)]
      go_simp
      exact hK _ _ rfl rfl (fun _ _ _ h => h)
    · have e2 := valsE_get (hp 2 (by decide)) rfl
      simp only [e2] at hK ⊢
      rw [if_pos (by rfl)]
      go_simp
      exact hK _ _ rfl rfl (fun _ _ _ h => h)
    · rw [if_pos (by rfl)]
      go_simp
      exact hK _ _ rfl rfl (fun _ _ _ h => h)
    · have e4 := valsE_get (hp 4 (by decide)) rfl
      simp only [e4] at hK ⊢
      rw [if_pos (by rfl)]
      go_simp
      exact hK _ _ rfl rfl (fun _ _ _ h => h)
    · have e3 := valsE_get (hp 3 (by decide)) rfl
      have e5 := valsE_get (hp 5 (by decide)) rfl
      simp only [e3, e5] at hK ⊢
      rw [if_pos (by rfl)]
      go_simp
      exact hK _ _ rfl rfl (fun _ _ _ h => h)
    · have e6 := valsE_get (hp 6 (by decide)) rfl
      simp only [e6] at hK ⊢
      rw [if_pos (by rfl)]
      go_simp
      exact hK _ _ rfl rfl (fun _ _ _ h => h)
    · have e7 := valsE_get (hp 7 (by decide)) rfl
      simp only [e7] at hK ⊢
      rw [if_pos (by rfl)]
      go_simp
      exact hK _ _ rfl rfl (fun _ _ _ h => h)
    · rw [if_pos (by rfl)]
      go_simp
      exact hK _ _ rfl rfl (fun _ _ _ h => h)
    · have e9 := valsE_get (hp 9 (by decide)) rfl
      simp only [e9] at hK ⊢
      rw [if_pos (by rfl)]
      go_simp
      exact hK _ _ rfl rfl (fun _ _ _ h => h)
    · rw [if_pos (by rfl)]
      go_simp
      exact hK _ _ rfl rfl (fun _ _ _ h => h)
    · have e11 := valsE_get (hp 11 (by decide)) rfl
      simp only [e11] at hK ⊢
      rw [if_pos (by rfl)]
      go_simp
      exact hK _ _ rfl rfl (fun _ _ _ h => h)
    · have e8 := valsE_get (hp 8 (by decide)) rfl
      have e10 := valsE_get (hp 10 (by decide)) rfl
      simp only [e8, e10] at hK ⊢
      rw [if_pos (by rfl)]
      go_simp
      exact hK _ _ rfl rfl (fun _ _ _ h => h)

theorem deliver_any (n : NetM) (base P N i : Nat) (e : Eng) (Bv : Value) (y : Lay) (w : World) (h : n.In base w) (hck : n.net.check = 0) (hN : n.nodes = N) (hL : Live base P N e Bv y w) (hfit : e.Fit n.net) (hi : i < e.bag.length) :
    Calls Try.prog 149 #[n.val, .pointer (some ⟨P, 0, none⟩), .int .i64 i] w fun r w' => r = .returned (.tuple #[]) ∧ (∃ Bv' y', Live base P N (e.deliver n.net i) Bv' y' w') ∧ Below base w w' :=
  (deliver_all n base P N i e Bv y w h hck hN hL hfit hi).mono (fun _ _ ⟨h1, ⟨B, y', h2, _⟩, h3⟩ => ⟨h1, ⟨B, y', h2⟩, h3⟩)

end Go.Proofs.Ytjhkadffaephmab
