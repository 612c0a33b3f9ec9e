/-
  Packets in memory; wire.sum, wire.Write.
-/
import Derived.Test.YtjhkadffaephmaaRowLib
import Derived.Test.YtjhkadffaephmaaFun
import Derived.Test.YtjhkadffaephmaaWireP
import Derived.Laws.IdiomStrings
import Derived.Laws.DeepStrings4
namespace Go.Proofs.Ytjhkadffaephmaa
set_option maxRecDepth 100000
open Go.RowKit

/-- Bytes in memory. -/
structure Bytes (a : Option Addr) (l : List UInt8) (b o : Nat) (w : World) : Prop where
  addr : 0 < l.length → a = some ⟨b, o, none⟩
  cell : ∀ (i : Nat) (h : i < l.length), w.cell? ⟨b, o + i, none⟩ = some (.int .u8 (l[i].toNat : Int))

def bytesL (l : List UInt8) : List Value := l.map fun b => Value.int .u8 (b.toNat : Int)
theorem bytesL_len (l : List UInt8) : (bytesL l).length = l.length := by simp [bytesL]
theorem bytesL_append (l m : List UInt8) : bytesL (l ++ m) = bytesL l ++ bytesL m := by simp [bytesL]
theorem bytesL_get {l : List UInt8} {i : Nat} (h : i < l.length) : (bytesL l)[i]? = some (.int .u8 (l[i].toNat : Int)) := by simp [bytesL, h]
def txt (l : List UInt8) : Value := .string ⟨l.toArray⟩

set_option maxHeartbeats 1000000 in
theorem sum_any (a : Option Addr) (l : List UInt8) (c b o : Nat) (w : World) (h : Bytes a l b o w) (hl : l.length ≤ 100) :
    Calls Try.prog 97 #[.slice a l.length c] w fun e w' => e = .returned (.int .i64 ((sumOf l : Nat) : Int)) ∧ w' = w := by
  have H := hide h
  have HE : Hid (sumOf (l.take l.length) = sumOf l) := hide (by rw [List.take_length])
  clear h
  go_enter Try.func97, Try.ntmps97
  go_wp2
  go_loop [3, 5, 8] (fun s _ i => ∃ k : Nat, k ≤ l.length ∧ i = .int .i64 k ∧ s = .int .i64 ((sumOf (l.take k) : Nat) : Int)) (fun _ _ i => l.length - (intOf i).toNat)
  case atStart => exact ⟨0, Nat.zero_le _, rfl, rfl⟩
  case round =>
    obtain ⟨k, hk, rfl, rfl⟩ := hrel
    by_cases hlt : k < l.length
    · have ha := H.out.addr (by omega)
      have hc := H.out.cell k hlt
      have hs := sumOf_lt (l.take k)
      have hb := (l[k]).toNat_lt
      have Hn : Hid (sumOf (l.take (k + 1)) = (31 * sumOf (l.take k) + (l[k]).toNat) % 65521) := hide (by rw [List.take_succ_eq_append_getElem hlt, sumOf_snoc]; rfl)
      generalize sumOf (l.take k) = s at *
      generalize (l[k]).toNat = bv at *
      have hki : (k : Int) < (l.length : Int) := by omega
      go_wp2
      go_round
      case rel => exact ⟨k + 1, by omega, by go_num, by rw [Hn.out]; go_num⟩
      case measure => simp [intOf]; omega
    · have hkn : k = l.length := by omega
      subst hkn
      rw [HE.out]
      go_wp2
      go_ret
      exact ⟨rfl, rfl⟩

theorem calls_write1 (args : Array Value) (W : World) : (callFunc 95 args).run Try.prog W = .ok (.enter 95 args) W := by rfl

set_option maxHeartbeats 400000 in
theorem write1_any (x : Int) (w : World) :
    Calls Try.prog 95 #[.int .i64 x] w fun e w' => e = .returned (.bool (!inB x)) ∧ w' = w := by
  by_cases h : x < 0
  · have Hv : Hid (inB x = false) := hide (by unfold inB; simp; omega)
    go_enter Try.func95, Try.ntmps95
    go_wp2
    go_ret
    exact ⟨by rw [Hv.out]; rfl, rfl⟩
  · by_cases h2 : 250 < x
    · have Hv : Hid (inB x = false) := hide (by unfold inB; simp; omega)
      go_enter Try.func95, Try.ntmps95
      go_wp2
      go_ret
      exact ⟨by rw [Hv.out]; simp, rfl⟩
    · have Hv : Hid (inB x = true) := hide (by unfold inB; simp; omega)
      go_enter Try.func95, Try.ntmps95
      go_wp2
      go_ret
      exact ⟨by rw [Hv.out]; simp, rfl⟩

/-- A packet in memory. -/
structure PktM where
  F : Int
  T : Int
  ra : Option Addr
  n : Nat
  rc : Nat
  rb : Nat
  ro : Nat
  R : Nat → Int
def PktM.cells (p : PktM) : Array Value := #[.int .i64 p.F, .int .i64 p.T, .slice p.ra p.n p.rc]
def PktM.val (p : PktM) : Value := .agg p.cells
def PktM.pkt (p : PktM) : Pkt := ⟨p.F, p.T, p.n, p.R⟩
structure PktM.In (p : PktM) (N : Nat) (w : World) : Prop where
  ints : Ints p.ra p.n p.rb p.ro p.R w
  lt : 0 < p.n → p.rb < N
  small : p.n ≤ 17592186044416
theorem PktM.In.below {p : PktM} {N k : Nat} {w w' : World} (h : p.In N w) (hb : Below k w w') (hk : N ≤ k) : p.In N w' := ⟨h.ints.below hb (fun h0 => Nat.lt_of_lt_of_le (h.lt h0) hk), h.lt, h.small⟩
theorem PktM.In.grown {p : PktM} {w w' : World} (h : p.In w.heap.size w) (hb : Below w.heap.size w w') : p.In w'.heap.size w' := ⟨(h.below hb (Nat.le_refl _)).ints, fun h0 => Nat.lt_of_lt_of_le (h.lt h0) hb.size, h.small⟩

theorem Pkt.routes_any (p : Pkt) : ((List.range p.n).any fun i => !inB (p.R i)) = !p.routesIn := by
  unfold Pkt.routesIn
  rw [List.all_eq_not_any_not, Bool.not_not]

theorem Try.infoByte : (Try.prog.info? 5).map (fun i => (i.zero, i.size, i.bytes)) = some (some (.int .u8 0), 1, 1) := by kernel_rfl
theorem wrap_u8 {x : Int} (h0 : 0 ≤ x) (h1 : x < 256) : IntKind.u8.wrap x = x := by
  simp [IntKind.wrap, IntKind.bits, IntKind.signed]; omega

end Go.Proofs.Ytjhkadffaephmaa
