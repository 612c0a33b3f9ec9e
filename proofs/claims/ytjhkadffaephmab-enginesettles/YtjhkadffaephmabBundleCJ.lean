/-
  Our own texts, bundled: a claim holds few files.
-/
import Derived.Test.YtjhkadffaephmabBundleAJ
import Derived.Test.YtjhkadffaephmabBundleCI
import Derived.Laws.IdiomStrings
import Derived.Laws.DeepStrings4
/-
  Packets: plain mathematics. The sum of bytes; what is written; what is read; one byte turned.
-/
namespace Go.Proofs.Ytjhkadffaephmab

/-- A packet by its numbers. -/
structure Pkt where
  F : Int
  T : Int
  n : Nat
  R : Nat → Int

def u8 (x : Int) : UInt8 := UInt8.ofNat x.toNat
theorem u8_toNat {x : Int} (h0 : 0 ≤ x) (h1 : x < 256) : ((u8 x).toNat : Int) = x := by
  unfold u8
  rw [UInt8.toNat_ofNat']
  omega
theorem u8_of (b : UInt8) : u8 (b.toNat : Int) = b := by
  unfold u8
  rw [Int.toNat_natCast]
  exact UInt8.ofNat_toNat

def sumStep (s : Nat) (b : UInt8) : Nat := (31 * s + b.toNat) % 65521
def sumOf (l : List UInt8) : Nat := l.foldl sumStep 1
theorem sumStep_lt (s : Nat) (b : UInt8) : sumStep s b < 65521 := Nat.mod_lt _ (by decide)
theorem sumFold_lt : ∀ (l : List UInt8) (s : Nat), s < 65521 → l.foldl sumStep s < 65521
  | [], _, h => h
  | b :: l, s, _ => sumFold_lt l _ (sumStep_lt s b)
theorem sumOf_lt (l : List UInt8) : sumOf l < 65521 := sumFold_lt l 1 (by decide)
theorem sumOf_snoc (l : List UInt8) (b : UInt8) : sumOf (l ++ [b]) = sumStep (sumOf l) b := by
  simp [sumOf, List.foldl_append]
theorem sumStep_inj {s t : Nat} {b : UInt8} (hs : s < 65521) (ht : t < 65521) (h : sumStep s b = sumStep t b) : s = t := by
  unfold sumStep at h; omega
theorem sumStep_ne {s : Nat} {a b : UInt8} (h : a ≠ b) : sumStep s a ≠ sumStep s b := by
  intro e
  apply h
  apply UInt8.toNat_inj.1
  have := a.toNat_lt
  have := b.toNat_lt
  unfold sumStep at e; omega
theorem sumFold_ne : ∀ (l : List UInt8) {s t : Nat}, s < 65521 → t < 65521 → s ≠ t → l.foldl sumStep s ≠ l.foldl sumStep t
  | [], _, _, _, _, h => h
  | b :: l, s, t, hs, ht, h => sumFold_ne l (sumStep_lt s b) (sumStep_lt t b) (fun e => h (sumStep_inj hs ht e))
theorem sumFold_set : ∀ (l : List UInt8) (s i : Nat) (c : UInt8) (hi : i < l.length), s < 65521 → c ≠ l[i] → (l.set i c).foldl sumStep s ≠ l.foldl sumStep s
  | [], _, _, _, hi, _, _ => absurd hi (Nat.not_lt_zero _)
  | b :: l, s, 0, c, _, _, h => sumFold_ne l (sumStep_lt s c) (sumStep_lt s b) (sumStep_ne h)
  | b :: l, s, i + 1, c, hi, hs, h => sumFold_set l _ i c (by simpa using hi) (sumStep_lt s b) (by simpa using h)

def inB (x : Int) : Bool := decide (0 ≤ x) && decide (x ≤ 250)
def Pkt.routesIn (p : Pkt) : Bool := (List.range p.n).all fun i => inB (p.R i)
theorem Pkt.routesIn_iff {p : Pkt} : p.routesIn = true ↔ ∀ i, i < p.n → 0 ≤ p.R i ∧ p.R i ≤ 250 := by
  simp [Pkt.routesIn, inB]
theorem Pkt.routesIn_false {p : Pkt} {i : Nat} (h : i < p.n) (hn : ¬ (0 ≤ p.R i ∧ p.R i ≤ 250)) : p.routesIn = false := by
  rw [Bool.eq_false_iff]; intro hw; exact hn (Pkt.routesIn_iff.1 hw i h)
def Pkt.inRange (p : Pkt) : Bool := inB p.F && inB p.T && p.routesIn
def Pkt.routes (p : Pkt) : List UInt8 := (List.range p.n).map fun i => u8 (p.R i)
def Pkt.body (p : Pkt) : List UInt8 := [83, u8 p.F, u8 p.T, u8 p.n] ++ p.routes
def tailOf (s : Nat) : List UInt8 := [UInt8.ofNat (s / 256), UInt8.ofNat (s % 256)]
def Pkt.bytes (p : Pkt) : List UInt8 := p.body ++ tailOf (sumOf p.body)
def Pkt.err (p : Pkt) : Int := if p.inRange = false then 3 else if 60 < p.n + 6 then 2 else 0
def Pkt.text (p : Pkt) : List UInt8 := if p.err = 0 then p.bytes else []
theorem Pkt.routes_length (p : Pkt) : p.routes.length = p.n := by simp [Pkt.routes]
theorem Pkt.body_length (p : Pkt) : p.body.length = p.n + 4 := by simp [Pkt.body, Pkt.routes_length]
theorem Pkt.bytes_length (p : Pkt) : p.bytes.length = p.n + 6 := by simp [Pkt.bytes, Pkt.body_length, tailOf]
theorem Pkt.err_ok {p : Pkt} (h : p.err = 0) : p.inRange = true ∧ p.n + 6 ≤ 60 := by
  unfold Pkt.err at h
  split at h
  · cases h
  · next h1 =>
    split at h
    · cases h
    · next h2 => exact ⟨by simpa using h1, by omega⟩
theorem Pkt.err_of {p : Pkt} (h : p.inRange = true) (h2 : p.n + 6 ≤ 60) : p.err = 0 := by
  unfold Pkt.err
  rw [if_neg (by simp [h]), if_neg (by omega)]

/-- Two packets that tell the same. -/
def Pkt.same (p q : Pkt) : Prop := p.F = q.F ∧ p.T = q.T ∧ p.n = q.n ∧ ∀ i, i < p.n → p.R i = q.R i
theorem Pkt.same_inRange {p q : Pkt} (h : p.same q) : p.inRange = q.inRange := by
  have e : p.routesIn = q.routesIn := by
    rw [Bool.eq_iff_iff, Pkt.routesIn_iff, Pkt.routesIn_iff]
    constructor
    · intro k i hi; have := h.2.2.1; rw [← h.2.2.2 i (by omega)]; exact k i (by omega)
    · intro k i hi; have := h.2.2.1; rw [h.2.2.2 i hi]; exact k i (by omega)
  unfold Pkt.inRange; rw [h.1, h.2.1, e]
theorem Pkt.same_routes {p q : Pkt} (h : p.same q) : p.routes = q.routes := by
  unfold Pkt.routes
  rw [h.2.2.1]
  apply List.map_congr_left
  intro i hi
  rw [h.2.2.2 i (by rw [h.2.2.1]; simpa using hi)]
theorem Pkt.same_bytes {p q : Pkt} (h : p.same q) : p.bytes = q.bytes := by
  unfold Pkt.bytes Pkt.body
  rw [Pkt.same_routes h, h.1, h.2.1, h.2.2.1]
theorem Pkt.same_err {p q : Pkt} (h : p.same q) : p.err = q.err := by
  unfold Pkt.err; rw [Pkt.same_inRange h, h.2.2.1]
theorem Pkt.same_text {p q : Pkt} (h : p.same q) : p.text = q.text := by
  unfold Pkt.text; rw [Pkt.same_err h, Pkt.same_bytes h]

/-- What bytes would be of. -/
def packet (l : List UInt8) : Pkt := ⟨((l.getD 1 0).toNat : Int), ((l.getD 2 0).toNat : Int), l.length - 6, fun i => ((l.getD (4 + i) 0).toNat : Int)⟩
def sealed (l : List UInt8) : Prop := sumOf (l.take (l.length - 2)) = 256 * (l.getD (l.length - 2) 0).toNat + (l.getD (l.length - 1) 0).toNat
def readErr (l : List UInt8) : Int := if 60 < l.length then 2 else if l.length < 6 then 1 else if (packet l).err = 0 ∧ (packet l).bytes = l then 0 else 1
/-- What is read of bytes: the packet, or the empty one. -/
def readOf (l : List UInt8) : Pkt := if readErr l = 0 then packet l else ⟨0, 0, 0, fun _ => 0⟩

theorem tailOf_iff {s : Nat} (h : s < 65521) (x y : UInt8) : tailOf s = [x, y] ↔ s = 256 * x.toNat + y.toNat := by
  have hx := x.toNat_lt
  have hy := y.toNat_lt
  unfold tailOf
  constructor
  · intro e
    injection e with e1 e2
    injection e2 with e2 _
    have h1 := congrArg UInt8.toNat e1
    have h2 := congrArg UInt8.toNat e2
    rw [UInt8.toNat_ofNat'] at h1 h2
    omega
  · intro e
    have h1 : UInt8.ofNat (s / 256) = x := by
      apply UInt8.toNat_inj.1
      rw [UInt8.toNat_ofNat']; omega
    have h2 : UInt8.ofNat (s % 256) = y := by
      apply UInt8.toNat_inj.1
      rw [UInt8.toNat_ofNat']; omega
    rw [h1, h2]

theorem split6 : ∀ (l : List UInt8), 6 ≤ l.length → ∃ a b c d r x y, l = [a, b, c, d] ++ r ++ [x, y] := by
  intro l h
  match l, h with
  | a :: b :: c :: d :: m, h =>
    have hm : 2 ≤ m.length := by simp at h; omega
    refine ⟨a, b, c, d, m.take (m.length - 2), m[m.length - 2], m[m.length - 1], ?_⟩
    have : m.drop (m.length - 2) = [m[m.length - 2], m[m.length - 1]] := by
      apply List.ext_getElem
      · simp; omega
      · intro i h1 h2
        simp at h2
        match i, h2 with
        | 0, _ => simp
        | 1, _ => simp; congr 1; omega
    rw [List.append_assoc, ← this, List.take_append_drop]
    rfl
theorem packet_split (a b c d : UInt8) (r : List UInt8) (x y : UInt8) : (packet ([a, b, c, d] ++ r ++ [x, y])).same ⟨(b.toNat : Int), (c.toNat : Int), r.length, fun i => ((r.getD i 0).toNat : Int)⟩ := by
  refine ⟨by simp [packet], by simp [packet], by simp [packet], ?_⟩
  intro i hi
  simp [packet] at hi
  have h2 : ([a, b, c, d] ++ r ++ [x, y]).getD (4 + i) 0 = r.getD i 0 := by
    have e : [a, b, c, d] ++ r ++ [x, y] = [a, b, c, d] ++ (r ++ [x, y]) := by simp
    rw [e, List.getD_eq_getElem?_getD, List.getElem?_append_right (by simp), List.getElem?_append_left (by simpa using hi), List.getD_eq_getElem?_getD]
    simp
  show (((([a, b, c, d] ++ r ++ [x, y]).getD (4 + i) 0).toNat : Nat) : Int) = _
  rw [h2]
theorem routes_list (r : List UInt8) (F T : Int) : (Pkt.mk F T r.length fun i => ((r.getD i 0).toNat : Int)).routes = r := by
  apply List.ext_getElem
  · simp [Pkt.routes]
  · intro i h1 h2
    simp only [Pkt.routes, List.getElem_map, List.getElem_range, u8_of]
    rw [List.getD_eq_getElem?_getD, List.getElem?_eq_getElem h2]; rfl

/-- What makes bytes a packet's. -/
theorem bytes_iff {a b c d : UInt8} {r : List UInt8} {x y : UInt8} (h : r.length ≤ 54) :
    (packet ([a, b, c, d] ++ r ++ [x, y])).bytes = [a, b, c, d] ++ r ++ [x, y] ↔ a = 83 ∧ d.toNat = r.length ∧ sumOf ([a, b, c, d] ++ r) = 256 * x.toNat + y.toNat := by
  rw [Pkt.same_bytes (packet_split a b c d r x y)]
  unfold Pkt.bytes Pkt.body
  rw [routes_list]
  simp only [u8_of]
  have hlen : (u8 (r.length : Int)).toNat = r.length := by
    have := u8_toNat (x := (r.length : Int)) (by omega) (by omega)
    omega
  constructor
  · intro e
    obtain ⟨e1, e2⟩ := List.append_inj' e (by simp [tailOf])
    simp only [List.cons_append, List.nil_append, List.cons.injEq] at e1
    obtain ⟨rfl, _, _, rfl, _⟩ := e1
    exact ⟨rfl, hlen, (tailOf_iff (sumOf_lt _) x y).1 e2⟩
  · rintro ⟨rfl, e, hs⟩
    have hd : u8 (r.length : Int) = d := UInt8.toNat_inj.1 (by rw [hlen, e])
    rw [hd, (tailOf_iff (sumOf_lt _) x y).2 hs]

theorem sealed_split (a b c d : UInt8) (r : List UInt8) (x y : UInt8) : sealed ([a, b, c, d] ++ r ++ [x, y]) ↔ sumOf ([a, b, c, d] ++ r) = 256 * x.toNat + y.toNat := by
  have e0 : ([a, b, c, d] ++ r ++ [x, y]).length = ([a, b, c, d] ++ r).length + 2 := by simp
  have e1 : ([a, b, c, d] ++ r ++ [x, y]).take (([a, b, c, d] ++ r ++ [x, y]).length - 2) = [a, b, c, d] ++ r := by
    rw [e0, Nat.add_sub_cancel, List.take_left]
  have e2 : ([a, b, c, d] ++ r ++ [x, y]).getD (([a, b, c, d] ++ r ++ [x, y]).length - 2) 0 = x := by
    rw [e0, Nat.add_sub_cancel, List.getD_eq_getElem?_getD, List.getElem?_append_right (Nat.le_refl _)]; simp
  have e3 : ([a, b, c, d] ++ r ++ [x, y]).getD (([a, b, c, d] ++ r ++ [x, y]).length - 1) 0 = y := by
    rw [e0, show ([a, b, c, d] ++ r).length + 2 - 1 = ([a, b, c, d] ++ r).length + 1 by omega, List.getD_eq_getElem?_getD, List.getElem?_append_right (by omega)]
    simp
  unfold sealed
  rw [e1, e2, e3]

theorem readErr_sealed {l : List UInt8} (h : readErr l = 0) : 6 ≤ l.length ∧ l.length ≤ 60 ∧ sealed l ∧ (packet l).err = 0 ∧ (packet l).bytes = l := by
  unfold readErr at h
  split at h
  · cases h
  · next h1 =>
    split at h
    · cases h
    · next h2 =>
      split at h
      · next h3 =>
        refine ⟨by omega, by omega, ?_, h3⟩
        obtain ⟨a, b, c, d, r, x, y, rfl⟩ := split6 l (by omega)
        rw [sealed_split]
        exact ((bytes_iff (by simp at h1; omega)).1 h3.2).2.2
      · cases h

theorem readErr_bytes {p : Pkt} (h : p.err = 0) : readErr p.bytes = 0 ∧ (packet p.bytes).same p := by
  obtain ⟨hr, hn⟩ := Pkt.err_ok h
  have hlen := p.bytes_length
  have hr0 := hr
  unfold Pkt.inRange inB at hr
  simp only [Bool.and_eq_true, decide_eq_true_eq] at hr
  have hi := Pkt.routesIn_iff.1 hr.2
  obtain ⟨x, y, ht⟩ : ∃ x y, tailOf (sumOf p.body) = [x, y] := ⟨_, _, rfl⟩
  have hb : p.bytes = [83, u8 p.F, u8 p.T, u8 p.n] ++ p.routes ++ [x, y] := by
    unfold Pkt.bytes; rw [ht]; rfl
  have hs : (packet p.bytes).same p := by
    rw [hb]
    have h1 := packet_split 83 (u8 p.F) (u8 p.T) (u8 p.n) p.routes x y
    refine ⟨h1.1.trans (u8_toNat hr.1.1.1 (by omega)), h1.2.1.trans (u8_toNat hr.1.2.1 (by omega)), h1.2.2.1.trans p.routes_length, ?_⟩
    intro i hi'
    rw [h1.2.2.2 i hi']
    have hn' : i < p.n := by have := h1.2.2.1; simp only [Pkt.routes_length] at this; omega
    show ((p.routes.getD i 0).toNat : Int) = p.R i
    rw [List.getD_eq_getElem?_getD, List.getElem?_eq_getElem (by rw [Pkt.routes_length]; exact hn')]
    simp only [Pkt.routes, Option.getD_some, List.getElem_map, List.getElem_range]
    exact u8_toNat (hi i hn').1 (by have := (hi i hn').2; omega)
  refine ⟨?_, hs⟩
  unfold readErr
  rw [if_neg (by omega), if_neg (by omega), if_pos ⟨by rw [Pkt.same_err hs]; exact h, Pkt.same_bytes hs⟩]

theorem sealed_set {l : List UInt8} {i : Nat} {c : UInt8} (h2 : 2 ≤ l.length) (h : sealed l) (hi : i < l.length) (hc : c ≠ l[i]) : ¬ sealed (l.set i c) := by
  intro h'
  unfold sealed at h h'
  rw [List.length_set] at h'
  by_cases hin : i < l.length - 2
  · have e1 : (l.set i c).take (l.length - 2) = (l.take (l.length - 2)).set i c := by rw [List.take_set]
    have e2 : (l.set i c).getD (l.length - 2) 0 = l.getD (l.length - 2) 0 := by
      rw [List.getD_eq_getElem?_getD, List.getElem?_set_ne (by omega), List.getD_eq_getElem?_getD]
    have e3 : (l.set i c).getD (l.length - 1) 0 = l.getD (l.length - 1) 0 := by
      rw [List.getD_eq_getElem?_getD, List.getElem?_set_ne (by omega), List.getD_eq_getElem?_getD]
    rw [e1, e2, e3] at h'
    have := sumFold_set (l.take (l.length - 2)) 1 i c (by simp; omega) (by decide) (by simpa using hc)
    exact this (h'.trans h.symm)
  · have e1 : (l.set i c).take (l.length - 2) = l.take (l.length - 2) := by
      rw [List.take_set, List.set_eq_of_length_le (by simp; omega)]
    rw [e1] at h'
    have hne : c.toNat ≠ (l[i]).toNat := fun e => hc (UInt8.toNat_inj.1 e)
    have b1 := c.toNat_lt
    have b2 := (l[i]).toNat_lt
    by_cases e : i = l.length - 2
    · have e2 : (l.set i c).getD (l.length - 2) 0 = c := by
        rw [← e, List.getD_eq_getElem?_getD, List.getElem?_set_self hi]; rfl
      have e2' : l.getD (l.length - 2) 0 = l[i] := by
        rw [← e, List.getD_eq_getElem?_getD, List.getElem?_eq_getElem hi]; rfl
      have e3 : (l.set i c).getD (l.length - 1) 0 = l.getD (l.length - 1) 0 := by
        rw [List.getD_eq_getElem?_getD, List.getElem?_set_ne (by omega), List.getD_eq_getElem?_getD]
      rw [e2, e3] at h'
      rw [e2'] at h
      omega
    · have e' : i = l.length - 1 := by omega
      have e2 : (l.set i c).getD (l.length - 1) 0 = c := by
        rw [← e', List.getD_eq_getElem?_getD, List.getElem?_set_self hi]; rfl
      have e2' : l.getD (l.length - 1) 0 = l[i] := by
        rw [← e', List.getD_eq_getElem?_getD, List.getElem?_eq_getElem hi]; rfl
      have e3 : (l.set i c).getD (l.length - 2) 0 = l.getD (l.length - 2) 0 := by
        rw [List.getD_eq_getElem?_getD, List.getElem?_set_ne (by omega), List.getD_eq_getElem?_getD]
      rw [e2, e3] at h'
      rw [e2'] at h
      omega

/-- With one byte turned it is read no more. -/
theorem turned_ne {p : Pkt} (h : p.err = 0) {i : Nat} {c : UInt8} (hi : i < p.bytes.length) (hc : c ≠ p.bytes[i]) : readErr (p.bytes.set i c) ≠ 0 := by
  intro e
  have h1 := readErr_sealed (readErr_bytes h).1
  exact sealed_set (by omega) h1.2.2.1 hi hc (readErr_sealed e).2.2.1

end Go.Proofs.Ytjhkadffaephmab

/-
  Packets in memory; wire.sum, wire.Write.
-/
namespace Go.Proofs.Ytjhkadffaephmab
set_option maxRecDepth 100000
open Go.RowKit

/-- Bytes in memory. -/
structure Bytes (a : Option Addr) (l : List UInt8) (b o : Nat) (w : World) : Prop where
  addr : 0 < l.length → a = some ⟨b, o, none⟩
  cell : ∀ (i : Nat) (h : i < l.length), w.cell? ⟨b, o + i, none⟩ = some (.int .u8 (l[i].toNat : Int))

def bytesL (l : List UInt8) : List Value := l.map fun b => Value.int .u8 (b.toNat : Int)
theorem bytesL_len (l : List UInt8) : (bytesL l).length = l.length := by simp [bytesL]
theorem bytesL_append (l m : List UInt8) : bytesL (l ++ m) = bytesL l ++ bytesL m := by simp [bytesL]
theorem bytesL_get {l : List UInt8} {i : Nat} (h : i < l.length) : (bytesL l)[i]? = some (.int .u8 (l[i].toNat : Int)) := by simp [bytesL, h]
def txt (l : List UInt8) : Value := .string ⟨l.toArray⟩

set_option maxHeartbeats 1000000 in
theorem sum_any (a : Option Addr) (l : List UInt8) (c b o : Nat) (w : World) (h : Bytes a l b o w) (hl : l.length ≤ 100) :
    Calls Try.prog 67 #[.slice a l.length c] w fun e w' => e = .returned (.int .i64 ((sumOf l : Nat) : Int)) ∧ w' = w := by
  have H := hide h
  have HE : Hid (sumOf (l.take l.length) = sumOf l) := hide (by rw [List.take_length])
  clear h
  go_enter Try.func67, Try.ntmps67
  go_wp2
  go_loop [3, 5, 8] (fun s _ i => ∃ k : Nat, k ≤ l.length ∧ i = .int .i64 k ∧ s = .int .i64 ((sumOf (l.take k) : Nat) : Int)) (fun _ _ i => l.length - (intOf i).toNat)
  case atStart => exact ⟨0, Nat.zero_le _, rfl, rfl⟩
  case round =>
    obtain ⟨k, hk, rfl, rfl⟩ := hrel
    by_cases hlt : k < l.length
    · have ha := H.out.addr (by omega)
      have hc := H.out.cell k hlt
      have hs := sumOf_lt (l.take k)
      have hb := (l[k]).toNat_lt
      have Hn : Hid (sumOf (l.take (k + 1)) = (31 * sumOf (l.take k) + (l[k]).toNat) % 65521) := hide (by rw [List.take_succ_eq_append_getElem hlt, sumOf_snoc]; rfl)
      generalize sumOf (l.take k) = s at *
      generalize (l[k]).toNat = bv at *
      have hki : (k : Int) < (l.length : Int) := by omega
      go_wp2
      go_round
      case rel => exact ⟨k + 1, by omega, by go_num, by rw [Hn.out]; go_num⟩
      case measure => simp [intOf]; omega
    · have hkn : k = l.length := by omega
      subst hkn
      rw [HE.out]
      go_wp2
      go_ret
      exact ⟨rfl, rfl⟩

theorem calls_write1 (args : Array Value) (W : World) : (callFunc 65 args).run Try.prog W = .ok (.enter 65 args) W := by rfl

set_option maxHeartbeats 400000 in
theorem write1_any (x : Int) (w : World) :
    Calls Try.prog 65 #[.int .i64 x] w fun e w' => e = .returned (.bool (!inB x)) ∧ w' = w := by
  by_cases h : x < 0
  · have Hv : Hid (inB x = false) := hide (by unfold inB; simp; omega)
    go_enter Try.func65, Try.ntmps65
    go_wp2
    go_ret
    exact ⟨by rw [Hv.out]; rfl, rfl⟩
  · by_cases h2 : 250 < x
    · have Hv : Hid (inB x = false) := hide (by unfold inB; simp; omega)
      go_enter Try.func65, Try.ntmps65
      go_wp2
      go_ret
      exact ⟨by rw [Hv.out]; simp, rfl⟩
    · have Hv : Hid (inB x = true) := hide (by unfold inB; simp; omega)
      go_enter Try.func65, Try.ntmps65
      go_wp2
      go_ret
      exact ⟨by rw [Hv.out]; simp, rfl⟩

/-- A packet in memory. -/
structure PktM where
  F : Int
  T : Int
  ra : Option Addr
  n : Nat
  rc : Nat
  rb : Nat
  ro : Nat
  R : Nat → Int
def PktM.cells (p : PktM) : Array Value := #[.int .i64 p.F, .int .i64 p.T, .slice p.ra p.n p.rc]
def PktM.val (p : PktM) : Value := .agg p.cells
def PktM.pkt (p : PktM) : Pkt := ⟨p.F, p.T, p.n, p.R⟩
structure PktM.In (p : PktM) (N : Nat) (w : World) : Prop where
  ints : Ints p.ra p.n p.rb p.ro p.R w
  lt : 0 < p.n → p.rb < N
  small : p.n ≤ 17592186044416
theorem PktM.In.below {p : PktM} {N k : Nat} {w w' : World} (h : p.In N w) (hb : Below k w w') (hk : N ≤ k) : p.In N w' := ⟨h.ints.below hb (fun h0 => Nat.lt_of_lt_of_le (h.lt h0) hk), h.lt, h.small⟩
theorem PktM.In.grown {p : PktM} {w w' : World} (h : p.In w.heap.size w) (hb : Below w.heap.size w w') : p.In w'.heap.size w' := ⟨(h.below hb (Nat.le_refl _)).ints, fun h0 => Nat.lt_of_lt_of_le (h.lt h0) hb.size, h.small⟩

theorem Pkt.routes_any (p : Pkt) : ((List.range p.n).any fun i => !inB (p.R i)) = !p.routesIn := by
  unfold Pkt.routesIn
  rw [List.all_eq_not_any_not, Bool.not_not]

theorem Try.infoByte : (Try.prog.info? 5).map (fun i => (i.zero, i.size, i.bytes)) = some (some (.int .u8 0), 1, 1) := by kernel_rfl
theorem wrap_u8 {x : Int} (h0 : 0 ≤ x) (h1 : x < 256) : IntKind.u8.wrap x = x := by
  simp [IntKind.wrap, IntKind.bits, IntKind.signed]; omega

end Go.Proofs.Ytjhkadffaephmab

/-
  wire.Write.
-/
namespace Go.Proofs.Ytjhkadffaephmab
set_option maxRecDepth 100000
open Go.RowKit

theorem bytes_of_row {w : World} {base : Nat} {l : List UInt8} {g cap n : Nat} (h : w.ownsRow base 5 1 (.slice (some ⟨g, 0, none⟩) n cap) n (bytesL l)) : Bytes (some ⟨g, 0, none⟩) l g 0 w where
  addr := fun _ => rfl
  cell := fun i hi => by
    have hl := h.1
    rw [bytesL_len] at hl
    have := h.cellAt i (by omega)
    rw [bytesL_get hi] at this
    simpa using this

def Pkt.part (p : Pkt) (k : Nat) : List UInt8 := [83, u8 p.F, u8 p.T, u8 p.n] ++ (List.range k).map fun i => u8 (p.R i)
theorem Pkt.part_succ (p : Pkt) (k : Nat) : p.part (k + 1) = p.part k ++ [u8 (p.R k)] := by
  simp [Pkt.part, List.range_succ]
theorem Pkt.part_end (p : Pkt) : p.part p.n = p.body := rfl
theorem Pkt.part_len (p : Pkt) (k : Nat) : (p.part k).length = 4 + k := by simp [Pkt.part]; omega

set_option maxHeartbeats 4000000 in
theorem write_any (p : PktM) (w : World) (h : p.In w.heap.size w) :
    Calls Try.prog 17 #[p.val] w fun e w' => e = .returned (.tuple #[txt p.pkt.text, .int .i64 p.pkt.err]) ∧ Below w.heap.size w w' := by
  have hB0 : Below w.heap.size w (w.alloc (.cells p.cells 24)) := (Below.refl _ w).alloc (Nat.le_refl _) _
  have b0 := Blk.new w p.cells 24
  have hcf := calls_write1
  have HC := hide (containsFunc_ints 65 #[] p.ra p.n p.rc p.rb p.ro p.R (fun i => !inB (p.R i)) _ (h.grown hB0).ints (h.grown hB0).lt calls_write1 (fun i W hi hB => by
    refine (write1_any (p.R i) W).mono ?_
    rintro e w' ⟨rfl, rfl⟩
    exact ⟨rfl, Below.refl _ _⟩))
  have hany := p.pkt.routes_any
  have e1 : p.pkt.n = p.n := rfl
  have e2 : p.pkt.R = p.R := rfl
  rw [e1, e2] at hany
  rw [hany] at HC
  have hlen := h.small
  have H := hide h
  have HF : Hid (p.pkt.inRange = (inB p.F && inB p.T && p.pkt.routesIn)) := hide rfl
  have Hbad : Hid (p.pkt.inRange = false → p.pkt.err = 3 ∧ p.pkt.text = []) := hide (fun e => by
    have : p.pkt.err = 3 := by unfold Pkt.err; rw [if_pos e]
    exact ⟨this, by unfold Pkt.text; rw [this]; rfl⟩)
  have HB0 := hide hB0
  clear h hany e1 e2 hB0
  simp only [PktM.val, PktM.cells] at *
  go_enter Try.func17, Try.ntmps17
  go_wp2_with fail
  refine (write1_any _ _).mono ?_
  rintro e w1 ⟨rfl, rfl⟩
  by_cases hF : inB p.F = true
  · rw [hF]
    go_wp2_with fail
    refine (write1_any _ _).mono ?_
    rintro e w1 ⟨rfl, rfl⟩
    by_cases hT : inB p.T = true
    · rw [hT]
      go_wp2_with fail
      go_at_call 66
      refine HC.out.mono ?_
      rintro e w2 ⟨rfl, hb2⟩
      have hB2 := HB0.out.trans (hb2.mono HB0.out.size)
      have b2 := b0.below hb2 b0.lt
      have x0 := b2.cell 0
      have x1 := b2.cell 1
      have x2 := b2.cell 2
      simp at x0 x1 x2
      by_cases hR : p.pkt.routesIn = true
      · rw [hR]
        have hin : p.pkt.inRange = true := by rw [HF.out, hF, hT, hR]; rfl
        by_cases hn : 60 < p.n + 6
        · have Hfin : Hid (p.pkt.err = 2 ∧ p.pkt.text = []) := hide (by
            have : p.pkt.err = 2 := by unfold Pkt.err; rw [if_neg (by simp [hin]), if_pos (show 60 < p.pkt.n + 6 from hn)]
            exact ⟨this, by unfold Pkt.text; rw [this]; rfl⟩)
          have hni : (60 : Int) < 4 + (p.n : Int) + 2 := by omega
          have HB2 := hide hB2
          clear hn hin hF hT hR hB2 hb2 HC HF Hbad b0 b2
          go_wp2
          go_ret2
          exact ⟨by rw [Hfin.out.1, Hfin.out.2]; rfl, HB2.out⟩
        · have Hok : Hid (p.pkt.err = 0) := hide (Pkt.err_of hin (show p.pkt.n + 6 ≤ 60 by show p.n + 6 ≤ 60; omega))
          have hni : ¬ (60 : Int) < 4 + (p.n : Int) + 2 := by omega
          have hFb : 0 ≤ p.F ∧ p.F ≤ 250 := by unfold inB at hF; simpa using hF
          have hTb : 0 ≤ p.T ∧ p.T ≤ 250 := by unfold inB at hT; simpa using hT
          have HRb := hide (Pkt.routesIn_iff.1 hR)
          have Hpart : Hid (bytesL (p.pkt.part 0) = [.int .u8 83, .int .u8 p.F, .int .u8 p.T, .int .u8 (p.n : Int)]) := hide (by
            show [Value.int .u8 83, .int .u8 ((u8 p.F).toNat : Int), .int .u8 ((u8 p.T).toNat : Int), .int .u8 ((u8 (p.n : Int)).toNat : Int)] = _
            rw [u8_toNat hFb.1 (by omega), u8_toNat hTb.1 (by omega), u8_toNat (by omega) (by omega)])
          have hn54 : p.n ≤ 54 := by omega
          have hn54i : (p.n : Int) ≤ 54 := by omega
          have y2 : ∀ o, (w2.alloc o).cell? ⟨w.heap.size, 2, none⟩ = some (.slice p.ra p.n p.rc) := fun o => (b2.alloc o).cell 2
          obtain ⟨i0, hi0, hz0, hz1, hz2⟩ := info_parts Try.infoByte
          have HB2 := hide hB2
          have HI := hide (H.out.grown hB2)
          clear hF hT hR hin hB2 hb2 HC HF Hbad b0 HB0 H
          go_wp2
          go_loopw [5, 7, 45] (fun v _ q wr => ∃ k : Nat, k ≤ p.n ∧ q = .int .i64 k ∧ Hid (wr.ownsRow w2.heap.size 5 1 v (4 + k) (bytesL (p.pkt.part k))) ∧ Hid (Below w2.heap.size w2 wr)) (fun _ _ q _ => p.n - (intOf q).toNat)
          case atStart =>
            refine ⟨0, Nat.zero_le _, rfl, hide ⟨by rw [bytesL_len, Pkt.part_len], Or.inr ⟨w2.heap.size, 4, _, rfl, Nat.le_refl _, heap_alloc_new _ _, Nat.le_refl _, by decide, rfl, ?_⟩⟩, hide ((Below.refl _ _).alloc (Nat.le_refl _) _)⟩
            rw [Hpart.out]; rfl
          case round =>
            obtain ⟨k, hk, rfl, Hown, HB⟩ := hrel
            by_cases hlt : k < p.n
            · have hI := HI.out.below HB.out (Nat.le_refl _)
              have ha := hI.ints.addr (by omega)
              have hc := hI.ints.cell k hlt
              have hrb := HRb.out k hlt
              have hrb1 : 0 ≤ p.R k := hrb.1
              have hrb2 : p.R k ≤ 250 := hrb.2
              have Hv : Hid (bytesL [u8 (p.R k)] = [.int .u8 (p.R k)]) := hide (by
                show [Value.int .u8 ((u8 (p.R k)).toNat : Int)] = _
                rw [u8_toNat hrb1 (by omega)])
              have hki : (k : Int) < (p.n : Int) := by omega
              clear hI hrb
              go_wp2_with (at_builtin; refine wpList_append_lies _ rfl _ _ _ rfl w2.heap.size 5 i0 _ 1 1 Try.underlying34 hi0 hz0 hz1 hz2 rfl (by decide) _ (4 + k) _ rfl (Hown.out.alloc _) ⟨wr.heap.size, 0, none⟩ 1 1 [.int .u8 (p.R k)] rfl rfl ?c1 ?c2 (by decide) ?c3 ?c4 ?c5 _ rfl ?_)
              all_goals try (case c1 => exact World.news_of_block (Blk.new' (by simp)))
              all_goals try (case c2 => simp [Value.oneCell'])
              all_goals try (case c3 => unfold maxLen; omega)
              all_goals try (case c4 => omega)
              all_goals try (case c5 => have := HB.out.size; simp; omega)
              intro g' cap w4 hown2 hgrow hat2 hlt2
              have HB4 := hide ((HB.out.alloc HB.out.size (.cells #[.int .u8 (p.R k)] 5)).trans (grown_below hgrow (fun g hg => (Hown.out.lt g hg).1) (by have := HB.out.size; simp; omega)))
              have Hown4 : Hid (w4.ownsRow w2.heap.size 5 1 (.slice (some ⟨g', 0, none⟩) (4 + k + 1) cap) (4 + (k + 1)) (bytesL (p.pkt.part (k + 1)))) := hide (by
                rw [Pkt.part_succ, bytesL_append, show p.pkt.R k = p.R k from rfl, Hv.out]; exact hown2)
              clear hown2 hgrow hat2 hlt2 HB Hown
              go_wp2
              go_roundw
              case rel =>
                first
                | exact ⟨k + 1, by omega, by go_num, Hown4, HB4⟩
                | ((try rw [← ha]); (repeat apply Exists.intro); refine ⟨?_, rfl⟩; exact ⟨k + 1, by omega, by go_num, Hown4, HB4⟩)
              case measure => simp [intOf]; omega
            · have hkn : k = p.n := by omega
              subst hkn
              rw [show p.pkt.part p.n = p.pkt.body from rfl] at Hown
              rcases Go.Joins.ownsRow_forms Hown.out with ⟨rfl, e0⟩ | ⟨gb, cap, rfl⟩
              · omega
              have hbl : p.pkt.body.length = 4 + p.n := by rw [Pkt.body_length, Nat.add_comm]; rfl
              have HS := hide (sum_any (some ⟨gb, 0, none⟩) p.pkt.body cap gb 0 wr (bytes_of_row Hown.out) (by omega))
              rw [hbl] at HS
              have hs := sumOf_lt p.pkt.body
              have Hbytes : Hid (p.pkt.bytes = p.pkt.body ++ [UInt8.ofNat (sumOf p.pkt.body / 256), UInt8.ofNat (sumOf p.pkt.body % 256)]) := hide rfl
              generalize sumOf p.pkt.body = s at *
              go_wp2_with fail
              go_at_call 67
              refine HS.out.mono ?_
              rintro e w3 ⟨rfl, rfl⟩
              have hs256 : (s : Int) / 256 < 256 := by omega
              have hs0 : 0 ≤ (s : Int) / 256 := by omega
              go_wp2_with (at_builtin; refine wpList_append_lies _ rfl _ _ _ rfl w2.heap.size 5 i0 _ 1 1 Try.underlying34 hi0 hz0 hz1 hz2 rfl (by decide) _ (4 + p.n) _ rfl (Hown.out.alloc _) ⟨w3.heap.size, 0, none⟩ 2 2 [.int .u8 ((s : Int) / 256), .int .u8 ((s : Int) % 256)] rfl rfl ?c1 ?c2 (by decide) ?c3 ?c4 ?c5 _ rfl ?_)
              all_goals try (case c1 => exact World.news_of_block (Blk.new' (by simp)))
              all_goals try (case c2 => simp [Value.oneCell'])
              all_goals try (case c3 => unfold maxLen; omega)
              all_goals try (case c4 => omega)
              all_goals try (case c5 => have := HB.out.size; simp; omega)
              intro g' cap' w4 hown2 hgrow hat2 hlt2
              have HB4 := hide ((HB.out.alloc HB.out.size (.cells #[.int .u8 ((s : Int) / 256), .int .u8 ((s : Int) % 256)] 5)).trans (grown_below hgrow (fun g hg => (Hown.out.lt g hg).1) (by have := HB.out.size; simp; omega)))
              have HB5 := hide (HB2.out.trans (HB4.out.mono HB2.out.size))
              have hown3 : w4.ownsRow w2.heap.size 5 1 (.slice (some ⟨g', 0, none⟩) (4 + p.n + 2) cap') (4 + p.n + 2) (bytesL p.pkt.bytes) := by
                have e2 : bytesL [UInt8.ofNat (s / 256), UInt8.ofNat (s % 256)] = [.int .u8 ((s : Int) / 256), .int .u8 ((s : Int) % 256)] := by
                  show [Value.int .u8 ((UInt8.ofNat (s / 256)).toNat : Int), .int .u8 ((UInt8.ofNat (s % 256)).toNat : Int)] = _
                  rw [UInt8.toNat_ofNat', UInt8.toNat_ofNat', Nat.mod_eq_of_lt (by omega), Nat.mod_eq_of_lt (by omega)]
                  rfl
                rw [Hbytes.out, bytesL_append, e2]; exact hown2
              have hlb : p.pkt.bytes.length = 4 + p.n + 2 := by rw [Pkt.bytes_length]; show p.n + 6 = _; omega
              have hconv := run_convert_bytes_back (P := Try.prog) w4 34 9 5 ⟨g', 0, none⟩ cap' p.pkt.bytes Try.underlying34 Try.underlying5 Try.underlying9 (fun j hj => by rw [Go.WideShapes.add_plain]; exact (bytes_of_row hown3).cell j hj)
              rw [hlb] at hconv
              have Hfin : Hid (p.pkt.err = 0 ∧ p.pkt.text = p.pkt.bytes) := hide ⟨Hok.out, by unfold Pkt.text; rw [if_pos Hok.out]⟩
              clear hown2 hgrow hat2 hlt2 HB Hown hown3 HB4 HB2 HI HRb Hpart Hbytes hlb
              go_wp2
              go_ret2
              exact ⟨by rw [Hfin.out.1, Hfin.out.2]; rfl, HB5.out⟩
      · have hR' : p.pkt.routesIn = false := by simpa using hR
        have Hfin := hide (Hbad.out (by rw [HF.out, hR', Bool.and_false]))
        rw [hR']
        have HB2 := hide hB2
        clear hF hT hR hR' hB2 hb2 HC HF Hbad b0 b2
        go_wp2
        go_ret2
        exact ⟨by rw [Hfin.out.1, Hfin.out.2]; rfl, HB2.out⟩
    · have hT' : inB p.T = false := by simpa using hT
      have Hfin := hide (Hbad.out (by rw [HF.out, hT', Bool.and_false, Bool.false_and]))
      rw [hT']
      clear hF hT hT' HC HF Hbad
      go_wp2
      go_ret2
      exact ⟨by rw [Hfin.out.1, Hfin.out.2]; rfl, HB0.out⟩
  · have hF' : inB p.F = false := by simpa using hF
    have Hfin := hide (Hbad.out (by rw [HF.out, hF', Bool.false_and, Bool.false_and]))
    rw [hF']
    clear hF hF' HC HF Hbad
    go_wp2
    go_ret2
    exact ⟨by rw [Hfin.out.1, Hfin.out.2]; rfl, HB0.out⟩

end Go.Proofs.Ytjhkadffaephmab
