/-
  Packets: plain mathematics. The sum of bytes; what is written; what is read; one byte turned.
-/
namespace Go.Proofs.Ytjhkadffaephmaa

/-- A packet by its numbers. -/
structure Pkt where
  F : Int
  T : Int
  n : Nat
  R : Nat → Int

def u8 (x : Int) : UInt8 := UInt8.ofNat x.toNat
theorem u8_toNat {x : Int} (h0 : 0 ≤ x) (h1 : x < 256) : ((u8 x).toNat : Int) = x := by
  unfold u8
  rw [UInt8.toNat_ofNat']
  omega
theorem u8_of (b : UInt8) : u8 (b.toNat : Int) = b := by
  unfold u8
  rw [Int.toNat_natCast]
  exact UInt8.ofNat_toNat

def sumStep (s : Nat) (b : UInt8) : Nat := (31 * s + b.toNat) % 65521
def sumOf (l : List UInt8) : Nat := l.foldl sumStep 1
theorem sumStep_lt (s : Nat) (b : UInt8) : sumStep s b < 65521 := Nat.mod_lt _ (by decide)
theorem sumFold_lt : ∀ (l : List UInt8) (s : Nat), s < 65521 → l.foldl sumStep s < 65521
  | [], _, h => h
  | b :: l, s, _ => sumFold_lt l _ (sumStep_lt s b)
theorem sumOf_lt (l : List UInt8) : sumOf l < 65521 := sumFold_lt l 1 (by decide)
theorem sumOf_snoc (l : List UInt8) (b : UInt8) : sumOf (l ++ [b]) = sumStep (sumOf l) b := by
  simp [sumOf, List.foldl_append]
theorem sumStep_inj {s t : Nat} {b : UInt8} (hs : s < 65521) (ht : t < 65521) (h : sumStep s b = sumStep t b) : s = t := by
  unfold sumStep at h; omega
theorem sumStep_ne {s : Nat} {a b : UInt8} (h : a ≠ b) : sumStep s a ≠ sumStep s b := by
  intro e
  apply h
  apply UInt8.toNat_inj.1
  have := a.toNat_lt
  have := b.toNat_lt
  unfold sumStep at e; omega
theorem sumFold_ne : ∀ (l : List UInt8) {s t : Nat}, s < 65521 → t < 65521 → s ≠ t → l.foldl sumStep s ≠ l.foldl sumStep t
  | [], _, _, _, _, h => h
  | b :: l, s, t, hs, ht, h => sumFold_ne l (sumStep_lt s b) (sumStep_lt t b) (fun e => h (sumStep_inj hs ht e))
theorem sumFold_set : ∀ (l : List UInt8) (s i : Nat) (c : UInt8) (hi : i < l.length), s < 65521 → c ≠ l[i] → (l.set i c).foldl sumStep s ≠ l.foldl sumStep s
  | [], _, _, _, hi, _, _ => absurd hi (Nat.not_lt_zero _)
  | b :: l, s, 0, c, _, _, h => sumFold_ne l (sumStep_lt s c) (sumStep_lt s b) (sumStep_ne h)
  | b :: l, s, i + 1, c, hi, hs, h => sumFold_set l _ i c (by simpa using hi) (sumStep_lt s b) (by simpa using h)

def inB (x : Int) : Bool := decide (0 ≤ x) && decide (x ≤ 250)
def Pkt.routesIn (p : Pkt) : Bool := (List.range p.n).all fun i => inB (p.R i)
theorem Pkt.routesIn_iff {p : Pkt} : p.routesIn = true ↔ ∀ i, i < p.n → 0 ≤ p.R i ∧ p.R i ≤ 250 := by
  simp [Pkt.routesIn, inB]
theorem Pkt.routesIn_false {p : Pkt} {i : Nat} (h : i < p.n) (hn : ¬ (0 ≤ p.R i ∧ p.R i ≤ 250)) : p.routesIn = false := by
  rw [Bool.eq_false_iff]; intro hw; exact hn (Pkt.routesIn_iff.1 hw i h)
def Pkt.inRange (p : Pkt) : Bool := inB p.F && inB p.T && p.routesIn
def Pkt.routes (p : Pkt) : List UInt8 := (List.range p.n).map fun i => u8 (p.R i)
def Pkt.body (p : Pkt) : List UInt8 := [83, u8 p.F, u8 p.T, u8 p.n] ++ p.routes
def tailOf (s : Nat) : List UInt8 := [UInt8.ofNat (s / 256), UInt8.ofNat (s % 256)]
def Pkt.bytes (p : Pkt) : List UInt8 := p.body ++ tailOf (sumOf p.body)
def Pkt.err (p : Pkt) : Int := if p.inRange = false then 3 else if 60 < p.n + 6 then 2 else 0
def Pkt.text (p : Pkt) : List UInt8 := if p.err = 0 then p.bytes else []
theorem Pkt.routes_length (p : Pkt) : p.routes.length = p.n := by simp [Pkt.routes]
theorem Pkt.body_length (p : Pkt) : p.body.length = p.n + 4 := by simp [Pkt.body, Pkt.routes_length]
theorem Pkt.bytes_length (p : Pkt) : p.bytes.length = p.n + 6 := by simp [Pkt.bytes, Pkt.body_length, tailOf]
theorem Pkt.err_ok {p : Pkt} (h : p.err = 0) : p.inRange = true ∧ p.n + 6 ≤ 60 := by
  unfold Pkt.err at h
  split at h
  · cases h
  · next h1 =>
    split at h
    · cases h
    · next h2 => exact ⟨by simpa using h1, by omega⟩
theorem Pkt.err_of {p : Pkt} (h : p.inRange = true) (h2 : p.n + 6 ≤ 60) : p.err = 0 := by
  unfold Pkt.err
  rw [if_neg (by simp [h]), if_neg (by omega)]

/-- Two packets that tell the same. -/
def Pkt.same (p q : Pkt) : Prop := p.F = q.F ∧ p.T = q.T ∧ p.n = q.n ∧ ∀ i, i < p.n → p.R i = q.R i
theorem Pkt.same_inRange {p q : Pkt} (h : p.same q) : p.inRange = q.inRange := by
  have e : p.routesIn = q.routesIn := by
    rw [Bool.eq_iff_iff, Pkt.routesIn_iff, Pkt.routesIn_iff]
    constructor
    · intro k i hi; have := h.2.2.1; rw [← h.2.2.2 i (by omega)]; exact k i (by omega)
    · intro k i hi; have := h.2.2.1; rw [h.2.2.2 i hi]; exact k i (by omega)
  unfold Pkt.inRange; rw [h.1, h.2.1, e]
theorem Pkt.same_routes {p q : Pkt} (h : p.same q) : p.routes = q.routes := by
  unfold Pkt.routes
  rw [h.2.2.1]
  apply List.map_congr_left
  intro i hi
  rw [h.2.2.2 i (by rw [h.2.2.1]; simpa using hi)]
theorem Pkt.same_bytes {p q : Pkt} (h : p.same q) : p.bytes = q.bytes := by
  unfold Pkt.bytes Pkt.body
  rw [Pkt.same_routes h, h.1, h.2.1, h.2.2.1]
theorem Pkt.same_err {p q : Pkt} (h : p.same q) : p.err = q.err := by
  unfold Pkt.err; rw [Pkt.same_inRange h, h.2.2.1]
theorem Pkt.same_text {p q : Pkt} (h : p.same q) : p.text = q.text := by
  unfold Pkt.text; rw [Pkt.same_err h, Pkt.same_bytes h]

/-- What bytes would be of. -/
def packet (l : List UInt8) : Pkt := ⟨((l.getD 1 0).toNat : Int), ((l.getD 2 0).toNat : Int), l.length - 6, fun i => ((l.getD (4 + i) 0).toNat : Int)⟩
def sealed (l : List UInt8) : Prop := sumOf (l.take (l.length - 2)) = 256 * (l.getD (l.length - 2) 0).toNat + (l.getD (l.length - 1) 0).toNat
def readErr (l : List UInt8) : Int := if 60 < l.length then 2 else if l.length < 6 then 1 else if (packet l).err = 0 ∧ (packet l).bytes = l then 0 else 1
/-- What is read of bytes: the packet, or the empty one. -/
def readOf (l : List UInt8) : Pkt := if readErr l = 0 then packet l else ⟨0, 0, 0, fun _ => 0⟩

theorem tailOf_iff {s : Nat} (h : s < 65521) (x y : UInt8) : tailOf s = [x, y] ↔ s = 256 * x.toNat + y.toNat := by
  have hx := x.toNat_lt
  have hy := y.toNat_lt
  unfold tailOf
  constructor
  · intro e
    injection e with e1 e2
    injection e2 with e2 _
    have h1 := congrArg UInt8.toNat e1
    have h2 := congrArg UInt8.toNat e2
    rw [UInt8.toNat_ofNat'] at h1 h2
    omega
  · intro e
    have h1 : UInt8.ofNat (s / 256) = x := by
      apply UInt8.toNat_inj.1
      rw [UInt8.toNat_ofNat']; omega
    have h2 : UInt8.ofNat (s % 256) = y := by
      apply UInt8.toNat_inj.1
      rw [UInt8.toNat_ofNat']; omega
    rw [h1, h2]

theorem split6 : ∀ (l : List UInt8), 6 ≤ l.length → ∃ a b c d r x y, l = [a, b, c, d] ++ r ++ [x, y] := by
  intro l h
  match l, h with
  | a :: b :: c :: d :: m, h =>
    have hm : 2 ≤ m.length := by simp at h; omega
    refine ⟨a, b, c, d, m.take (m.length - 2), m[m.length - 2], m[m.length - 1], ?_⟩
    have : m.drop (m.length - 2) = [m[m.length - 2], m[m.length - 1]] := by
      apply List.ext_getElem
      · simp; omega
      · intro i h1 h2
        simp at h2
        match i, h2 with
        | 0, _ => simp
        | 1, _ => simp; congr 1; omega
    rw [List.append_assoc, ← this, List.take_append_drop]
    rfl
theorem packet_split (a b c d : UInt8) (r : List UInt8) (x y : UInt8) : (packet ([a, b, c, d] ++ r ++ [x, y])).same ⟨(b.toNat : Int), (c.toNat : Int), r.length, fun i => ((r.getD i 0).toNat : Int)⟩ := by
  refine ⟨by simp [packet], by simp [packet], by simp [packet], ?_⟩
  intro i hi
  simp [packet] at hi
  have h2 : ([a, b, c, d] ++ r ++ [x, y]).getD (4 + i) 0 = r.getD i 0 := by
    have e : [a, b, c, d] ++ r ++ [x, y] = [a, b, c, d] ++ (r ++ [x, y]) := by simp
    rw [e, List.getD_eq_getElem?_getD, List.getElem?_append_right (by simp), List.getElem?_append_left (by simpa using hi), List.getD_eq_getElem?_getD]
    simp
  show (((([a, b, c, d] ++ r ++ [x, y]).getD (4 + i) 0).toNat : Nat) : Int) = _
  rw [h2]
theorem routes_list (r : List UInt8) (F T : Int) : (Pkt.mk F T r.length fun i => ((r.getD i 0).toNat : Int)).routes = r := by
  apply List.ext_getElem
  · simp [Pkt.routes]
  · intro i h1 h2
    simp only [Pkt.routes, List.getElem_map, List.getElem_range, u8_of]
    rw [List.getD_eq_getElem?_getD, List.getElem?_eq_getElem h2]; rfl

/-- What makes bytes a packet's. -/
theorem bytes_iff {a b c d : UInt8} {r : List UInt8} {x y : UInt8} (h : r.length ≤ 54) :
    (packet ([a, b, c, d] ++ r ++ [x, y])).bytes = [a, b, c, d] ++ r ++ [x, y] ↔ a = 83 ∧ d.toNat = r.length ∧ sumOf ([a, b, c, d] ++ r) = 256 * x.toNat + y.toNat := by
  rw [Pkt.same_bytes (packet_split a b c d r x y)]
  unfold Pkt.bytes Pkt.body
  rw [routes_list]
  simp only [u8_of]
  have hlen : (u8 (r.length : Int)).toNat = r.length := by
    have := u8_toNat (x := (r.length : Int)) (by omega) (by omega)
    omega
  constructor
  · intro e
    obtain ⟨e1, e2⟩ := List.append_inj' e (by simp [tailOf])
    simp only [List.cons_append, List.nil_append, List.cons.injEq] at e1
    obtain ⟨rfl, _, _, rfl, _⟩ := e1
    exact ⟨rfl, hlen, (tailOf_iff (sumOf_lt _) x y).1 e2⟩
  · rintro ⟨rfl, e, hs⟩
    have hd : u8 (r.length : Int) = d := UInt8.toNat_inj.1 (by rw [hlen, e])
    rw [hd, (tailOf_iff (sumOf_lt _) x y).2 hs]

theorem sealed_split (a b c d : UInt8) (r : List UInt8) (x y : UInt8) : sealed ([a, b, c, d] ++ r ++ [x, y]) ↔ sumOf ([a, b, c, d] ++ r) = 256 * x.toNat + y.toNat := by
  have e0 : ([a, b, c, d] ++ r ++ [x, y]).length = ([a, b, c, d] ++ r).length + 2 := by simp
  have e1 : ([a, b, c, d] ++ r ++ [x, y]).take (([a, b, c, d] ++ r ++ [x, y]).length - 2) = [a, b, c, d] ++ r := by
    rw [e0, Nat.add_sub_cancel, List.take_left]
  have e2 : ([a, b, c, d] ++ r ++ [x, y]).getD (([a, b, c, d] ++ r ++ [x, y]).length - 2) 0 = x := by
    rw [e0, Nat.add_sub_cancel, List.getD_eq_getElem?_getD, List.getElem?_append_right (Nat.le_refl _)]; simp
  have e3 : ([a, b, c, d] ++ r ++ [x, y]).getD (([a, b, c, d] ++ r ++ [x, y]).length - 1) 0 = y := by
    rw [e0, show ([a, b, c, d] ++ r).length + 2 - 1 = ([a, b, c, d] ++ r).length + 1 by omega, List.getD_eq_getElem?_getD, List.getElem?_append_right (by omega)]
    simp
  unfold sealed
  rw [e1, e2, e3]

theorem readErr_sealed {l : List UInt8} (h : readErr l = 0) : 6 ≤ l.length ∧ l.length ≤ 60 ∧ sealed l ∧ (packet l).err = 0 ∧ (packet l).bytes = l := by
  unfold readErr at h
  split at h
  · cases h
  · next h1 =>
    split at h
    · cases h
    · next h2 =>
      split at h
      · next h3 =>
        refine ⟨by omega, by omega, ?_, h3⟩
        obtain ⟨a, b, c, d, r, x, y, rfl⟩ := split6 l (by omega)
        rw [sealed_split]
        exact ((bytes_iff (by simp at h1; omega)).1 h3.2).2.2
      · cases h

theorem readErr_bytes {p : Pkt} (h : p.err = 0) : readErr p.bytes = 0 ∧ (packet p.bytes).same p := by
  obtain ⟨hr, hn⟩ := Pkt.err_ok h
  have hlen := p.bytes_length
  have hr0 := hr
  unfold Pkt.inRange inB at hr
  simp only [Bool.and_eq_true, decide_eq_true_eq] at hr
  have hi := Pkt.routesIn_iff.1 hr.2
  obtain ⟨x, y, ht⟩ : ∃ x y, tailOf (sumOf p.body) = [x, y] := ⟨_, _, rfl⟩
  have hb : p.bytes = [83, u8 p.F, u8 p.T, u8 p.n] ++ p.routes ++ [x, y] := by
    unfold Pkt.bytes; rw [ht]; rfl
  have hs : (packet p.bytes).same p := by
    rw [hb]
    have h1 := packet_split 83 (u8 p.F) (u8 p.T) (u8 p.n) p.routes x y
    refine ⟨h1.1.trans (u8_toNat hr.1.1.1 (by omega)), h1.2.1.trans (u8_toNat hr.1.2.1 (by omega)), h1.2.2.1.trans p.routes_length, ?_⟩
    intro i hi'
    rw [h1.2.2.2 i hi']
    have hn' : i < p.n := by have := h1.2.2.1; simp only [Pkt.routes_length] at this; omega
    show ((p.routes.getD i 0).toNat : Int) = p.R i
    rw [List.getD_eq_getElem?_getD, List.getElem?_eq_getElem (by rw [Pkt.routes_length]; exact hn')]
    simp only [Pkt.routes, Option.getD_some, List.getElem_map, List.getElem_range]
    exact u8_toNat (hi i hn').1 (by have := (hi i hn').2; omega)
  refine ⟨?_, hs⟩
  unfold readErr
  rw [if_neg (by omega), if_neg (by omega), if_pos ⟨by rw [Pkt.same_err hs]; exact h, Pkt.same_bytes hs⟩]

theorem sealed_set {l : List UInt8} {i : Nat} {c : UInt8} (h2 : 2 ≤ l.length) (h : sealed l) (hi : i < l.length) (hc : c ≠ l[i]) : ¬ sealed (l.set i c) := by
  intro h'
  unfold sealed at h h'
  rw [List.length_set] at h'
  by_cases hin : i < l.length - 2
  · have e1 : (l.set i c).take (l.length - 2) = (l.take (l.length - 2)).set i c := by rw [List.take_set]
    have e2 : (l.set i c).getD (l.length - 2) 0 = l.getD (l.length - 2) 0 := by
      rw [List.getD_eq_getElem?_getD, List.getElem?_set_ne (by omega), List.getD_eq_getElem?_getD]
    have e3 : (l.set i c).getD (l.length - 1) 0 = l.getD (l.length - 1) 0 := by
      rw [List.getD_eq_getElem?_getD, List.getElem?_set_ne (by omega), List.getD_eq_getElem?_getD]
    rw [e1, e2, e3] at h'
    have := sumFold_set (l.take (l.length - 2)) 1 i c (by simp; omega) (by decide) (by simpa using hc)
    exact this (h'.trans h.symm)
  · have e1 : (l.set i c).take (l.length - 2) = l.take (l.length - 2) := by
      rw [List.take_set, List.set_eq_of_length_le (by simp; omega)]
    rw [e1] at h'
    have hne : c.toNat ≠ (l[i]).toNat := fun e => hc (UInt8.toNat_inj.1 e)
    have b1 := c.toNat_lt
    have b2 := (l[i]).toNat_lt
    by_cases e : i = l.length - 2
    · have e2 : (l.set i c).getD (l.length - 2) 0 = c := by
        rw [← e, List.getD_eq_getElem?_getD, List.getElem?_set_self hi]; rfl
      have e2' : l.getD (l.length - 2) 0 = l[i] := by
        rw [← e, List.getD_eq_getElem?_getD, List.getElem?_eq_getElem hi]; rfl
      have e3 : (l.set i c).getD (l.length - 1) 0 = l.getD (l.length - 1) 0 := by
        rw [List.getD_eq_getElem?_getD, List.getElem?_set_ne (by omega), List.getD_eq_getElem?_getD]
      rw [e2, e3] at h'
      rw [e2'] at h
      omega
    · have e' : i = l.length - 1 := by omega
      have e2 : (l.set i c).getD (l.length - 1) 0 = c := by
        rw [← e', List.getD_eq_getElem?_getD, List.getElem?_set_self hi]; rfl
      have e2' : l.getD (l.length - 1) 0 = l[i] := by
        rw [← e', List.getD_eq_getElem?_getD, List.getElem?_eq_getElem hi]; rfl
      have e3 : (l.set i c).getD (l.length - 2) 0 = l.getD (l.length - 2) 0 := by
        rw [List.getD_eq_getElem?_getD, List.getElem?_set_ne (by omega), List.getD_eq_getElem?_getD]
      rw [e2, e3] at h'
      rw [e2'] at h
      omega

/-- With one byte turned it is read no more. -/
theorem turned_ne {p : Pkt} (h : p.err = 0) {i : Nat} {c : UInt8} (hi : i < p.bytes.length) (hc : c ≠ p.bytes[i]) : readErr (p.bytes.set i c) ≠ 0 := by
  intro e
  have h1 := readErr_sealed (readErr_bytes h).1
  exact sealed_set (by omega) h1.2.2.1 hi hc (readErr_sealed e).2.2.1

end Go.Proofs.Ytjhkadffaephmaa
