/-
  Our own texts, bundled: a claim holds few files.
-/
import Derived.Test.YtjhkadffaephmabGreatCutEnginePlaysAD
import Derived.Laws.IdiomStrings
import Derived.Laws.DeepStrings4
import Derived.Test.YtjhkadffaephmabGreatCutEnginePlaysAC
/-
 Packets: plain mathematics. The sum of bytes; what is written; what is read; one byte turned.
-/
namespace Go.Proofs.YtjhkadffaephmabGreat

/-- A packet by its numbers. -/
structure Pkt where
 F : Int
 T : Int
 n : Nat
 R : Nat → Int

def u8 (x : Int) : UInt8 := UInt8.ofNat x.toNat
theorem u8_toNat {x : Int} (h0 : 0 ≤ x) (h1 : x < 256) : ((u8 x).toNat : Int) = x := by
 unfold u8
 rw [UInt8.toNat_ofNat']
 omega
theorem u8_of (b : UInt8) : u8 (b.toNat : Int) = b := by
 unfold u8
 rw [Int.toNat_natCast]
 exact UInt8.ofNat_toNat

def sumStep (s : Nat) (b : UInt8) : Nat := (31 * s + b.toNat) % 65521
def sumOf (l : List UInt8) : Nat := l.foldl sumStep 1
theorem sumStep_lt (s : Nat) (b : UInt8) : sumStep s b < 65521 := Nat.mod_lt _ (by decide)
theorem sumFold_lt : ∀ (l : List UInt8) (s : Nat), s < 65521 → l.foldl sumStep s < 65521
 | [], _, h => h
 | b :: l, s, _ => sumFold_lt l _ (sumStep_lt s b)
theorem sumOf_lt (l : List UInt8) : sumOf l < 65521 := sumFold_lt l 1 (by decide)
theorem sumOf_snoc (l : List UInt8) (b : UInt8) : sumOf (l ++ [b]) = sumStep (sumOf l) b := by
 simp [sumOf, List.foldl_append]
def inB (x : Int) : Bool := decide (0 ≤ x) && decide (x ≤ 250)
def Pkt.routesIn (p : Pkt) : Bool := (List.range p.n).all fun i => inB (p.R i)
theorem Pkt.routesIn_iff {p : Pkt} : p.routesIn = true ↔ ∀ i, i < p.n → 0 ≤ p.R i ∧ p.R i ≤ 250 := by
 simp [Pkt.routesIn, inB]
theorem Pkt.routesIn_false {p : Pkt} {i : Nat} (h : i < p.n) (hn : ¬ (0 ≤ p.R i ∧ p.R i ≤ 250)) : p.routesIn = false := by
 rw [Bool.eq_false_iff]; intro hw; exact hn (Pkt.routesIn_iff.1 hw i h)
def Pkt.inRange (p : Pkt) : Bool := inB p.F && inB p.T && p.routesIn
def Pkt.routes (p : Pkt) : List UInt8 := (List.range p.n).map fun i => u8 (p.R i)
def Pkt.body (p : Pkt) : List UInt8 := [83, u8 p.F, u8 p.T, u8 p.n] ++ p.routes
def tailOf (s : Nat) : List UInt8 := [UInt8.ofNat (s / 256), UInt8.ofNat (s % 256)]
def Pkt.bytes (p : Pkt) : List UInt8 := p.body ++ tailOf (sumOf p.body)
def Pkt.err (p : Pkt) : Int := if p.inRange = false then 3 else if 60 < p.n + 6 then 2 else 0
def Pkt.text (p : Pkt) : List UInt8 := if p.err = 0 then p.bytes else []
theorem Pkt.routes_length (p : Pkt) : p.routes.length = p.n := by simp [Pkt.routes]
theorem Pkt.body_length (p : Pkt) : p.body.length = p.n + 4 := by simp [Pkt.body, Pkt.routes_length]
theorem Pkt.bytes_length (p : Pkt) : p.bytes.length = p.n + 6 := by simp [Pkt.bytes, Pkt.body_length, tailOf]
theorem Pkt.err_ok {p : Pkt} (h : p.err = 0) : p.inRange = true ∧ p.n + 6 ≤ 60 := by
 unfold Pkt.err at h
 split at h
 ·cases h
 ·next h1 =>
  split at h
  ·cases h
  ·next h2 => exact ⟨by simpa using h1, by omega⟩
theorem Pkt.err_of {p : Pkt} (h : p.inRange = true) (h2 : p.n + 6 ≤ 60) : p.err = 0 := by
 unfold Pkt.err
 rw [if_neg (by simp [h]), if_neg (by omega)]

/-- Two packets that tell the same. -/
def Pkt.same (p q : Pkt) : Prop := p.F = q.F ∧ p.T = q.T ∧ p.n = q.n ∧ ∀ i, i < p.n → p.R i = q.R i
theorem Pkt.same_inRange {p q : Pkt} (h : p.same q) : p.inRange = q.inRange := by
 have e : p.routesIn = q.routesIn := by
  rw [Bool.eq_iff_iff, Pkt.routesIn_iff, Pkt.routesIn_iff]
  constructor
  ·intro k i hi; have := h.2.2.1; rw [← h.2.2.2 i (by omega)]; exact k i (by omega)
  ·intro k i hi; have := h.2.2.1; rw [h.2.2.2 i hi]; exact k i (by omega)
 unfold Pkt.inRange; rw [h.1, h.2.1, e]
theorem Pkt.same_routes {p q : Pkt} (h : p.same q) : p.routes = q.routes := by
 unfold Pkt.routes
 rw [h.2.2.1]
 apply List.map_congr_left
 intro i hi
 rw [h.2.2.2 i (by rw [h.2.2.1]; simpa using hi)]
theorem Pkt.same_bytes {p q : Pkt} (h : p.same q) : p.bytes = q.bytes := by
 unfold Pkt.bytes Pkt.body
 rw [Pkt.same_routes h, h.1, h.2.1, h.2.2.1]
theorem Pkt.same_err {p q : Pkt} (h : p.same q) : p.err = q.err := by
 unfold Pkt.err; rw [Pkt.same_inRange h, h.2.2.1]
theorem Pkt.same_text {p q : Pkt} (h : p.same q) : p.text = q.text := by
 unfold Pkt.text; rw [Pkt.same_err h, Pkt.same_bytes h]

/-- What bytes would be of. -/
def packet (l : List UInt8) : Pkt := ⟨((l.getD 1 0).toNat : Int), ((l.getD 2 0).toNat : Int), l.length - 6, fun i => ((l.getD (4 + i) 0).toNat : Int)⟩
def readErr (l : List UInt8) : Int := if 60 < l.length then 2 else if l.length < 6 then 1 else if (packet l).err = 0 ∧ (packet l).bytes = l then 0 else 1
/-- What is read of bytes: the packet, or the empty one. -/
def readOf (l : List UInt8) : Pkt := if readErr l = 0 then packet l else ⟨0, 0, 0, fun _ => 0⟩

theorem tailOf_iff {s : Nat} (h : s < 65521) (x y : UInt8) : tailOf s = [x, y] ↔ s = 256 * x.toNat + y.toNat := by
 have hx := x.toNat_lt
 have hy := y.toNat_lt
 unfold tailOf
 constructor
 ·intro e
  injection e with e1 e2
  injection e2 with e2 _
  have h1 := congrArg UInt8.toNat e1
  have h2 := congrArg UInt8.toNat e2
  rw [UInt8.toNat_ofNat'] at h1 h2
  omega
 ·intro e
  have h1 : UInt8.ofNat (s / 256) = x := by
   apply UInt8.toNat_inj.1
   rw [UInt8.toNat_ofNat']; omega
  have h2 : UInt8.ofNat (s % 256) = y := by
   apply UInt8.toNat_inj.1
   rw [UInt8.toNat_ofNat']; omega
  rw [h1, h2]

theorem split6 : ∀ (l : List UInt8), 6 ≤ l.length → ∃ a b c d r x y, l = [a, b, c, d] ++ r ++ [x, y] := by
 intro l h
 match l, h with
 | a :: b :: c :: d :: m, h =>
  have hm : 2 ≤ m.length := by simp at h; omega
  refine ⟨a, b, c, d, m.take (m.length - 2), m[m.length - 2], m[m.length - 1], ?_⟩
  have : m.drop (m.length - 2) = [m[m.length - 2], m[m.length - 1]] := by
   apply List.ext_getElem
   ·simp; omega
   ·intro i h1 h2
    simp at h2
    match i, h2 with
    | 0, _ => simp
    | 1, _ => simp; congr 1; omega
  rw [List.append_assoc, ← this, List.take_append_drop]
  rfl
theorem packet_split (a b c d : UInt8) (r : List UInt8) (x y : UInt8) : (packet ([a, b, c, d] ++ r ++ [x, y])).same ⟨(b.toNat : Int), (c.toNat : Int), r.length, fun i => ((r.getD i 0).toNat : Int)⟩ := by
 refine ⟨by simp [packet], by simp [packet], by simp [packet], ?_⟩
 intro i hi
 simp [packet] at hi
 have h2 : ([a, b, c, d] ++ r ++ [x, y]).getD (4 + i) 0 = r.getD i 0 := by
  have e : [a, b, c, d] ++ r ++ [x, y] = [a, b, c, d] ++ (r ++ [x, y]) := by simp
  rw [e, List.getD_eq_getElem?_getD, List.getElem?_append_right (by simp), List.getElem?_append_left (by simpa using hi), List.getD_eq_getElem?_getD]
  simp
 show (((([a, b, c, d] ++ r ++ [x, y]).getD (4 + i) 0).toNat : Nat) : Int) = _
 rw [h2]
theorem routes_list (r : List UInt8) (F T : Int) : (Pkt.mk F T r.length fun i => ((r.getD i 0).toNat : Int)).routes = r := by
 apply List.ext_getElem
 ·simp [Pkt.routes]
 ·intro i h1 h2
  simp only [Pkt.routes, List.getElem_map, List.getElem_range, u8_of]
  rw [List.getD_eq_getElem?_getD, List.getElem?_eq_getElem h2]; rfl

/-- What makes bytes a packet's. -/
theorem bytes_iff {a b c d : UInt8} {r : List UInt8} {x y : UInt8} (h : r.length ≤ 54) :
  (packet ([a, b, c, d] ++ r ++ [x, y])).bytes = [a, b, c, d] ++ r ++ [x, y] ↔ a = 83 ∧ d.toNat = r.length ∧ sumOf ([a, b, c, d] ++ r) = 256 * x.toNat + y.toNat := by
 rw [Pkt.same_bytes (packet_split a b c d r x y)]
 unfold Pkt.bytes Pkt.body
 rw [routes_list]
 simp only [u8_of]
 have hlen : (u8 (r.length : Int)).toNat = r.length := by
  have := u8_toNat (x := (r.length : Int)) (by omega) (by omega)
  omega
 constructor
 ·intro e
  obtain ⟨e1, e2⟩ := List.append_inj' e (by simp [tailOf])
  simp only [List.cons_append, List.nil_append, List.cons.injEq] at e1
  obtain ⟨rfl, _, _, rfl, _⟩ := e1
  exact ⟨rfl, hlen, (tailOf_iff (sumOf_lt _) x y).1 e2⟩
 ·rintro ⟨rfl, e, hs⟩
  have hd : u8 (r.length : Int) = d := UInt8.toNat_inj.1 (by rw [hlen, e])
  rw [hd, (tailOf_iff (sumOf_lt _) x y).2 hs]

end Go.Proofs.YtjhkadffaephmabGreat

/-
 Packets in memory; wire.sum, wire.Write.
-/
namespace Go.Proofs.YtjhkadffaephmabGreat
set_option maxRecDepth 100000
open Go.RowKit

/-- Bytes in memory. -/
structure Bytes (a : Option Addr) (l : List UInt8) (b o : Nat) (w : World) : Prop where
 addr : 0 < l.length → a = some ⟨b, o, none⟩
 cell : ∀ (i : Nat) (h : i < l.length), w.cell? ⟨b, o + i, none⟩ = some (.int .u8 (l[i].toNat : Int))

def bytesL (l : List UInt8) : List Value := l.map fun b => Value.int .u8 (b.toNat : Int)
theorem bytesL_len (l : List UInt8) : (bytesL l).length = l.length := by simp [bytesL]
theorem bytesL_append (l m : List UInt8) : bytesL (l ++ m) = bytesL l ++ bytesL m := by simp [bytesL]
theorem bytesL_get {l : List UInt8} {i : Nat} (h : i < l.length) : (bytesL l)[i]? = some (.int .u8 (l[i].toNat : Int)) := by simp [bytesL, h]
def txt (l : List UInt8) : Value := .string ⟨l.toArray⟩

set_option maxHeartbeats 1000000 in
theorem sum_any (a : Option Addr) (l : List UInt8) (c b o : Nat) (w : World) (h : Bytes a l b o w) (hl : l.length ≤ 100) :
  Calls Tryz.prog 92 #[.slice a l.length c] w fun e w' => e = .returned (.int .i64 ((sumOf l : Nat) : Int)) ∧ w' = w := by
 have H := hide h
 have HE : Hid (sumOf (l.take l.length) = sumOf l) := hide (by rw [List.take_length])
 clear h
 go_enter Tryz.func92, Tryz.ntmps92
 go_wp2
 go_loop [3, 5, 8] (fun s _ i => ∃ k : Nat, k ≤ l.length ∧ i = .int .i64 k ∧ s = .int .i64 ((sumOf (l.take k) : Nat) : Int)) (fun _ _ i => l.length - (intOf i).toNat)
 case atStart => exact ⟨0, Nat.zero_le _, rfl, rfl⟩
 case round =>
  obtain ⟨k, hk, rfl, rfl⟩ := hrel
  by_cases hlt : k < l.length
  ·have ha := H.out.addr (by omega)
   have hc := H.out.cell k hlt
   have hs := sumOf_lt (l.take k)
   have hb := (l[k]).toNat_lt
   have Hn : Hid (sumOf (l.take (k + 1)) = (31 * sumOf (l.take k) + (l[k]).toNat) % 65521) := hide (by rw [List.take_succ_eq_append_getElem hlt, sumOf_snoc]; rfl)
   generalize sumOf (l.take k) = s at *
   generalize (l[k]).toNat = bv at *
   have hki : (k : Int) < (l.length : Int) := by omega
   go_wp2
   go_round
   case rel => exact ⟨k + 1, by omega, by go_num, by rw [Hn.out]; go_num⟩
   case measure => simp [intOf]; omega
  ·have hkn : k = l.length := by omega
   subst hkn
   rw [HE.out]
   go_wp2
   go_ret
   exact ⟨rfl, rfl⟩

theorem calls_write1 (args : Array Value) (W : World) : (callFunc 91 args).run Tryz.prog W = .ok (.enter 91 args) W := by rfl

set_option maxHeartbeats 400000 in
theorem write1_any (x : Int) (w : World) :
  Calls Tryz.prog 91 #[.int .i64 x] w fun e w' => e = .returned (.bool (!inB x)) ∧ w' = w := by
 by_cases h : x < 0
 ·have Hv : Hid (inB x = false) := hide (by unfold inB; simp; omega)
  go_enter Tryz.func91, Tryz.ntmps91
  go_wp2
  go_ret
  exact ⟨by rw [Hv.out]; rfl, rfl⟩
 ·by_cases h2 : 250 < x
  ·have Hv : Hid (inB x = false) := hide (by unfold inB; simp; omega)
   go_enter Tryz.func91, Tryz.ntmps91
   go_wp2
   go_ret
   exact ⟨by rw [Hv.out]; simp, rfl⟩
  ·have Hv : Hid (inB x = true) := hide (by unfold inB; simp; omega)
   go_enter Tryz.func91, Tryz.ntmps91
   go_wp2
   go_ret
   exact ⟨by rw [Hv.out]; simp, rfl⟩

/-- A packet in memory. -/
structure PktM where
 F : Int
 T : Int
 ra : Option Addr
 n : Nat
 rc : Nat
 rb : Nat
 ro : Nat
 R : Nat → Int
def PktM.cells (p : PktM) : Array Value := #[.int .i64 p.F, .int .i64 p.T, .slice p.ra p.n p.rc]
def PktM.val (p : PktM) : Value := .agg p.cells
def PktM.pkt (p : PktM) : Pkt := ⟨p.F, p.T, p.n, p.R⟩
structure PktM.In (p : PktM) (N : Nat) (w : World) : Prop where
 ints : Ints p.ra p.n p.rb p.ro p.R w
 lt : 0 < p.n → p.rb < N
 small : p.n ≤ 17592186044416
theorem PktM.In.below {p : PktM} {N k : Nat} {w w' : World} (h : p.In N w) (hb : Below k w w') (hk : N ≤ k) : p.In N w' := ⟨h.ints.below hb (fun h0 => Nat.lt_of_lt_of_le (h.lt h0) hk), h.lt, h.small⟩
theorem PktM.In.grown {p : PktM} {w w' : World} (h : p.In w.heap.size w) (hb : Below w.heap.size w w') : p.In w'.heap.size w' := ⟨(h.below hb (Nat.le_refl _)).ints, fun h0 => Nat.lt_of_lt_of_le (h.lt h0) hb.size, h.small⟩

theorem Pkt.routes_any (p : Pkt) : ((List.range p.n).any fun i => !inB (p.R i)) = !p.routesIn := by
 unfold Pkt.routesIn
 rw [List.all_eq_not_any_not, Bool.not_not]

theorem Tryz.infoByte : (Tryz.prog.info? 5).map (fun i => (i.zero, i.size, i.bytes)) = some (some (.int .u8 0), 1, 1) := by kernel_rfl
theorem wrap_u8 {x : Int} (h0 : 0 ≤ x) (h1 : x < 256) : IntKind.u8.wrap x = x := by
 simp [IntKind.wrap, IntKind.bits, IntKind.signed]; omega

end Go.Proofs.YtjhkadffaephmabGreat

/-
 Schedules: plain mathematics. What nodes that look one at a time come to; cycles; strict algebras settle, whoever looks when.
-/
namespace Go.Proofs.YtjhkadffaephmabGreat

/-- A schedule by its numbers. -/
structure Sched where
 tn : Nat
 al : Nat → Nat
 act : Nat → Nat → Bool
 ages : Nat → Tab

section
variable {n : Net} {s : Sched}

end

end Go.Proofs.YtjhkadffaephmabGreat

/-
 Engines: plain mathematics. What events do; calm; strict algebras settle behind it.
-/
namespace Go.Proofs.YtjhkadffaephmabGreat

structure Mail where
 F : Int
 T : Int
 b : List UInt8

/-- An engine that passes Check, by its numbers: routes, who told whom, what, and what is on its way. -/
structure Eng where
 R : Nat → Nat → Int
 told : Nat → Nat → Bool
 D : Nat → Nat → Nat → Int
 bag : List Mail

/-- An event by its numbers. -/
structure Ev where
 kind : Int
 loc : Int
 b : Int
 c : Int
 n : Nat
 R : Nat → Int

def Eng.has (n : Net) (e : Eng) (i k j : Nat) : Int := if e.told i k = true then e.D i k j else n.a.size - 1
def Eng.look (n : Net) (e : Eng) (i : Nat) : Eng := { e with R := fun r j => if r = i then n.route i j (fun k => e.has n i k j) else e.R r j }
def Net.hearers (n : Net) (i : Nat) : List Nat := (List.range n.N).filter fun k => decide (0 ≤ n.edge k i)
def Eng.mail (n : Net) (e : Eng) (i k : Nat) : Mail := ⟨i, k, (Pkt.mk i k n.N (e.R i)).text⟩
def Eng.tick (n : Net) (e : Eng) (i : Nat) : Eng := { e.look n i with bag := e.bag ++ (n.hearers i).map fun k => (e.look n i).mail n i k }
def Eng.without (e : Eng) (k : Nat) : Eng := { e with bag := e.bag.eraseIdx k }
def Eng.tell (e : Eng) (i k : Nat) (f : Nat → Int) : Eng :=
 { e with told := fun a b => if a = i ∧ b = k then true else e.told a b, D := fun a b => if a = i ∧ b = k then f else e.D a b }
def Net.row (n : Net) (l : Nat) (f : Nat → Int) : Int := if (l : Int) ≠ n.nodes then 1 else if ((List.range l).all fun j => decide (0 ≤ f j) && decide (f j < n.a.size)) = false then 5 else 0
/-- Is it what a neighbour may have told? -/
def Net.heeds (n : Net) (m : Mail) : Prop := readErr m.b = 0 ∧ (packet m.b).F = m.F ∧ (packet m.b).T = m.T ∧ n.row (packet m.b).n (packet m.b).R = 0 ∧ 0 ≤ n.edge m.T m.F
instance (n : Net) (m : Mail) : Decidable (n.heeds m) := by unfold Net.heeds; exact inferInstance
def Eng.take (n : Net) (e : Eng) (m : Mail) : Eng := if n.heeds m then (e.tell m.T.toNat m.F.toNat (packet m.b).R).look n m.T.toNat else e
def noMail : Mail := ⟨0, 0, []⟩
def Eng.deliver (n : Net) (e : Eng) (k : Nat) : Eng := (e.without k).take n (e.bag.getD k noMail)
def Eng.twice (e : Eng) (k : Nat) : Eng := { e with bag := e.bag ++ [e.bag.getD k noMail] }
def Mail.spoil (m : Mail) (i : Nat) (c : UInt8) : Mail := { m with b := m.b.set i (m.b.getD i 0 ^^^ c) }
def Eng.spoil (e : Eng) (k i : Nat) (c : UInt8) : Eng := { e with bag := e.bag.set k ((e.bag.getD k noMail).spoil i c) }
def Eng.expire (n : Net) (e : Eng) (i k : Nat) : Eng := Eng.look n { e with told := fun a b => if a = i ∧ b = k then false else e.told a b } i
def Eng.restart (e : Eng) (i : Nat) (f : Nat → Int) : Eng :=
 { e with R := fun r => if r = i then f else e.R r, told := fun a b => if a = i then false else e.told a b }

def Eng.stepErr (n : Net) (e : Eng) (v : Ev) : Int :=
 if v.kind < 1 ∨ 7 < v.kind then 7
 else if 2 ≤ v.kind ∧ v.kind ≤ 5 then
  if v.loc < 0 ∨ (e.bag.length : Int) ≤ v.loc then 5
  else if v.kind = 3 then (if 120 ≤ e.bag.length then 2 else 0)
  else if v.kind = 5 then (if (v.b < 0 ∨ ((e.bag.getD v.loc.toNat noMail).b.length : Int) ≤ v.b) ∨ (v.c < 1 ∨ 255 < v.c) then 3 else 0)
  else 0
 else if v.loc < 0 ∨ n.nodes ≤ v.loc then 5
 else if v.kind = 1 then (if 120 < e.bag.length + (n.hearers v.loc.toNat).length then 2 else 0)
 else if v.kind = 6 then (if v.b < 0 ∨ n.nodes ≤ v.b then 5 else 0)
 else n.row v.n v.R
def Eng.step (n : Net) (e : Eng) (v : Ev) : Eng :=
 if v.kind = 1 then e.tick n v.loc.toNat
 else if v.kind = 2 then e.deliver n v.loc.toNat
 else if v.kind = 3 then e.twice v.loc.toNat
 else if v.kind = 4 then e.without v.loc.toNat
 else if v.kind = 5 then e.spoil v.loc.toNat v.b.toNat (u8 v.c)
 else if v.kind = 6 then e.expire n v.loc.toNat v.b.toNat
 else e.restart v.loc.toNat v.R
def Eng.play (n : Net) : Eng → List Ev → Eng × Nat
 | e, [] => (e, 0)
 | e, v :: l => if e.stepErr n v = 0 then ((Eng.play n (e.step n v) l).1, (Eng.play n (e.step n v) l).2 + 1) else (e, 0)
/-- So many come, the first one first. -/
def Eng.drain (n : Net) : Nat → Eng → Eng
 | 0, e => e
 | k + 1, e => Eng.drain n k (e.deliver n 0)
def Eng.comes (n : Net) (e : Eng) : Eng := e.drain n e.bag.length
/-- The first so many nodes tick. -/
def Eng.ticks (n : Net) (e : Eng) : Nat → Eng
 | 0 => e
 | k + 1 => (e.ticks n k).tick n k
def Eng.round (n : Net) (e : Eng) : Eng := (e.ticks n n.N).comes n
def Eng.rounds (n : Net) (e : Eng) : Nat → Eng
 | 0 => e
 | k + 1 => (e.rounds n k).round n
def Eng.calm (n : Net) (e : Eng) (k : Nat) : Eng := (e.comes n).rounds n k

theorem Net.row_zero {n : Net} {l : Nat} {f : Nat → Int} : n.row l f = 0 ↔ (l : Int) = n.nodes ∧ ∀ j, j < l → 0 ≤ f j ∧ f j < n.a.size := by
 unfold Net.row
 split
 ·next h => exact ⟨fun e => absurd e (by decide), fun e => absurd e.1 h⟩
 ·next h =>
  have h' : (l : Int) = n.nodes := by omega
  split
  ·next h2 =>
   refine ⟨fun e => absurd e (by decide), fun e => ?_⟩
   have : ((List.range l).all fun j => decide (0 ≤ f j) && decide (f j < n.a.size)) = true := by simp; exact e.2
   rw [this] at h2; cases h2
  ·next h2 =>
   refine ⟨fun _ => ⟨h', ?_⟩, fun _ => rfl⟩
   simpa using h2

/-- All that an engine holds are routes, and what is on its way is between nodes. -/
structure Eng.Fit (n : Net) (e : Eng) : Prop where
 R : n.State e.R
 D : ∀ i k j, i < n.N → k < n.N → j < n.N → e.told i k = true → 0 ≤ e.D i k j ∧ e.D i k j < n.a.size
 many : e.bag.length ≤ 120
 mail : ∀ m ∈ e.bag, (0 ≤ m.F ∧ m.F < n.nodes) ∧ (0 ≤ m.T ∧ m.T < n.nodes) ∧ m.b.length ≤ 60

section
variable {n : Net}

theorem Eng.Fit.has (g : n.Good) {e : Eng} (h : e.Fit n) {i j : Nat} (hi : i < n.N) (hj : j < n.N) : n.Routes (fun k => e.has n i k j) := fun k hk => by
 have lo := g.law.good.lo
 show 0 ≤ e.has n i k j ∧ e.has n i k j < n.a.size
 unfold Eng.has
 split
 ·next ht => exact h.D i k j hi hk hj ht
 ·omega
theorem Eng.Fit.look (g : n.Good) {e : Eng} (h : e.Fit n) {i : Nat} (hi : i < n.N) : (e.look n i).Fit n :=
 ⟨fun r j hr hj => by
  show 0 ≤ (if r = i then _ else _) ∧ (if r = i then _ else _) < _
  split
  ·exact n.route_in g (h.has g hi hj) i j
  ·exact h.R r j hr hj, h.D, h.many, h.mail⟩
theorem Eng.Fit.without {e : Eng} (h : e.Fit n) (k : Nat) : (e.without k).Fit n :=
 ⟨h.R, h.D, by have := h.many; have := List.length_eraseIdx_le e.bag k; show (e.bag.eraseIdx k).length ≤ 120; omega, fun m hm => h.mail m (List.mem_of_mem_eraseIdx hm)⟩
theorem Net.nodes_N (g : n.Good) : (n.N : Int) = n.nodes := by
 have := g.lo
 unfold Net.N; omega
theorem Eng.Fit.tell {e : Eng} (h : e.Fit n) {i k : Nat} {f : Nat → Int} (hf : ∀ j, j < n.N → 0 ≤ f j ∧ f j < n.a.size) : (e.tell i k f).Fit n :=
 ⟨h.R, fun a b j ha hb hj ht => by
  show 0 ≤ (if a = i ∧ b = k then f else e.D a b) j ∧ (if a = i ∧ b = k then f else e.D a b) j < _
  by_cases he : a = i ∧ b = k
  ·rw [if_pos he]; exact hf j hj
  ·rw [if_neg he]
   have ht' : (if a = i ∧ b = k then true else e.told a b) = true := ht
   rw [if_neg he] at ht'
   exact h.D a b j ha hb hj ht', h.many, h.mail⟩
theorem Net.edge_node (g : n.Good) {i k : Int} (h : 0 ≤ n.edge i k) : (0 ≤ i ∧ i < n.nodes) ∧ (0 ≤ k ∧ k < n.nodes) := by
 obtain ⟨l, hl, e1, e2, _⟩ := Net.link_edge h
 have := g.link l hl
 omega
theorem Eng.Fit.take (g : n.Good) {e : Eng} (h : e.Fit n) (m : Mail) : (e.take n m).Fit n := by
 unfold Eng.take
 split
 ·next hm =>
  have hn := n.nodes_N g
  have hr := Net.row_zero.1 hm.2.2.2.1
  have he := n.edge_node g hm.2.2.2.2
  exact (h.tell fun j hj => hr.2 j (by omega)).look g (by omega)
 ·exact h
theorem Eng.Fit.deliver (g : n.Good) {e : Eng} (h : e.Fit n) (k : Nat) : (e.deliver n k).Fit n := (h.without k).take g _
theorem Net.hearers_le (i : Nat) : (n.hearers i).length ≤ n.N := by
 have := List.length_filter_le (fun k : Nat => decide (0 ≤ n.edge k i)) (List.range n.N)
 simpa [Net.hearers] using this
theorem Net.mem_hearers {i k : Nat} : k ∈ n.hearers i ↔ k < n.N ∧ 0 ≤ n.edge k i := by simp [Net.hearers]
theorem Eng.mail_err (g : n.Good) {e : Eng} (h : e.Fit n) {i k : Nat} (hi : i < n.N) (hk : k < n.N) : (Pkt.mk i k n.N (e.R i)).err = 0 := by
 have hn := n.nodes_N g
 have h6 := g.hi
 have h24 := g.law.good.hi
 apply Pkt.err_of
 ·unfold Pkt.inRange inB
  simp only [Bool.and_eq_true, decide_eq_true_eq]
  exact ⟨⟨⟨by omega, by omega⟩, ⟨by omega, by omega⟩⟩, Pkt.routesIn_iff.2 fun j hj => by have := h.R i j hi hj; show 0 ≤ e.R i j ∧ e.R i j ≤ 250; omega⟩
 ·show n.N + 6 ≤ 60
  omega
theorem Eng.mail_text (g : n.Good) {e : Eng} (h : e.Fit n) {i k : Nat} (hi : i < n.N) (hk : k < n.N) : (e.mail n i k).b = (Pkt.mk i k n.N (e.R i)).bytes := by
 show (Pkt.mk i k n.N (e.R i)).text = _
 unfold Pkt.text; rw [if_pos (Eng.mail_err g h hi hk)]
theorem Eng.Fit.tick (g : n.Good) {e : Eng} (h : e.Fit n) {i : Nat} (hi : i < n.N) (hb : e.bag.length + (n.hearers i).length ≤ 120) : (e.tick n i).Fit n := by
 have hl := h.look g hi
 have hn := n.nodes_N g
 refine ⟨hl.R, hl.D, ?_, ?_⟩
 ·show (e.bag ++ (n.hearers i).map fun k => (e.look n i).mail n i k).length ≤ 120
  simp; exact hb
 ·intro m hm
  have hm' : m ∈ e.bag ++ (n.hearers i).map fun k => (e.look n i).mail n i k := hm
  rcases List.mem_append.1 hm' with h1 | h1
  ·exact h.mail m h1
  ·obtain ⟨k, hk, rfl⟩ := List.mem_map.1 h1
   have hk' := Net.mem_hearers.1 hk
   refine ⟨⟨by show 0 ≤ (i : Int); omega, by show (i : Int) < _; omega⟩, ⟨by show 0 ≤ (k : Int); omega, by show (k : Int) < _; omega⟩, ?_⟩
   rw [Eng.mail_text g hl hi hk'.1, Pkt.bytes_length]
   show n.N + 6 ≤ 60
   have := g.hi
   omega
theorem getD_mem {α : Type} {l : List α} {k : Nat} {d : α} (h : k < l.length) : l.getD k d ∈ l := by
 rw [List.getD_eq_getElem?_getD, List.getElem?_eq_getElem h]
 exact List.getElem_mem h
theorem Eng.Fit.step (g : n.Good) {e : Eng} (h : e.Fit n) {v : Ev} (hv : e.stepErr n v = 0) : (e.step n v).Fit n := by
 have hn := n.nodes_N g
 unfold Eng.stepErr at hv
 split at hv
 ·cases hv
 ·next hk =>
  unfold Eng.step
  split at hv
  ·next hm =>
   split at hv
   ·cases hv
   ·next hl =>
    have hloc : v.loc.toNat < e.bag.length := by omega
    rw [if_neg (by omega)]
    split
    ·exact h.deliver g _
    ·split
     ·next h3 =>
      rw [if_pos h3] at hv
      split at hv
      ·cases hv
      ·refine ⟨h.R, h.D, ?_, ?_⟩
       ·show (e.bag ++ [_]).length ≤ 120
        simp; omega
       ·intro m hm'
        rcases List.mem_append.1 (show m ∈ e.bag ++ [_] from hm') with h1 | h1
        ·exact h.mail m h1
        ·rw [List.mem_singleton.1 h1]; exact h.mail _ (getD_mem hloc)
     ·next h3 =>
      rw [if_neg h3] at hv
      split
      ·exact h.without _
      ·have h5 : v.kind = 5 := by omega
       rw [if_pos h5]
       refine ⟨h.R, h.D, ?_, ?_⟩
       ·show (e.bag.set _ _).length ≤ 120
        rw [List.length_set]; exact h.many
       ·intro m hm'
        rcases List.mem_or_eq_of_mem_set (show m ∈ e.bag.set _ _ from hm') with h1 | h1
        ·exact h.mail m h1
        ·subst h1
         have := h.mail _ (getD_mem (d := noMail) hloc)
         refine ⟨this.1, this.2.1, ?_⟩
         show (List.set _ _ _).length ≤ 60
         rw [List.length_set]; exact this.2.2
  ·next hm =>
   split at hv
   ·cases hv
   ·next hl =>
    have hloc : v.loc.toNat < n.N := by omega
    split
    ·next h1 =>
     rw [if_pos h1] at hv
     split at hv
     ·cases hv
     ·exact h.tick g hloc (by omega)
    ·next h1 =>
     rw [if_neg h1] at hv
     rw [if_neg (by omega), if_neg (by omega), if_neg (by omega), if_neg (by omega)]
     split
     ·next h6 =>
      refine Eng.Fit.look g (e := { e with told := fun a b => if a = v.loc.toNat ∧ b = v.b.toNat then false else e.told a b }) ⟨h.R, fun a b j ha hb hj ht => ?_, h.many, h.mail⟩ hloc
      have ht' : (if a = v.loc.toNat ∧ b = v.b.toNat then false else e.told a b) = true := ht
      split at ht'
      ·cases ht'
      ·exact h.D a b j ha hb hj ht'
     ·next h6 =>
      rw [if_neg h6] at hv
      have hr := Net.row_zero.1 hv
      refine ⟨fun r j hr' hj => ?_, fun a b j ha hb hj ht => ?_, h.many, h.mail⟩
      ·show 0 ≤ (if r = v.loc.toNat then v.R else e.R r) j ∧ (if r = v.loc.toNat then v.R else e.R r) j < _
       split
       ·exact hr.2 j (by omega)
       ·exact h.R r j hr' hj
      ·have ht' : (if a = v.loc.toNat then false else e.told a b) = true := ht
       split at ht'
       ·cases ht'
       ·exact h.D a b j ha hb hj ht'
theorem Eng.Fit.drain (g : n.Good) : ∀ (k : Nat) {e : Eng}, e.Fit n → (Eng.drain n k e).Fit n
 | 0, _, h => h
 | k + 1, _, h => Eng.Fit.drain g k (h.deliver g 0)
theorem Eng.take_bag (e : Eng) (m : Mail) : (e.take n m).bag = e.bag := by
 unfold Eng.take; split <;> rfl
theorem Eng.deliver_bag (e : Eng) (k : Nat) : (e.deliver n k).bag = e.bag.eraseIdx k := Eng.take_bag _ _
theorem Eng.drain_bag : ∀ (k : Nat) (e : Eng), (Eng.drain n k e).bag = e.bag.drop k
 | 0, e => by rw [List.drop_zero]; rfl
 | k + 1, e => by
  show (Eng.drain n k (e.deliver n 0)).bag = _
  rw [Eng.drain_bag k, Eng.deliver_bag]
  cases e.bag with
  | nil => simp
  | cons m l => rfl
theorem Eng.comes_bag (e : Eng) : (e.comes n).bag = [] := by
 unfold Eng.comes; rw [Eng.drain_bag]; simp
theorem Eng.Fit.comes (g : n.Good) {e : Eng} (h : e.Fit n) : (e.comes n).Fit n := h.drain g _
theorem Eng.ticks_bag (e : Eng) : ∀ k, (e.ticks n k).bag.length ≤ e.bag.length + k * n.N
 | 0 => by simp [Eng.ticks]
 | k + 1 => by
  have := Eng.ticks_bag e k
  have := Net.hearers_le (n := n) k
  show ((e.ticks n k).bag ++ (n.hearers k).map _).length ≤ _
  rw [List.length_append, List.length_map, Nat.succ_mul]; omega
theorem Net.ticks_room (g : n.Good) {k : Nat} (hk : k ≤ n.N) : k * n.N ≤ 36 := by
 have h6 := g.hi
 have hn := n.nodes_N g
 calc k * n.N ≤ 6 * 6 := Nat.mul_le_mul (by omega) (by omega)
  _ = 36 := rfl
theorem Eng.Fit.ticks (g : n.Good) {e : Eng} (h : e.Fit n) (hb : e.bag = []) : ∀ k, k ≤ n.N → (e.ticks n k).Fit n
 | 0, _ => h
 | k + 1, hk => by
  have h1 := Eng.ticks_bag (n := n) e k
  have h2 := Net.hearers_le (n := n) k
  have h3 := Net.ticks_room g hk
  rw [Nat.succ_mul] at h3
  rw [hb] at h1
  exact (Eng.Fit.ticks g h hb k (by omega)).tick g (by omega) (by simp at h1; omega)

theorem Eng.round_bag (e : Eng) : (e.round n).bag = [] := Eng.comes_bag _
theorem Eng.Fit.round (g : n.Good) {e : Eng} (h : e.Fit n) (hb : e.bag = []) : (e.round n).Fit n := (h.ticks g hb n.N (Nat.le_refl _)).comes g
theorem Eng.rounds_fit (g : n.Good) {e : Eng} (h : e.Fit n) (hb : e.bag = []) : ∀ k, (e.rounds n k).Fit n ∧ (e.rounds n k).bag = []
 | 0 => ⟨h, hb⟩
 | k + 1 => by
  obtain ⟨h1, h2⟩ := Eng.rounds_fit g h hb k
  exact ⟨h1.round g h2, Eng.round_bag _⟩
end

end Go.Proofs.YtjhkadffaephmabGreat

/-
 Engines in memory.
-/
namespace Go.Proofs.YtjhkadffaephmabGreat
set_option maxRecDepth 100000
open Go.RowKit

/-- A router in memory. -/
structure RtrM where
 ra : Option Addr
 rl : Nat
 rc : Nat
 rb : Nat
 ro : Nat
 R : Nat → Int
 T : Mat
def RtrM.cells (r : RtrM) : Array Value := #[.slice r.ra r.rl r.rc, r.T.val]
def RtrM.val (r : RtrM) : Value := .agg r.cells
structure RtrM.In (r : RtrM) (N : Nat) (w : World) : Prop where
 ints : Ints r.ra r.rl r.rb r.ro r.R w
 lt : 0 < r.rl → r.rb < N
 T : r.T.In N w
theorem RtrM.In.below {r : RtrM} {N k : Nat} {w w' : World} (h : r.In N w) (hb : Below k w w') (hk : N ≤ k) : r.In N w' :=
 ⟨h.ints.below hb (fun h0 => Nat.lt_of_lt_of_le (h.lt h0) hk), h.lt, h.T.below hb hk⟩
theorem RtrM.In.mono {r : RtrM} {N k : Nat} {w : World} (h : r.In N w) (hk : N ≤ k) : r.In k w := ⟨h.ints, fun h0 => Nat.lt_of_lt_of_le (h.lt h0) hk, h.T.mono hk⟩

/-- A list of routers in memory. -/
structure RtrsM where
 ga : Option Addr
 gn : Nat
 gc : Nat
 gb : Nat
 go : Nat
 r : Nat → RtrM
def RtrsM.val (x : RtrsM) : Value := .slice x.ga x.gn x.gc
structure RtrsM.In (x : RtrsM) (N : Nat) (w : World) : Prop where
 ga : 0 < x.gn → x.ga = some ⟨x.gb, x.go, none⟩
 gb : 0 < x.gn → x.gb < N
 c0 : ∀ i, i < x.gn → w.cell? ⟨x.gb, x.go + i * 2, none⟩ = some (.slice (x.r i).ra (x.r i).rl (x.r i).rc)
 c1 : ∀ i, i < x.gn → w.cell? ⟨x.gb, x.go + i * 2 + 1, none⟩ = some (.slice (x.r i).T.ga (x.r i).T.t.len (x.r i).T.cap)
 r : ∀ i, i < x.gn → (x.r i).In N w
 len : x.gn ≤ maxLen
theorem RtrsM.In.below {x : RtrsM} {N k : Nat} {w w' : World} (h : x.In N w) (hb : Below k w w') (hk : N ≤ k) : x.In N w' where
 ga := h.ga
 gb := h.gb
 c0 := fun i hi => by rw [hb.cell (p := ⟨x.gb, x.go + i * 2, none⟩) (Nat.lt_of_lt_of_le (h.gb (by omega)) hk)]; exact h.c0 i hi
 c1 := fun i hi => by rw [hb.cell (p := ⟨x.gb, x.go + i * 2 + 1, none⟩) (Nat.lt_of_lt_of_le (h.gb (by omega)) hk)]; exact h.c1 i hi
 r := fun i hi => (h.r i hi).below hb hk
 len := h.len
theorem RtrsM.In.mono {x : RtrsM} {N k : Nat} {w : World} (h : x.In N w) (hk : N ≤ k) : x.In k w :=
 ⟨h.ga, fun h0 => Nat.lt_of_lt_of_le (h.gb h0) hk, h.c0, h.c1, fun i hi => (h.r i hi).mono hk, h.len⟩
theorem RtrsM.In.grown {x : RtrsM} {w w' : World} (h : x.In w.heap.size w) (hb : Below w.heap.size w w') : x.In w'.heap.size w' := (h.below hb (Nat.le_refl _)).mono hb.size

/-- A list of mail in memory. -/
structure BagM where
 ba : Option Addr
 bn : Nat
 bc : Nat
 bb : Nat
 bo : Nat
 M : Nat → Mail
def BagM.val (x : BagM) : Value := .slice x.ba x.bn x.bc
structure BagM.In (x : BagM) (N : Nat) (w : World) : Prop where
 ba : 0 < x.bn → x.ba = some ⟨x.bb, x.bo, none⟩
 bb : 0 < x.bn → x.bb < N
 c0 : ∀ i, i < x.bn → w.cell? ⟨x.bb, x.bo + i * 3, none⟩ = some (.int .i64 (x.M i).F)
 c1 : ∀ i, i < x.bn → w.cell? ⟨x.bb, x.bo + i * 3 + 1, none⟩ = some (.int .i64 (x.M i).T)
 c2 : ∀ i, i < x.bn → w.cell? ⟨x.bb, x.bo + i * 3 + 2, none⟩ = some (.string ⟨(x.M i).b.toArray⟩)
 len : x.bn ≤ maxLen
 lens : ∀ i, i < x.bn → (x.M i).b.length ≤ maxLen
theorem BagM.In.below {x : BagM} {N k : Nat} {w w' : World} (h : x.In N w) (hb : Below k w w') (hk : N ≤ k) : x.In N w' where
 ba := h.ba
 bb := h.bb
 c0 := fun i hi => by rw [hb.cell (p := ⟨x.bb, x.bo + i * 3, none⟩) (Nat.lt_of_lt_of_le (h.bb (by omega)) hk)]; exact h.c0 i hi
 c1 := fun i hi => by rw [hb.cell (p := ⟨x.bb, x.bo + i * 3 + 1, none⟩) (Nat.lt_of_lt_of_le (h.bb (by omega)) hk)]; exact h.c1 i hi
 c2 := fun i hi => by rw [hb.cell (p := ⟨x.bb, x.bo + i * 3 + 2, none⟩) (Nat.lt_of_lt_of_le (h.bb (by omega)) hk)]; exact h.c2 i hi
 len := h.len
 lens := h.lens
theorem BagM.In.mono {x : BagM} {N k : Nat} {w : World} (h : x.In N w) (hk : N ≤ k) : x.In k w := ⟨h.ba, fun h0 => Nat.lt_of_lt_of_le (h.bb h0) hk, h.c0, h.c1, h.c2, h.len, h.lens⟩
theorem BagM.In.grown {x : BagM} {w w' : World} (h : x.In w.heap.size w) (hb : Below w.heap.size w w') : x.In w'.heap.size w' := (h.below hb (Nat.le_refl _)).mono hb.size

/-- An engine in memory. -/
structure EngM where
 rs : RtrsM
 bag : BagM
def EngM.cells (e : EngM) : Array Value := #[.slice e.rs.ga e.rs.gn e.rs.gc, .slice e.bag.ba e.bag.bn e.bag.bc]
def EngM.val (e : EngM) : Value := .agg e.cells
structure EngM.In (e : EngM) (N : Nat) (w : World) : Prop where
 rs : e.rs.In N w
 bag : e.bag.In N w
theorem EngM.In.below {e : EngM} {N k : Nat} {w w' : World} (h : e.In N w) (hb : Below k w w') (hk : N ≤ k) : e.In N w' := ⟨h.rs.below hb hk, h.bag.below hb hk⟩
theorem EngM.In.grown {e : EngM} {w w' : World} (h : e.In w.heap.size w) (hb : Below w.heap.size w w') : e.In w'.heap.size w' := ⟨h.rs.grown hb, h.bag.grown hb⟩

/-- Has a router what is told of each node? -/
def RtrM.shaped (r : RtrM) (n : Int) : Bool := ((r.rl : Int) == n) && ((r.T.t.len : Int) == n) && (List.range r.T.t.len).all fun k => !((r.T.t.L k : Int) != 0 && (r.T.t.L k : Int) != n)
/-- Are all that it holds routes? -/
def RtrM.sound (r : RtrM) (s : Int) : Bool := rowIn r.rl r.R s && (List.range r.T.t.len).all fun k => rowIn (r.T.t.L k) (r.T.t.Z k) s
def RtrsM.err (x : RtrsM) (n : Net) : Int :=
 if (x.gn : Int) ≠ n.nodes ∨ ((List.range x.gn).any fun i => !(x.r i).shaped n.nodes) = true then 1
 else if ((List.range x.gn).any fun i => !(x.r i).sound n.a.size) = true then 5 else 0
def BagM.err (x : BagM) (n : Net) : Int :=
 if 120 < x.bn then 2
 else if ((List.range x.bn).any fun i => !(decide (0 ≤ (x.M i).F) && decide ((x.M i).F < n.nodes)) || !(decide (0 ≤ (x.M i).T) && decide ((x.M i).T < n.nodes))) = true then 5
 else if ((List.range x.bn).any fun i => decide (60 < (x.M i).b.length)) = true then 2 else 0
def EngM.err (e : EngM) (n : Net) : Int := if n.check ≠ 0 then n.check else if e.rs.err n ≠ 0 then e.rs.err n else e.bag.err n
/-- What an engine that passes Check is. -/
def EngM.eng (e : EngM) : Eng := ⟨fun i => (e.rs.r i).R, fun i k => decide ((e.rs.r i).T.t.L k ≠ 0), fun i k => (e.rs.r i).T.t.Z k, (List.range e.bag.bn).map e.bag.M⟩

end Go.Proofs.YtjhkadffaephmabGreat
