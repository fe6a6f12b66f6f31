/-
  Chapter 4, said plainly: how units and heads are laid and read.
-/
import Derived.Test.YtmcobkcnpnfobaaGreatDkSpec
import Derived.Test.YtmcobkcnpnfobaaGreatCrcSpec
import Derived.Test.YtmcobkcnpnfobaaGreatDe
namespace Go.Proofs.YtmcobkcnpnfobaaGreat
open Go.RowKit
set_option linter.unusedSimpArgs false
set_option linter.unusedVariables false

namespace Wal

def mark : List UInt8 := [76, 79, 67, 75, 83, 77, 84, 72]
def secsOf (n : Nat) : Nat := (n + 63) / 64
def fill (bs : List UInt8) : List UInt8 := bs ++ List.replicate (secsOf bs.length * 64 - bs.length) 0
def size (u : List UInt8) : Nat := secsOf (8 + u.length)
def front (u : List UInt8) : List UInt8 := be 4 u.length ++ be 4 (Crc.more 0 u)
def lay (u : List UInt8) : List UInt8 := fill (front u ++ u)

structure Hd where
  epoch : Nat
  area : Nat
  used : Nat

def Hd.raw (h : Hd) : List UInt8 := mark ++ be 8 h.epoch ++ be 4 h.area ++ be 4 h.used
def Hd.lay (h : Hd) : List UInt8 := fill (h.raw ++ be 4 (Crc.more 0 h.raw))
def Hd.zero : Hd := ⟨0, 0, 0⟩

theorem secsOf_ge (n : Nat) : n ≤ secsOf n * 64 := by unfold secsOf; omega
theorem secsOf_lt (n : Nat) : secsOf n * 64 < n + 64 := by unfold secsOf; omega

theorem fill_length (bs : List UInt8) : (fill bs).length = secsOf bs.length * 64 := by
  have := secsOf_ge bs.length
  simp [fill]; omega
theorem front_length (u : List UInt8) : (front u).length = 8 := by simp [front, be_length]
theorem lay_length (u : List UInt8) : (lay u).length = size u * 64 := by rw [lay, fill_length, List.length_append, front_length]; rfl
theorem mark_length : mark.length = 8 := rfl
theorem Hd.raw_length (h : Hd) : h.raw.length = 24 := by simp [Hd.raw, be_length, mark_length]
theorem Hd.lay_length (h : Hd) : h.lay.length = 64 := by rw [Hd.lay, fill_length]; simp [be_length, Hd.raw_length, secsOf]
theorem size_pos (u : List UInt8) : 1 ≤ size u := by unfold size secsOf; omega

/-- the bytes of a sector's head: its numbers -/
def hdOf (bs : List UInt8) : Hd := ⟨de ((bs.drop 8).take 8), de ((bs.drop 16).take 4), de ((bs.drop 20).take 4)⟩

/-- is the sector a right head? -/
def headIn (half : Nat) (s : Option (List UInt8)) : Option Hd := match s with
  | none => none
  | some bs => if (hdOf bs).area < 2 ∧ (hdOf bs).used ≤ half ∧ (hdOf bs).lay = bs then some (hdOf bs) else none

/-- the head that counts, and the sector that the next one goes to -/
def pickHd (a b : Option Hd) : Hd × Nat := match a, b with
  | some x, some y => if y.epoch ≤ x.epoch then (x, 1) else (y, 0)
  | some x, none => (x, 1)
  | none, some y => (y, 0)
  | none, none => (Hd.zero, 0)

/-- a unit off the front -/
def unitOf (bs : List UInt8) : List UInt8 := (bs.drop 8).take (de (bs.take 4))
def takeUnit (bs : List UInt8) : Option (List UInt8 × List UInt8) :=
  if 8 + de (bs.take 4) ≤ bs.length ∧ lay (unitOf bs) = bs.take (size (unitOf bs) * 64) then some (unitOf bs, bs.drop (size (unitOf bs) * 64)) else none

/-- all units, in order -/
def takeAll : Nat → List UInt8 → Option (List (List UInt8))
  | 0, bs => if bs = [] then some [] else none
  | k + 1, bs => if bs = [] then some [] else match takeUnit bs with
    | none => none
    | some (u, r) => (takeAll k r).map (u :: ·)

end Wal

/-- what can be read there -/
def Dk.sec (d : Dk) (k : Nat) : Option (List UInt8) := if d.readE k = 0 then some (d.read k) else none
def Dk.half (d : Dk) : Nat := (d.secs.length - 2) / 2

namespace Wal

/-- so many sectors from one on -/
def readFrom (d : Dk) (at' : Nat) : Nat → Option (List UInt8)
  | 0 => some []
  | k + 1 => match readFrom d at' k with
    | none => none
    | some a => match d.sec (at' + k) with
      | none => none
      | some b => some (a ++ b)

structure Lg where
  hd : Hd
  next : Nat
  dead : Bool

def start (d : Dk) (area : Nat) : Nat := 2 + area * d.half
def found (d : Dk) : Hd × Nat := pickHd (headIn d.half (d.sec 0)) (headIn d.half (d.sec 1))
def lgOf (p : Hd × Nat) : Lg := ⟨p.1, p.2, false⟩
def unitsOf (d : Dk) (h : Hd) : Option (List (List UInt8)) := match readFrom d (start d h.area) h.used with
  | none => none
  | some bs => takeAll bs.length bs

/-- one sector of what is laid -/
def chunk (bs : List UInt8) (i : Nat) : List UInt8 := (bs.drop (i * 64)).take 64
/-- sectors are written, one behind the other, and flushed -/
def wrFrom (at' : Nat) (laid : List UInt8) : Nat → Nat → Dk → Dk × Int
  | 0, _, d => (d.flush, d.flushE)
  | r + 1, i, d => if d.writeE (at' + i : Nat) (chunk laid i) = 0 then wrFrom at' laid r (i + 1) (d.write (at' + i : Nat) (chunk laid i)) else (d.write (at' + i : Nat) (chunk laid i), d.writeE (at' + i : Nat) (chunk laid i))
def wr (d : Dk) (at' : Nat) (laid : List UInt8) : Dk × Int := wrFrom at' laid (laid.length / 64) 0 d

/-- a log and its disk behind a call, and what it answers -/
structure Res where
  lg : Lg
  dk : Dk
  e : Int

def commit (l : Lg) (d : Dk) (h : Hd) (at' : Nat) (laid : List UInt8) : Res :=
  let a := wr d at' laid
  let b := if a.2 = 0 then wr a.1 l.next h.lay else a
  if b.2 = 0 then ⟨⟨h, 1 - l.next, l.dead⟩, b.1, 0⟩ else ⟨{ l with dead := true }, b.1, b.2⟩

def sizes (us : List (List UInt8)) : Nat := (us.map size).sum
def layAll (us : List (List UInt8)) : List UInt8 := us.flatMap lay
def next1 (e : Nat) : Nat := (e + 1) % 18446744073709551616

def append (l : Lg) (d : Dk) (us : List (List UInt8)) : Res :=
  if l.dead then ⟨l, d, 9⟩ else if us = [] then ⟨l, d, 0⟩ else if d.half < l.hd.used + sizes us then ⟨l, d, 2⟩
  else commit l d ⟨next1 l.hd.epoch, l.hd.area, l.hd.used + sizes us⟩ (start d l.hd.area + l.hd.used) (layAll us)
def reset (l : Lg) (d : Dk) (u : List UInt8) : Res :=
  if l.dead then ⟨l, d, 9⟩ else if d.half < size u then ⟨l, d, 2⟩
  else commit l d ⟨next1 l.hd.epoch, 1 - l.hd.area, size u⟩ (start d (1 - l.hd.area)) (lay u)

/-- such as may be, over so many sectors -/
structure Lg.Fine (l : Lg) (half : Nat) : Prop where
  epoch : l.hd.epoch < 18446744073709551616
  area : l.hd.area ≤ 1
  used : l.hd.used ≤ half
  next : l.next ≤ 1

/-- a read off the front of a list -/
theorem be_de (bs : List UInt8) : be bs.length (de bs) = bs := by
  have key : ∀ (l : List UInt8) (a : Nat), be l.length (l.foldl (fun n b => n * 256 + b.toNat) a) = l := by
    intro l
    induction l with
    | nil => intro a; rfl
    | cons b r ih =>
      intro a
      rw [List.length_cons, be, List.foldl_cons, ih]
      congr 1
      have h : ∀ (m : List UInt8) (x : Nat), m.foldl (fun n b => n * 256 + b.toNat) x = x * 2 ^ (8 * m.length) + m.foldl (fun n b => n * 256 + b.toNat) 0 := by
        intro m
        induction m with
        | nil => intro x; simp
        | cons c t iht =>
          intro x
          rw [List.foldl_cons, List.foldl_cons, iht (x * 256 + c.toNat), iht (0 * 256 + c.toNat), List.length_cons, show 8 * (t.length + 1) = 8 + 8 * t.length by omega, Nat.pow_add, Nat.add_mul, Nat.add_mul, Nat.zero_mul]
          rw [Nat.mul_assoc, show (2 : Nat) ^ 8 = 256 from rfl]
          omega
      have hlt := foldl_lt r 0
      rw [h r (a * 256 + b.toNat)]
      have h8 : (256 : Nat) ^ r.length = 2 ^ (8 * r.length) := by rw [Nat.pow_mul]
      rw [h8, Nat.zero_add, Nat.one_mul] at hlt
      rw [Nat.mul_comm (a * 256 + b.toNat), Nat.mul_add_div (Nat.two_pow_pos _), Nat.div_eq_of_lt hlt, Nat.add_zero]
      apply UInt8.toNat_inj.1
      have := b.toNat_lt
      simp [UInt8.toNat_ofNat]
  exact key bs 0

theorem de_be (k n : Nat) : de (be k n) = n % 256 ^ k := by
  have key : ∀ (k a : Nat), (be k n).foldl (fun n b => n * 256 + b.toNat) a = a * 256 ^ k + n % 256 ^ k := by
    intro k
    induction k with
    | zero => intro a; simp [be, Nat.mod_one]
    | succ k ih =>
      intro a
      rw [be, List.foldl_cons, ih]
      have e : (UInt8.ofNat (n / 2 ^ (8 * k))).toNat = n / 2 ^ (8 * k) % 256 := by simp [UInt8.toNat_ofNat]
      have h8 : (2 : Nat) ^ (8 * k) = 256 ^ k := by rw [Nat.pow_mul]
      rw [e, h8, Nat.pow_succ, Nat.mod_mul (x := n) (a := 256 ^ k) (b := 256), Nat.add_mul]
      rw [Nat.mul_assoc a 256, Nat.mul_comm 256 (256 ^ k), Nat.mul_comm (n / 256 ^ k % 256)]
      omega
  simpa [de] using key k 0

end Wal
end Go.Proofs.YtmcobkcnpnfobaaGreat
