/-
  CRC-32 as numbers: bit by bit; plain.
-/
import Derived.Test.YtmcobkcnpnfobaaGreatMem
namespace Go.Proofs.YtmcobkcnpnfobaaGreat
open Go.RowKit

namespace Crc

def bit (c : Nat) : Nat := if c % 2 = 1 then (c / 2) ^^^ 3988292384 else c / 2

/-- k bits taken out -/
def nbits : Nat → Nat → Nat
  | 0, c => c
  | k + 1, c => bit (nbits k c)

def past (c : Nat) : Nat := nbits 8 c

def step (c : Nat) (b : UInt8) : Nat := past (c ^^^ b.toNat)

def rem (c : Nat) (bs : List UInt8) : Nat := bs.foldl step c

def more (s : Nat) (bs : List UInt8) : Nat := rem (s ^^^ 4294967295) bs ^^^ 4294967295

theorem xor_lt (a b : Nat) (ha : a < 4294967296) (hb : b < 4294967296) : a ^^^ b < 4294967296 := Nat.xor_lt_two_pow (n := 32) (by omega) (by omega)

theorem bit_lt (c : Nat) (h : c < 4294967296) : bit c < 4294967296 := by
  unfold bit
  split
  · exact xor_lt _ _ (by omega) (by omega)
  · omega

theorem nbits_lt (k c : Nat) (h : c < 4294967296) : nbits k c < 4294967296 := by
  induction k with
  | zero => exact h
  | succ k ih => exact bit_lt _ ih

theorem step_lt (c : Nat) (b : UInt8) (h : c < 4294967296) : step c b < 4294967296 :=
  nbits_lt 8 _ (xor_lt _ _ h (by have := b.toNat_lt; omega))

theorem rem_lt (c : Nat) (bs : List UInt8) (h : c < 4294967296) : rem c bs < 4294967296 := by
  induction bs generalizing c with
  | nil => exact h
  | cons b l ih => exact ih _ (step_lt c b h)

theorem more_lt (s : Nat) (bs : List UInt8) (h : s < 4294967296) : more s bs < 4294967296 :=
  xor_lt _ _ (rem_lt _ _ (xor_lt _ _ h (by omega))) (by omega)

theorem rem_take (c : Nat) (bs : List UInt8) (k : Nat) (h : k < bs.length) : rem c (bs.take (k + 1)) = step (rem c (bs.take k)) bs[k] := by
  rw [List.take_succ_eq_append_getElem h]
  unfold rem
  rw [List.foldl_append]
  rfl

theorem rem_append (c : Nat) (a b : List UInt8) : rem c (a ++ b) = rem (rem c a) b := by simp [rem]

theorem turn_turn (a : Nat) : a ^^^ 4294967295 ^^^ 4294967295 = a := by rw [Nat.xor_assoc, Nat.xor_self, Nat.xor_zero]

theorem more_append (s : Nat) (a b : List UInt8) : more s (a ++ b) = more (more s a) b := by
  unfold more
  rw [turn_turn, rem_append]

theorem more_nil (s : Nat) : more s [] = s := by
  unfold more rem
  rw [List.foldl_nil, turn_turn]

/-- the highest bit tells whether the lowest one was there -/
theorem bit_inj (a b : Nat) (ha : a < 4294967296) (hb : b < 4294967296) (h : bit a = bit b) : a = b := by
  have key : ∀ x y : Nat, x < 2147483648 → y < 2147483648 → x ^^^ 3988292384 ≠ y := by
    intro x y hx hy e
    have h1 : (x ^^^ 3988292384).testBit 31 = y.testBit 31 := by rw [e]
    rw [Nat.testBit_xor, Nat.testBit_lt_two_pow (x := x) (i := 31) (by omega), Nat.testBit_lt_two_pow (x := y) (i := 31) (by omega)] at h1
    revert h1
    decide
  unfold bit at h
  by_cases h1 : a % 2 = 1 <;> by_cases h2 : b % 2 = 1
  · rw [if_pos h1, if_pos h2] at h
    have := congrArg (· ^^^ 3988292384) h
    simp only [Nat.xor_assoc, Nat.xor_self, Nat.xor_zero] at this
    omega
  · rw [if_pos h1, if_neg h2] at h
    exact absurd h (key _ _ (by omega) (by omega))
  · rw [if_neg h1, if_pos h2] at h
    exact absurd h.symm (key _ _ (by omega) (by omega))
  · rw [if_neg h1, if_neg h2] at h
    omega

theorem nbits_inj (k a b : Nat) (ha : a < 4294967296) (hb : b < 4294967296) (h : nbits k a = nbits k b) : a = b := by
  induction k with
  | zero => exact h
  | succ k ih => exact ih (bit_inj _ _ (nbits_lt k a ha) (nbits_lt k b hb) h)

theorem xor_cancel (a b c : Nat) (h : a ^^^ c = b ^^^ c) : a = b := by
  have := congrArg (· ^^^ c) h
  simpa only [Nat.xor_assoc, Nat.xor_self, Nat.xor_zero] using this

theorem step_inj (a b : Nat) (x : UInt8) (ha : a < 4294967296) (hb : b < 4294967296) (h : step a x = step b x) : a = b := by
  have hx := x.toNat_lt
  exact xor_cancel _ _ _ (nbits_inj 8 _ _ (xor_lt _ _ ha (by omega)) (xor_lt _ _ hb (by omega)) h)

theorem step_inj_byte (a : Nat) (x y : UInt8) (ha : a < 4294967296) (h : step a x = step a y) : x = y := by
  have hx := x.toNat_lt
  have hy := y.toNat_lt
  have := nbits_inj 8 _ _ (xor_lt _ _ ha (by omega)) (xor_lt _ _ ha (by omega)) h
  rw [Nat.xor_comm a, Nat.xor_comm a] at this
  exact UInt8.toNat_inj.1 (xor_cancel _ _ _ this)

theorem rem_inj (bs : List UInt8) (a b : Nat) (ha : a < 4294967296) (hb : b < 4294967296) (h : rem a bs = rem b bs) : a = b := by
  induction bs generalizing a b with
  | nil => exact h
  | cons x l ih => exact step_inj a b x ha hb (ih _ _ (step_lt a x ha) (step_lt b x hb) h)

/-- one byte turned: another sum -/
theorem more_set (s : Nat) (bs : List UInt8) (k : Nat) (hk : k < bs.length) (x : UInt8) (hx : x ≠ bs[k]) (hs : s < 4294967296) : more s (bs.set k x) ≠ more s bs := by
  intro h
  have h1 := xor_cancel _ _ _ h
  have e : bs = bs.take k ++ bs[k] :: bs.drop (k + 1) := by simp
  have e2 : bs.set k x = bs.take k ++ x :: bs.drop (k + 1) := List.set_eq_take_append_cons_drop .. |>.trans (by simp [hk])
  rw [e2] at h1
  conv at h1 => rhs; rw [e]
  rw [rem_append, rem_append] at h1
  have hs0 : s ^^^ 4294967295 < 4294967296 := xor_lt _ _ hs (by omega)
  have hr := rem_lt _ (bs.take k) hs0
  have h2 := rem_inj (bs.drop (k + 1)) _ _ (step_lt _ x hr) (step_lt _ bs[k] hr) h1
  exact hx (step_inj_byte _ _ _ hr h2)

end Crc
end Go.Proofs.YtmcobkcnpnfobaaGreat
