/-
  Bytes as a number: plain.
-/
import Derived.Test.YtadpmninoghcjaaDoorWr
namespace Go.Proofs.YtadpmninoghcjaaDoor

/-- bytes as a number, the highest first -/
def de (bs : List UInt8) : Nat := bs.foldl (fun n b => n * 256 + b.toNat) 0

theorem de_snoc (bs : List UInt8) (b : UInt8) : de (bs ++ [b]) = de bs * 256 + b.toNat := by simp [de]

theorem foldl_lt (bs : List UInt8) (a : Nat) : bs.foldl (fun n b => n * 256 + b.toNat) a < (a + 1) * 256 ^ bs.length := by
  induction bs generalizing a with
  | nil => simp
  | cons b l ih =>
    have h := ih (a * 256 + b.toNat)
    have hb := b.toNat_lt
    simp only [List.foldl_cons, List.length_cons, Nat.pow_succ]
    refine Nat.lt_of_lt_of_le h ?_
    rw [Nat.mul_comm (256 ^ l.length) 256, ← Nat.mul_assoc]
    exact Nat.mul_le_mul_right _ (by omega)

theorem de_lt (bs : List UInt8) : de bs < 256 ^ bs.length := by simpa [de] using foldl_lt bs 0

theorem de_take (bs : List UInt8) (k : Nat) (h : k < bs.length) : de (bs.take (k + 1)) = de (bs.take k) * 256 + bs[k].toNat := by
  rw [List.take_succ_eq_append_getElem h, de_snoc]

theorem de_bound (bs : List UInt8) (k : Nat) (h : k ≤ 7) : de (bs.take k) < 72057594037927936 := by
  have h1 := de_lt (bs.take k)
  have h2 : (bs.take k).length ≤ 7 := by have := List.length_take_le k bs; omega
  have h3 : 256 ^ (bs.take k).length ≤ 256 ^ 7 := Nat.pow_le_pow_right (by decide) h2
  have h4 : (256 : Nat) ^ 7 = 72057594037927936 := by decide
  omega

theorem or_byte (d c : Nat) (hd : d < 72057594037927936) (hc : c < 256) : bits BinOp.or IntKind.u64 ((d : Int) * 256) (c : Int) = ((d * 256 + c : Nat) : Int) := by
  have h := u64_or_nat (d * 256) c (by omega) (by omega)
  rw [show ((d * 256 : Nat) : Int) = (d : Int) * 256 by omega] at h
  rw [h, Nat.mul_comm d 256]
  have e := Nat.two_pow_add_eq_or_of_lt (i := 8) (b := c) hc d
  rw [show (256 : Nat) = 2 ^ 8 from rfl, ← e]

end Go.Proofs.YtadpmninoghcjaaDoor
