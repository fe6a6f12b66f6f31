/-
  What OctetBack lays and takes: plain.
-/
import Derived.Test.YtncggpejehflmaaRdUni
import Derived.Test.YtncggpejehflmaaCallsO
namespace Go.Proofs.Ytncggpejehflmaa
open Go.RowKit
set_option linter.unusedSimpArgs false
set_option linter.unusedVariables false

theorem u64_nat (n : Nat) (h : n < 18446744073709551616) : toU64 (n : Int) = n := by
  unfold toU64; rw [IntKind.wrap_u64]; omega

theorem de_be_app (w n : Nat) (a : Nat) : (be w n).foldl (fun n b => n * 256 + b.toNat) a = a * 256 ^ w + n % 256 ^ w := by
  induction w generalizing a with
  | zero => simp [be, Nat.mod_one]
  | succ k ih =>
    simp only [be, List.foldl_cons]
    rw [ih]
    have e : (UInt8.ofNat (n / 2 ^ (8 * k))).toNat = n / 256 ^ k % 256 := by
      rw [show (256 : Nat) ^ k = 2 ^ (8 * k) by rw [Nat.pow_mul]]
      simp
    rw [e]
    have h1 : n % 256 ^ (k + 1) = n % 256 ^ k + 256 ^ k * (n / 256 ^ k % 256) := by
      rw [Nat.pow_succ, Nat.mod_mul]
    rw [h1, Nat.pow_succ, Nat.add_mul, Nat.mul_assoc a 256, Nat.mul_comm 256 (256 ^ k), Nat.mul_comm (n / 256 ^ k % 256) (256 ^ k)]
    omega

theorem de_be (w n : Nat) : de (be w n) = n % 256 ^ w := by
  have := de_be_app w n 0
  simpa [de] using this

theorem rdOk_app (xs r : List UInt8) : rdOk false (xs ++ r) xs.length = true := rdOk_yes rfl (by simp)
theorem rdBytes_app (xs r : List UInt8) (n : Int) (h : n = xs.length) : rdBytes false (xs ++ r) n = xs := by
  subst h; simp [rdBytes, rdOk_app]
theorem rdRest_app (xs r : List UInt8) (n : Int) (h : n = xs.length) : rdRest false (xs ++ r) n = r := by
  subst h; simp [rdRest, rdOk_app]
theorem rdLack_app (xs r : List UInt8) (n : Int) (h : n = xs.length) : rdLack false (xs ++ r) n = false := by
  subst h; simp [rdLack, rdOk_app]

theorem sh_app (us r : List UInt8) (h : us.length ≤ 65535) : shBytes false (WO.short us ++ r) = us ∧ shLack false (WO.short us ++ r) = false ∧ shRest false (WO.short us ++ r) = r := by
  have e1 : WO.short us ++ r = be 2 us.length ++ (us ++ r) := by
    unfold WO.short
    rw [u64_nat _ (by omega), List.append_assoc]
  have hl : ((2 : Int)) = (be 2 us.length).length := by rw [be_length]; rfl
  have e2 : de (rdBytes false (WO.short us ++ r) 2) = us.length := by
    rw [e1, rdBytes_app _ _ _ hl, de_be]
    exact Nat.mod_eq_of_lt (by omega)
  have e3 : rdRest false (WO.short us ++ r) 2 = us ++ r := by rw [e1, rdRest_app _ _ _ hl]
  have e4 : rdLack false (WO.short us ++ r) 2 = false := by rw [e1, rdLack_app _ _ _ hl]
  unfold shBytes shLack shRest
  rw [e2, e3, e4]
  exact ⟨rdBytes_app _ _ _ rfl, rdLack_app _ _ _ rfl, rdRest_app _ _ _ rfl⟩

/-- what one step lays, p its kind -/
def lay (p : Int) (n : Nat) (bs : List UInt8) : List UInt8 :=
  if p = 0 then be 1 (n % 256) else if p = 1 then be 4 (n % 4294967296) else if p = 2 then be 8 n else WO.short (bs.take 500)

theorem lay_length (p : Int) (n : Nat) (bs : List UInt8) : (lay p n bs).length ≤ 502 := by
  unfold lay
  split
  · simp [be_length]
  split
  · simp [be_length]
  split
  · simp [be_length]
  · simp [WO.short, be_length]; omega

/-- what c steps lay from the k-th on -/
def lays (f : Nat → List UInt8) (k c : Nat) : List UInt8 := (List.range' k c).flatMap f

theorem lays_zero (f : Nat → List UInt8) (k : Nat) : lays f k 0 = [] := by simp [lays]
theorem lays_cons (f : Nat → List UInt8) (k c : Nat) : lays f k (c + 1) = f k ++ lays f (k + 1) c := by simp [lays, List.range'_succ]
theorem lays_snoc (f : Nat → List UInt8) (k : Nat) : lays f 0 (k + 1) = lays f 0 k ++ f k := by
  simp [lays, List.range'_concat]

theorem lays_length (f : Nat → List UInt8) (h : ∀ i, (f i).length ≤ 502) (k c : Nat) : (lays f k c).length ≤ 502 * c := by
  induction c generalizing k with
  | zero => simp [lays_zero]
  | succ c ih => rw [lays_cons, List.length_append]; have := h k; have := ih (k + 1); omega

end Go.Proofs.Ytncggpejehflmaa
