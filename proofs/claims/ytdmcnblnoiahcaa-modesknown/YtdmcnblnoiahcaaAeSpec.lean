/-
  The field of 256 elements, its boxes: plain.
-/
import Derived.Test.YtdmcnblnoiahcaaMem
namespace Go.Proofs.Ytdmcnblnoiahcaa
open Go.RowKit

namespace Ae

/-- what 256 bytes do, byte by byte -/
theorem all_bytes {p : UInt8 → Prop} (h : ∀ i : Fin 256, p (UInt8.ofNat i)) (x : UInt8) : p x := by
  have := h ⟨x.toNat, x.toNat_lt⟩
  simpa using this

def xt (a : UInt8) : UInt8 := (a <<< (1 : UInt8)) ^^^ ((a >>> (7 : UInt8)) * (27 : UInt8))

def mulK : Nat → UInt8 → UInt8 → UInt8
  | 0, _, _ => 0
  | k + 1, a, b => (a * (b &&& (1 : UInt8))) ^^^ mulK k (xt a) (b >>> (1 : UInt8))

def mul (a b : UInt8) : UInt8 := mulK 8 a b

theorem mulK_zero (k : Nat) (a : UInt8) : mulK k a 0 = 0 := by
  induction k generalizing a with
  | zero => rfl
  | succ k ih =>
    show (a * ((0 : UInt8) &&& (1 : UInt8))) ^^^ mulK k (xt a) ((0 : UInt8) >>> (1 : UInt8)) = 0
    have : (0 : UInt8) >>> (1 : UInt8) = 0 := by decide
    rw [this, ih]
    simp

/-- a sum's parts, bit by bit -/
theorem parts (x : UInt8) : x = (x &&& (1 : UInt8)) ^^^ (x &&& 2) ^^^ (x &&& 4) ^^^ (x &&& 8) ^^^ (x &&& 16) ^^^ (x &&& 32) ^^^ (x &&& 64) ^^^ (x &&& 128) :=
  all_bytes (p := fun x => x = (x &&& (1 : UInt8)) ^^^ (x &&& 2) ^^^ (x &&& 4) ^^^ (x &&& 8) ^^^ (x &&& 16) ^^^ (x &&& 32) ^^^ (x &&& 64) ^^^ (x &&& 128)) (by decide +kernel) x

theorem onebit (i : Fin 8) (x : UInt8) : x &&& UInt8.ofNat (2 ^ i.val) = 0 ∨ x &&& UInt8.ofNat (2 ^ i.val) = UInt8.ofNat (2 ^ i.val) :=
  all_bytes (p := fun x => x &&& UInt8.ofNat (2 ^ i.val) = 0 ∨ x &&& UInt8.ofNat (2 ^ i.val) = UInt8.ofNat (2 ^ i.val)) (by revert i; decide +kernel) x

def Lin (f : UInt8 → UInt8) : Prop := ∀ x y, f (x ^^^ y) = f x ^^^ f y

theorem Lin.zero {f : UInt8 → UInt8} (h : Lin f) : f 0 = 0 := by
  have := h 0 0
  simpa using this

theorem Lin.comp {f g : UInt8 → UInt8} (h : Lin f) (k : Lin g) : Lin (fun x => f (g x)) := fun x y => by
  show f (g (x ^^^ y)) = _
  rw [k, h]

theorem Lin.xor {f g : UInt8 → UInt8} (h : Lin f) (k : Lin g) : Lin (fun x => f x ^^^ g x) := fun x y => by
  show f (x ^^^ y) ^^^ g (x ^^^ y) = (f x ^^^ g x) ^^^ (f y ^^^ g y)
  rw [h, k]
  simp only [UInt8.xor_assoc]
  congr 1
  rw [← UInt8.xor_assoc, UInt8.xor_comm (f y), UInt8.xor_assoc]

theorem Lin.ext {f g : UInt8 → UInt8} (hf : Lin f) (hg : Lin g) (h : ∀ i : Fin 8, f (UInt8.ofNat (2 ^ i.val)) = g (UInt8.ofNat (2 ^ i.val))) (x : UInt8) : f x = g x := by
  have key : ∀ i : Fin 8, f (x &&& UInt8.ofNat (2 ^ i.val)) = g (x &&& UInt8.ofNat (2 ^ i.val)) := by
    intro i
    rcases onebit i x with e | e
    · rw [e, hf.zero, hg.zero]
    · rw [e, h i]
  have k0 := key 0
  have k1 := key 1
  have k2 := key 2
  have k3 := key 3
  have k4 := key 4
  have k5 := key 5
  have k6 := key 6
  have k7 := key 7
  rw [parts x]
  simp only [hf _ _, hg _ _]
  have e0 : UInt8.ofNat (2 ^ (0 : Fin 8).val) = 1 := rfl
  have e1 : UInt8.ofNat (2 ^ (1 : Fin 8).val) = 2 := rfl
  have e2 : UInt8.ofNat (2 ^ (2 : Fin 8).val) = 4 := rfl
  have e3 : UInt8.ofNat (2 ^ (3 : Fin 8).val) = 8 := rfl
  have e4 : UInt8.ofNat (2 ^ (4 : Fin 8).val) = 16 := rfl
  have e5 : UInt8.ofNat (2 ^ (5 : Fin 8).val) = 32 := rfl
  have e6 : UInt8.ofNat (2 ^ (6 : Fin 8).val) = 64 := rfl
  have e7 : UInt8.ofNat (2 ^ (7 : Fin 8).val) = 128 := rfl
  rw [e0] at k0; rw [e1] at k1; rw [e2] at k2; rw [e3] at k3; rw [e4] at k4; rw [e5] at k5; rw [e6] at k6; rw [e7] at k7
  rw [k0, k1, k2, k3, k4, k5, k6, k7]

theorem xor_mid (a b c d : UInt8) : (a ^^^ b) ^^^ (c ^^^ d) = (a ^^^ c) ^^^ (b ^^^ d) := by
  simp only [UInt8.xor_assoc]
  congr 1
  rw [← UInt8.xor_assoc, UInt8.xor_comm b, UInt8.xor_assoc]

theorem shr_lin (n : Fin 8) : Lin (fun x => x >>> UInt8.ofNat n.val) := by
  intro x y
  apply UInt8.toBitVec_inj.1
  simp [BitVec.ushiftRight_xor_distrib]
theorem shl_lin (n : Fin 8) : Lin (fun x => x <<< UInt8.ofNat n.val) := by
  intro x y
  apply UInt8.toBitVec_inj.1
  simp [BitVec.shiftLeft_xor_distrib]
theorem and_lin (c : UInt8) : Lin (fun x => x &&& c) := by
  intro x y
  apply UInt8.toBitVec_inj.1
  apply BitVec.eq_of_getLsbD_eq
  intro i hi
  simp only [UInt8.toBitVec_and, UInt8.toBitVec_xor, BitVec.getLsbD_and, BitVec.getLsbD_xor]
  cases x.toBitVec.getLsbD i <;> cases y.toBitVec.getLsbD i <;> cases c.toBitVec.getLsbD i <;> rfl

theorem bit_of (x : UInt8) : x &&& 1 = 0 ∨ x &&& 1 = 1 := onebit 0 x
theorem top_of (x : UInt8) : x >>> 7 = 0 ∨ x >>> 7 = 1 := all_bytes (p := fun x => x >>> 7 = 0 ∨ x >>> 7 = 1) (by decide +kernel) x

theorem times_bit (a x y : UInt8) (hx : x = 0 ∨ x = 1) (hy : y = 0 ∨ y = 1) : a * (x ^^^ y) = (a * x) ^^^ (a * y) := by
  rcases hx with rfl | rfl <;> rcases hy with rfl | rfl <;> simp

theorem bit_times (a b x : UInt8) (hx : x = 0 ∨ x = 1) : (a ^^^ b) * x = (a * x) ^^^ (b * x) := by
  rcases hx with rfl | rfl <;> simp

theorem xt_lin : Lin xt := by
  intro x y
  unfold xt
  have h1 := shl_lin 1 x y
  have h2 := shr_lin 7 x y
  have h1' : (x ^^^ y) <<< 1 = (x <<< 1) ^^^ (y <<< 1) := h1
  have h2' : (x ^^^ y) >>> 7 = (x >>> 7) ^^^ (y >>> 7) := h2
  rw [h1', h2', UInt8.mul_comm _ 27, times_bit _ _ _ (top_of x) (top_of y), xor_mid, UInt8.mul_comm 27, UInt8.mul_comm 27]

theorem mulK_lin_right (k : Nat) (a : UInt8) : Lin (mulK k a) := by
  induction k generalizing a with
  | zero => intro x y; simp [mulK]
  | succ k ih =>
    intro x y
    show (a * ((x ^^^ y) &&& (1 : UInt8))) ^^^ mulK k (xt a) ((x ^^^ y) >>> (1 : UInt8)) = ((a * (x &&& (1 : UInt8))) ^^^ mulK k (xt a) (x >>> (1 : UInt8))) ^^^ ((a * (y &&& (1 : UInt8))) ^^^ mulK k (xt a) (y >>> (1 : UInt8)))
    have h1 : (x ^^^ y) &&& (1 : UInt8) = (x &&& (1 : UInt8)) ^^^ (y &&& (1 : UInt8)) := and_lin 1 x y
    have h2 : (x ^^^ y) >>> (1 : UInt8) = (x >>> (1 : UInt8)) ^^^ (y >>> (1 : UInt8)) := shr_lin 1 x y
    rw [h1, h2, ih, times_bit _ _ _ (bit_of x) (bit_of y), xor_mid]

theorem mulK_lin_left (k : Nat) (b : UInt8) : Lin (fun a => mulK k a b) := by
  induction k generalizing b with
  | zero => intro x y; simp [mulK]
  | succ k ih =>
    intro x y
    show ((x ^^^ y) * (b &&& (1 : UInt8))) ^^^ mulK k (xt (x ^^^ y)) (b >>> (1 : UInt8)) = ((x * (b &&& (1 : UInt8))) ^^^ mulK k (xt x) (b >>> (1 : UInt8))) ^^^ ((y * (b &&& (1 : UInt8))) ^^^ mulK k (xt y) (b >>> (1 : UInt8)))
    have := ih (b >>> (1 : UInt8)) (xt x) (xt y)
    simp only at this
    rw [xt_lin, this, bit_times _ _ _ (bit_of b), xor_mid]

theorem mul_lin_right (a : UInt8) : Lin (mul a) := mulK_lin_right 8 a
theorem mul_lin_left (b : UInt8) : Lin (fun a => mul a b) := mulK_lin_left 8 b
theorem mul_xor (a b c : UInt8) : mul a (b ^^^ c) = mul a b ^^^ mul a c := mul_lin_right a b c
theorem xor_mul (a b c : UInt8) : mul (a ^^^ b) c = mul a c ^^^ mul b c := mul_lin_left c a b

theorem mul_comm (a b : UInt8) : mul a b = mul b a := by
  refine Lin.ext (f := fun b => mul a b) (g := fun b => mul b a) (mul_lin_right a) (mul_lin_left a) (fun i => ?_) b
  refine Lin.ext (f := fun a => mul a (UInt8.ofNat (2 ^ i.val))) (g := fun a => mul (UInt8.ofNat (2 ^ i.val)) a) (mul_lin_left _) (mul_lin_right _) (fun j => ?_) a
  revert i j
  decide +kernel

theorem mul_assoc (a b c : UInt8) : mul a (mul b c) = mul (mul a b) c := by
  refine Lin.ext (f := fun c => mul a (mul b c)) (g := fun c => mul (mul a b) c) ((mul_lin_right a).comp (mul_lin_right b)) (mul_lin_right _) (fun k => ?_) c
  refine Lin.ext (f := fun b => mul a (mul b (UInt8.ofNat (2 ^ k.val)))) (g := fun b => mul (mul a b) (UInt8.ofNat (2 ^ k.val))) ((mul_lin_right a).comp (mul_lin_left _)) ((mul_lin_left (UInt8.ofNat (2 ^ k.val))).comp (mul_lin_right a)) (fun j => ?_) b
  refine Lin.ext (f := fun a => mul a (mul (UInt8.ofNat (2 ^ j.val)) (UInt8.ofNat (2 ^ k.val)))) (g := fun a => mul (mul a (UInt8.ofNat (2 ^ j.val))) (UInt8.ofNat (2 ^ k.val))) (mul_lin_left _) ((mul_lin_left (UInt8.ofNat (2 ^ k.val))).comp (mul_lin_left _)) (fun i => ?_) a
  revert i j k
  decide +kernel

theorem mul_one (a : UInt8) : mul a 1 = a := by
  refine Lin.ext (f := fun a => mul a 1) (g := fun a => a) (mul_lin_left _) (fun _ _ => rfl) (fun i => ?_) a
  revert i
  decide +kernel

/-! the inverse, as a table; and as a power -/
def invs : List UInt8 := [
  0, 1, 141, 246, 203, 82, 123, 209, 232, 79, 41, 192, 176, 225, 229, 199, 116, 180, 170, 75, 153, 43, 96, 95, 88, 63, 253, 204, 255, 64, 238, 178,
  58, 110, 90, 241, 85, 77, 168, 201, 193, 10, 152, 21, 48, 68, 162, 194, 44, 69, 146, 108, 243, 57, 102, 66, 242, 53, 32, 111, 119, 187, 89, 25,
  29, 254, 55, 103, 45, 49, 245, 105, 167, 100, 171, 19, 84, 37, 233, 9, 237, 92, 5, 202, 76, 36, 135, 191, 24, 62, 34, 240, 81, 236, 97, 23,
  22, 94, 175, 211, 73, 166, 54, 67, 244, 71, 145, 223, 51, 147, 33, 59, 121, 183, 151, 133, 16, 181, 186, 60, 182, 112, 208, 6, 161, 250, 129, 130,
  131, 126, 127, 128, 150, 115, 190, 86, 155, 158, 149, 217, 247, 2, 185, 164, 222, 106, 50, 109, 216, 138, 132, 114, 42, 20, 159, 136, 249, 220, 137, 154,
  251, 124, 46, 195, 143, 184, 101, 72, 38, 200, 18, 74, 206, 231, 210, 98, 12, 224, 31, 239, 17, 117, 120, 113, 165, 142, 118, 61, 189, 188, 134, 87,
  11, 40, 47, 163, 218, 212, 228, 15, 169, 39, 83, 4, 27, 252, 172, 230, 122, 7, 174, 99, 197, 219, 226, 234, 148, 139, 196, 213, 157, 248, 144, 107,
  177, 13, 214, 235, 198, 14, 207, 173, 8, 78, 215, 227, 93, 80, 30, 179, 91, 35, 56, 52, 104, 70, 3, 140, 221, 156, 125, 160, 205, 26, 65, 28]

def inv (b : UInt8) : UInt8 := invs.getD b.toNat 0

def pw : Nat → UInt8 → UInt8
  | 0, _ => 1
  | n + 1, b => mul (pw n b) b

theorem pw_add (m n : Nat) (b : UInt8) : pw (m + n) b = mul (pw m b) (pw n b) := by
  induction n with
  | zero => exact (mul_one _).symm
  | succ n ih =>
    show mul (pw (m + n) b) b = mul (pw m b) (mul (pw n b) b)
    rw [ih, mul_assoc]

theorem pw_double (m : Nat) (b : UInt8) : pw (m + m + 1) b = mul (mul (pw m b) (pw m b)) b := by
  show mul (pw (m + m) b) b = _
  rw [pw_add]

def sq (p b : UInt8) : UInt8 := mul (mul p p) b

theorem pw254 (b : UInt8) : pw 254 b = inv b := by
  have h3 : pw 3 b = sq b b := by rw [show 3 = 1 + 1 + 1 from rfl, pw_double, show pw 1 b = b from by show mul 1 b = b; rw [mul_comm, mul_one]]; rfl
  have h7 : pw 7 b = sq (sq b b) b := by rw [show 7 = 3 + 3 + 1 from rfl, pw_double, h3]; rfl
  have h15 : pw 15 b = sq (sq (sq b b) b) b := by rw [show 15 = 7 + 7 + 1 from rfl, pw_double, h7]; rfl
  have h31 : pw 31 b = sq (sq (sq (sq b b) b) b) b := by rw [show 31 = 15 + 15 + 1 from rfl, pw_double, h15]; rfl
  have h63 : pw 63 b = sq (sq (sq (sq (sq b b) b) b) b) b := by rw [show 63 = 31 + 31 + 1 from rfl, pw_double, h31]; rfl
  have h127 : pw 127 b = sq (sq (sq (sq (sq (sq b b) b) b) b) b) b := by rw [show 127 = 63 + 63 + 1 from rfl, pw_double, h63]; rfl
  rw [show 254 = 127 + 127 from rfl, pw_add, h127]
  revert b
  intro b _ _ _ _ _ _
  refine all_bytes (p := fun b => mul (sq (sq (sq (sq (sq (sq b b) b) b) b) b) b) (sq (sq (sq (sq (sq (sq b b) b) b) b) b) b) = inv b) ?_ b
  decide +kernel

/-! the boxes -/
def shrN (x : UInt8) : Nat → UInt8
  | 0 => x
  | i + 1 => shrN x i >>> (1 : UInt8)
def shlN (x : UInt8) (i : Nat) : UInt8 := UInt8.ofNat (x.toNat * 2 ^ i)

def rotl (b : UInt8) (n : Nat) : UInt8 := shlN b n ||| shrN b (8 - n)
def spread (x : UInt8) : UInt8 := x ^^^ rotl x 1 ^^^ rotl x 2 ^^^ rotl x 3 ^^^ rotl x 4 ^^^ 99
def box (b : UInt8) : UInt8 := spread (inv b)
def gather (x : UInt8) : UInt8 := rotl x 1 ^^^ rotl x 3 ^^^ rotl x 6
def unbox (b : UInt8) : UInt8 := inv (gather (b ^^^ 99))

theorem unbox_box (b : UInt8) : unbox (box b) = b := all_bytes (p := fun b => unbox (box b) = b) (by decide +kernel) b
theorem box_unbox (b : UInt8) : box (unbox b) = b := all_bytes (p := fun b => box (unbox b) = b) (by decide +kernel) b

/-- the reference's box: bit i of it out of x -/
def rbit (x : UInt8) (i : Nat) : UInt8 := shrN x i ^^^ shrN x ((i + 4) % 8) ^^^ shrN x ((i + 5) % 8) ^^^ shrN x ((i + 6) % 8) ^^^ shrN x ((i + 7) % 8) ^^^ shrN 99 i
def rspread (x : UInt8) : Nat → UInt8
  | 0 => 0
  | i + 1 => rspread x i ||| shlN (rbit x i &&& (1 : UInt8)) i

theorem rspread_eq (x : UInt8) : rspread x 8 = spread x := all_bytes (p := fun x => rspread x 8 = spread x) (by decide +kernel) x

end Ae
end Go.Proofs.Ytdmcnblnoiahcaa
