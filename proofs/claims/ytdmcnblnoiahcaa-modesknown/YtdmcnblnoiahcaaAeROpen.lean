/-
  locksmithref8: Open (by gen/genropen.py).
-/
import Derived.Test.YtdmcnblnoiahcaaAeRSeal
import Derived.Test.YtdmcnblnoiahcaaAeBackS
namespace Go.Proofs.Ytdmcnblnoiahcaa
open Go.RowKit
set_option linter.unusedSimpArgs false
set_option linter.unusedVariables false
namespace Ae

/-- the old block, its first places taken by what t's bytes were -/
def unshR (old t : List UInt8) : Nat → List UInt8
  | 0 => old
  | i + 1 => (unshR old t i).set (5 * i % 16) (unbox (gt t i))
theorem unshR_length (old t : List UInt8) (i : Nat) : (unshR old t i).length = old.length := by
  induction i with
  | zero => rfl
  | succ i ih => simp [unshR, ih]
theorem unshR_all (old t : List UInt8) (ho : old.length = 16) : unshR old t 16 = (unshifted t).map unbox := by
  obtain ⟨x0, x1, x2, x3, x4, x5, x6, x7, x8, x9, x10, x11, x12, x13, x14, x15, rfl⟩ : ∃ x0 x1 x2 x3 x4 x5 x6 x7 x8 x9 x10 x11 x12 x13 x14 x15, old = [x0, x1, x2, x3, x4, x5, x6, x7, x8, x9, x10, x11, x12, x13, x14, x15] := by
    match old, ho with
    | [x0, x1, x2, x3, x4, x5, x6, x7, x8, x9, x10, x11, x12, x13, x14, x15], _ => exact ⟨_, _, _, _, _, _, _, _, _, _, _, _, _, _, _, _, rfl⟩
  generalize ht : gt t = f
  have h1 : unshifted t = [f 0, f 13, f 10, f 7, f 4, f 1, f 14, f 11, f 8, f 5, f 2, f 15, f 12, f 9, f 6, f 3] := by
    unfold unshifted
    simp only [unshK, ht]
    rfl
  rw [h1]
  simp only [unshR, ht]
  rfl
theorem openT_one (bs : List UInt8) (m : Nat) (s : List UInt8) (r : Nat) (h1 : r + 1 = m) (hr : 1 ≤ r) : openT bs m s (m - 1 - (r - 1)) = (unshifted (added (openT bs m s (m - 1 - r)) (blkOf bs r))).map unbox := by
  rw [show m - 1 - (r - 1) = (m - 1 - r) + 1 by omega, openT_succ, if_pos (by omega), show m - 1 - (m - 1 - r) = r by omega]
  rfl
theorem openT_mid (bs : List UInt8) (m : Nat) (s : List UInt8) (r : Nat) (h1 : r + 1 < m) (hr : 1 ≤ r) : openT bs m s (m - 1 - (r - 1)) = (unshifted (times (added (openT bs m s (m - 1 - r)) (blkOf bs r)) [14, 11, 13, 9])).map unbox := by
  rw [show m - 1 - (r - 1) = (m - 1 - r) + 1 by omega, openT_succ, if_neg (by omega), if_neg (by omega), show m - 1 - (m - 1 - r) = r by omega]
  rfl
theorem openT_end (bs : List UInt8) (m : Nat) (s : List UInt8) (hm : 2 ≤ m) : openT bs m s m = added (openT bs m s (m - 1 - 0)) (blkOf bs 0) := by
  have h : openT bs m s ((m - 1) + 1) = added (openT bs m s (m - 1)) (blkOf bs (m - 1 - (m - 1))) := by rw [openT_succ, if_neg (by omega), if_pos (by omega)]
  rw [show m - 1 + 1 = m by omega, Nat.sub_self] at h
  exact h

end Ae
end Go.Proofs.Ytdmcnblnoiahcaa
