/-
  The law: an item's bytes, cut anywhere, or with one byte more, are refused.
-/
import Derived.Test.YtedmfjnmclbkpabDoorTtKnow
import Derived.Test.YtedmfjnmclbkpabDoorTtBuild
import Derived.Test.YtedmfjnmclbkpabDoorHand
namespace Go.Proofs.YtedmfjnmclbkpabDoor
open Go.RowKit
set_option linter.unusedSimpArgs false
set_option linter.unusedVariables false
namespace Tt

mutual
theorem size_count : ∀ (i : It), i.small 32 → i.size ≤ 40 * i.count
  | .mk t y n d ks, h => by
    rw [It.small] at h
    have hk := sizeAll_count ks h.2.2.2.2
    rw [It.size, It.count]
    by_cases h1 : y = 1
    · rw [if_pos h1]; omega
    · rw [if_neg h1]
      by_cases h2 : y = 4 ∨ y = 7 ∨ y = 8
      · rw [if_pos h2]; have := h.2.2.2.1; unfold pad8; omega
      · rw [if_neg h2]; omega
theorem sizeAll_count : ∀ (ks : List It), It.smallAll 32 ks → It.sizeAll ks ≤ 40 * It.countAll ks
  | [], _ => Nat.zero_le _
  | k :: r, h => by
    rw [It.smallAll] at h
    have := size_count k h.1
    have := sizeAll_count r h.2
    rw [It.sizeAll, It.countAll]
    omega
end
theorem dAll_err (bs : List UInt8) (e : Int) (h : dAll bs = .err e) : 0 < e := by
  unfold dAll at h
  by_cases h1 : 8192 < bs.length
  · rw [if_pos h1] at h; simp only [RD.err.injEq] at h; omega
  · rw [if_neg h1] at h
    cases hx : dOne 12 bs 0 with
    | err e' => rw [hx] at h; simp only [RD.err.injEq] at h; rw [← h]; exact dOne_err _ _ _ _ hx
    | ok i r c =>
      rw [hx] at h
      simp only at h
      by_cases h2 : r = []
      · rw [if_pos h2] at h; cases h
      · rw [if_neg h2] at h; simp only [RD.err.injEq] at h; omega

/-- a tree of raws is small -/
structure Fair (it : It) : Prop where
  small : it.small 32
  size : it.size ≤ 1240
theorem fair_of {X : Nat → Raw6} {m : Nat} {it : It} (hs : it.small 32) (hc : it.count ≤ cnt (fun k => ((X k).parent % k).toNat) (min m 30) 30 0) : Fair it := by
  have h1 := cnt_le (fun k => ((X k).parent % k).toNat) (fun k hk => by
    have := Int.emod_nonneg (X k).parent (show (k : Int) ≠ 0 by omega)
    have := Int.emod_lt_of_pos (X k).parent (show (0 : Int) < k by omega)
    omega) (min m 30) 30
  have h2 := size_count it hs
  exact ⟨hs, by omega⟩

end Tt
end Go.Proofs.YtedmfjnmclbkpabDoor
