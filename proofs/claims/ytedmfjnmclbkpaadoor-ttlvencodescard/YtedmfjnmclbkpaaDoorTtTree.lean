/-
  locksmithlaw6's tree: some item, not too great.
-/
import Derived.Test.YtedmfjnmclbkpaaDoorArgRaw6
import Derived.Test.YtedmfjnmclbkpaaDoorHand
import Derived.Test.YtedmfjnmclbkpaaDoorStr
import Derived.Deep.DeepCutAuto
import Derived.Deep.CutBlock
import Derived.Deep.RegionHeldLaw
namespace Go.Proofs.YtedmfjnmclbkpaaDoor
open Go.RowKit
set_option linter.unusedSimpArgs false
set_option linter.unusedVariables false

namespace Tt

/-! ### how many -/
/-- the kids of i below k -/
def kidSum (p : Nat → Nat) (i : Nat) (f : Nat → Nat) (k : Nat) : Nat := (((List.range k).filter (fun j => decide (i < j ∧ p j = i))).map f).sum
def cnt (p : Nat → Nat) (L : Nat) : Nat → Nat → Nat
  | 0, _ => 1
  | n + 1, i => 1 + kidSum p i (cnt p L n) L

theorem kidSum_succ (p : Nat → Nat) (i : Nat) (f : Nat → Nat) (k : Nat) : kidSum p i f (k + 1) = kidSum p i f k + if i < k ∧ p k = i then f k else 0 := by
  unfold kidSum
  rw [List.range_succ, List.filter_append, List.map_append, List.sum_append]
  congr 1
  by_cases h : i < k ∧ p k = i
  · rw [if_pos h]; simp [h]
  · rw [if_neg h]; simp [h]
theorem kidSum_le (p : Nat → Nat) (i : Nat) (f : Nat → Nat) {k L : Nat} (h : k ≤ L) : kidSum p i f k ≤ kidSum p i f L := by
  induction L with
  | zero => obtain rfl : k = 0 := by omega
            exact Nat.le_refl _
  | succ L ih =>
    by_cases e : k = L + 1
    · rw [e]; exact Nat.le_refl _
    · rw [kidSum_succ]; have := ih (by omega); omega
theorem kidSum_mono (p : Nat → Nat) (i : Nat) {f g : Nat → Nat} (h : ∀ j, f j ≤ g j) (k : Nat) : kidSum p i f k ≤ kidSum p i g k := by
  induction k with
  | zero => exact Nat.le_refl _
  | succ k ih => rw [kidSum_succ, kidSum_succ]; split <;> (have := h k; omega)
theorem kidSum_start (p : Nat → Nat) (i : Nat) (f : Nat → Nat) : kidSum p i f (i + 1) = 0 := by
  unfold kidSum
  rw [List.filter_eq_nil_iff.2]
  · rfl
  · intro j hj
    simp only [List.mem_range] at hj
    simp only [decide_eq_true_eq]
    omega
theorem cnt_mono (p : Nat → Nat) (L : Nat) : ∀ (n i : Nat), cnt p L n i ≤ cnt p L (n + 1) i
  | 0, i => by rw [cnt, cnt]; omega
  | n + 1, i => by
    rw [cnt, cnt]
    have := kidSum_mono p i (cnt_mono p L n) L
    omega
theorem cnt_pos (p : Nat → Nat) (L n i : Nat) : 1 ≤ cnt p L n i := by
  cases n with
  | zero => exact Nat.le_refl _
  | succ n => rw [cnt]; omega

/-- those from m on whose parent stands ahead of m -/
def topSum (p : Nat → Nat) (f : Nat → Nat) (m k : Nat) : Nat := (((List.range k).filter (fun j => decide (m ≤ j ∧ p j < m))).map f).sum
theorem topSum_succ (p : Nat → Nat) (f : Nat → Nat) (m k : Nat) : topSum p f m (k + 1) = topSum p f m k + if m ≤ k ∧ p k < m then f k else 0 := by
  unfold topSum
  rw [List.range_succ, List.filter_append, List.map_append, List.sum_append]
  congr 1
  by_cases h : m ≤ k ∧ p k < m
  · rw [if_pos h]; simp [h]
  · rw [if_neg h]; simp [h]
theorem topSum_step (p : Nat → Nat) (hp : ∀ k, 0 < k → p k < k) (f : Nat → Nat) (m : Nat) (hm : 0 < m) (k : Nat) : topSum p f (m + 1) k + (if m < k then f m else 0) = topSum p f m k + kidSum p m f k := by
  induction k with
  | zero => rfl
  | succ k ih =>
    rw [topSum_succ, topSum_succ, kidSum_succ]
    by_cases h1 : k < m
    · rw [if_neg (by omega : ¬ m < k + 1), if_neg (by omega : ¬ (m + 1 ≤ k ∧ p k < m + 1)), if_neg (by omega : ¬ (m ≤ k ∧ p k < m)), if_neg (by omega : ¬ (m < k ∧ p k = m))]
      rw [if_neg (by omega)] at ih
      omega
    · by_cases h2 : k = m
      · subst h2
        have := hp k hm
        rw [if_pos (by omega : k < k + 1), if_neg (by omega : ¬ (k + 1 ≤ k ∧ p k < k + 1)), if_pos (by omega : k ≤ k ∧ p k < k), if_neg (by omega : ¬ (k < k ∧ p k = k))]
        rw [if_neg (by omega)] at ih
        omega
      · rw [if_pos (by omega : m < k + 1)]
        rw [if_pos (by omega)] at ih
        by_cases h3 : p k < m
        · rw [if_pos (by omega : m + 1 ≤ k ∧ p k < m + 1), if_pos (by omega : m ≤ k ∧ p k < m), if_neg (by omega : ¬ (m < k ∧ p k = m))]
          omega
        · by_cases h4 : p k = m
          · rw [if_pos (by omega : m + 1 ≤ k ∧ p k < m + 1), if_neg (by omega : ¬ (m ≤ k ∧ p k < m)), if_pos (by omega : m < k ∧ p k = m)]
            omega
          · rw [if_neg (by omega : ¬ (m + 1 ≤ k ∧ p k < m + 1)), if_neg (by omega : ¬ (m ≤ k ∧ p k < m)), if_neg (by omega : ¬ (m < k ∧ p k = m))]
            omega
theorem topSum_zero (p : Nat → Nat) (f : Nat → Nat) (m k : Nat) (h : k ≤ m) : topSum p f m k = 0 := by
  unfold topSum
  rw [List.filter_eq_nil_iff.2]
  · rfl
  · intro j hj
    simp only [List.mem_range] at hj
    simp only [decide_eq_true_eq]
    omega
theorem topSum_le (p : Nat → Nat) (hp : ∀ k, 0 < k → p k < k) (L n : Nat) : ∀ (d m : Nat), 0 < m → L ≤ m + d → topSum p (cnt p L n) m L ≤ L - m
  | 0, m, _, h => by rw [topSum_zero p _ m L (by omega)]; omega
  | d + 1, m, hm, h => by
    have hi := topSum_le p hp L n d (m + 1) (by omega) (by omega)
    have hs := topSum_step p hp (cnt p L n) m hm L
    by_cases hml : m < L
    · rw [if_pos hml] at hs
      have hc : cnt p L n m ≤ 1 + kidSum p m (cnt p L n) L := by
        have := cnt_mono p L n m
        rw [show cnt p L (n + 1) m = 1 + kidSum p m (cnt p L n) L from rfl] at this
        exact this
      omega
    · rw [topSum_zero p _ m L (by omega)]; omega
/-- all of them are no more than there are -/
theorem cnt_le (p : Nat → Nat) (hp : ∀ k, 0 < k → p k < k) (L n : Nat) : cnt p L n 0 ≤ L + 1 := by
  have h1 := cnt_mono p L n 0
  rw [show cnt p L (n + 1) 0 = 1 + kidSum p 0 (cnt p L n) L from rfl] at h1
  have h2 : ∀ k, kidSum p 0 (cnt p L n) k = topSum p (cnt p L n) 1 k := by
    intro k
    unfold kidSum topSum
    congr 2
    apply List.filter_congr
    intro j _
    rw [decide_eq_decide]
    omega
  have h3 := topSum_le p hp L n L 1 (by omega) (by omega)
  rw [h2] at h1
  omega

end Tt
end Go.Proofs.YtedmfjnmclbkpaaDoor
