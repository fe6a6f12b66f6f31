/-
  locksmithlaw11.LifeTime: moved at once, or in steps.
-/
import Derived.Test.YtnklnfbalnooaaaLfSpec
namespace Go.Proofs.Ytnklnfbalnooaaa
set_option linter.unusedSimpArgs false
set_option linter.unusedVariables false
namespace Ob
/-- the k-th time, and the object moved to it -/
def tmK (fs : List Int) : Nat → Int
  | 0 => 0
  | k + 1 => tmK fs k + fs.getD k 0 % 9
def mvT (o : Ob) (fs : List Int) : Nat → Ob
  | 0 => o
  | k + 1 => move (mvT o fs k) (tmK fs (k + 1))
theorem tmK_le (fs : List Int) : ∀ k, 0 ≤ tmK fs k ∧ tmK fs k ≤ 9 * k
  | 0 => ⟨Int.le_refl _, Int.le_refl _⟩
  | k + 1 => by
    have h := tmK_le fs k
    have h1 := Int.emod_nonneg (fs.getD k 0) (show (9 : Int) ≠ 0 by decide)
    have h2 := Int.emod_lt_of_pos (fs.getD k 0) (show (0 : Int) < 9 by decide)
    unfold tmK
    constructor
    · omega
    · omega
theorem mvT_state (o : Ob) (fs : List Int) : ∀ k, 0 < k → (mvT o fs k).state = st2 o (tmK fs k)
  | 0, h => absurd h (by decide)
  | 1, _ => by unfold mvT; rw [move_state]; rfl
  | k + 2, _ => by
    have ih := mvT_state o fs (k + 1) (by omega)
    have hle : tmK fs (k + 1) ≤ tmK fs (k + 2) := by
      have h1 := Int.emod_nonneg (fs.getD (k + 1) 0) (show (9 : Int) ≠ 0 by decide)
      show tmK fs (k + 1) ≤ tmK fs (k + 1) + _
      omega
    rw [mvT, move_state]
    have key : ∀ j, ∀ (p : Ob), p.state = st2 o (tmK fs (j + 1)) → dget p 1 = dget o 1 → dget p 4 = dget o 4 → ∀ u, tmK fs (j + 1) ≤ u → st2 p u = st2 o u := by
      intro j p hs e1 e4 u hu
      have h := st2_move o (tmK fs (j + 1)) u hu
      have g1 := move_dget o (tmK fs (j + 1)) 1 (by decide)
      have g4 := move_dget o (tmK fs (j + 1)) 4 (by decide)
      have gs := move_state o (tmK fs (j + 1))
      rw [← h]
      unfold st2 go2 st1 go1
      rw [e1, e4, hs, g1, g4, gs]
    have hd : ∀ j i, 9 ≠ i → dget (mvT o fs j) i = dget o i := by
      intro j
      induction j with
      | zero => intro i _; rfl
      | succ j ihj => intro i hi; rw [mvT, move_dget _ _ _ hi, ihj i hi]
    exact key k (mvT o fs (k + 1)) ih (hd _ 1 (by decide)) (hd _ 4 (by decide)) _ hle
theorem mvT_small {o : Ob} (h : Small o) (fs : List Int) : ∀ k, Small (mvT o fs k)
  | 0 => h
  | k + 1 => move_small (mvT_small h fs k) _
end Ob
end Go.Proofs.Ytnklnfbalnooaaa
