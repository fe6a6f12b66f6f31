/-
  Chapter 6's refusals, and Structures within Structures: plain.
-/
import Derived.Test.YtedmfjnmclbkpaaDoorTtKid
namespace Go.Proofs.YtedmfjnmclbkpaaDoor
set_option linter.unusedSimpArgs false
set_option linter.unusedVariables false
namespace Tt

theorem refuse_long : dAll (List.replicate 8193 0) = .err 6 := by
  unfold dAll
  rw [if_pos (by rw [List.length_replicate]; decide)]
theorem refuse_b : dAll [66, 0, 32, 2, 0, 0, 0] = .err 7 := by rfl
set_option maxRecDepth 1000000 in
theorem refuse_c : dAll [67, 0, 32, 2, 0, 0, 0, 4, 0, 0, 0, 0, 0, 0, 0, 0] = .err 5 := by rfl
set_option maxRecDepth 1000000 in
theorem refuse_d : dAll [66, 0, 32, 2, 0, 0, 0, 8, 0, 0, 0, 0, 0, 0, 0, 0] = .err 5 := by rfl
set_option maxRecDepth 1000000 in
theorem refuse_e : dAll [66, 0, 32, 2, 0, 0, 0, 4, 0, 0, 0, 0, 0, 0, 0, 1] = .err 11 := by rfl
set_option maxRecDepth 1000000 in
theorem refuse_f : dAll [66, 0, 32, 7, 0, 0, 0, 1, 255, 0, 0, 0, 0, 0, 0, 0] = .err 5 := by rfl
set_option maxRecDepth 1000000 in
theorem refuse_g : dAll [66, 0, 32, 8, 0, 0, 0, 1, 255, 0, 0, 0, 0, 0, 0] = .err 7 := by rfl
set_option maxRecDepth 1000000 in
theorem refuse_h : dAll [66, 0, 32, 1, 0, 0, 0, 0, 0] = .err 5 := by rfl

/-- Structures, one within the other -/
def nest : Nat → It
  | 0 => .mk 4325377 1 0 [] []
  | k + 1 => .mk 4325377 1 0 [] [nest k]
theorem nest_small (m : Nat) : ∀ k, (nest k).small m
  | 0 => by rw [nest, It.small]; exact ⟨by unfold W64; omega, by unfold W64; omega, by unfold W64; omega, Nat.zero_le _, trivial⟩
  | k + 1 => by rw [nest, It.small]; exact ⟨by unfold W64; omega, by unfold W64; omega, by unfold W64; omega, Nat.zero_le _, by rw [It.smallAll]; exact ⟨nest_small m k, trivial⟩⟩
theorem nest_size : ∀ k, (nest k).size = 8 * (k + 1)
  | 0 => by rw [nest, It.size, if_pos rfl]; rfl
  | k + 1 => by rw [nest, It.size, if_pos rfl, It.sizeAll, nest_size k]; simp [It.sizeAll]; omega
set_option maxRecDepth 100000 in
theorem nest_right : rightB (nest 11) = true ∧ rightB (nest 12) = false := by decide
end Tt
end Go.Proofs.YtedmfjnmclbkpaaDoor
