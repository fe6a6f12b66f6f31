/-
  bits.Mul of 1 and of 1 to 16.
-/
import Derived.Test.YtbhidmeobeecmaaAeRep
namespace Go.Proofs.Ytbhidmeobeecmaa
open Go.RowKit
set_option linter.unusedSimpArgs false
set_option linter.unusedVariables false
namespace Md

set_option maxRecDepth 100000 in
theorem mul64_1 (w : World) : Calls Try.prog 81 #[.int .u64 1, .int .u64 1] w fun e w' => e = .returned (.tuple #[.int .u64 0, .int .u64 1]) ∧ w' = w := by
  have h1 : bits .and .u64 1 4294967295 = 1 := by kernel_rfl
  have h2 : bits .and .u64 1 4294967295 = 1 := by kernel_rfl
  have h3 : bits .and .u64 0 4294967295 = 0 := by kernel_rfl
  go_enter Try.func81, Try.ntmps81
  go_wp2
  go_ret2
  exact ⟨rfl, rfl⟩
set_option maxRecDepth 100000 in
theorem mul_1 : Ae.MulAs 1 := by
  intro w
  go_enter Try.func66, Try.ntmps66
  go_wp2_with (go_at_call 81; refine (mul64_1 _).mono ?_; rintro e w1 ⟨rfl, rfl⟩)
  go_ret2
  exact ⟨rfl, rfl⟩

set_option maxRecDepth 100000 in
theorem mul64_2 (w : World) : Calls Try.prog 81 #[.int .u64 1, .int .u64 2] w fun e w' => e = .returned (.tuple #[.int .u64 0, .int .u64 2]) ∧ w' = w := by
  have h1 : bits .and .u64 1 4294967295 = 1 := by kernel_rfl
  have h2 : bits .and .u64 2 4294967295 = 2 := by kernel_rfl
  have h3 : bits .and .u64 0 4294967295 = 0 := by kernel_rfl
  go_enter Try.func81, Try.ntmps81
  go_wp2
  go_ret2
  exact ⟨rfl, rfl⟩
set_option maxRecDepth 100000 in
theorem mul_2 : Ae.MulAs 2 := by
  intro w
  go_enter Try.func66, Try.ntmps66
  go_wp2_with (go_at_call 81; refine (mul64_2 _).mono ?_; rintro e w1 ⟨rfl, rfl⟩)
  go_ret2
  exact ⟨rfl, rfl⟩

set_option maxRecDepth 100000 in
theorem mul64_3 (w : World) : Calls Try.prog 81 #[.int .u64 1, .int .u64 3] w fun e w' => e = .returned (.tuple #[.int .u64 0, .int .u64 3]) ∧ w' = w := by
  have h1 : bits .and .u64 1 4294967295 = 1 := by kernel_rfl
  have h2 : bits .and .u64 3 4294967295 = 3 := by kernel_rfl
  have h3 : bits .and .u64 0 4294967295 = 0 := by kernel_rfl
  go_enter Try.func81, Try.ntmps81
  go_wp2
  go_ret2
  exact ⟨rfl, rfl⟩
set_option maxRecDepth 100000 in
theorem mul_3 : Ae.MulAs 3 := by
  intro w
  go_enter Try.func66, Try.ntmps66
  go_wp2_with (go_at_call 81; refine (mul64_3 _).mono ?_; rintro e w1 ⟨rfl, rfl⟩)
  go_ret2
  exact ⟨rfl, rfl⟩

set_option maxRecDepth 100000 in
theorem mul64_4 (w : World) : Calls Try.prog 81 #[.int .u64 1, .int .u64 4] w fun e w' => e = .returned (.tuple #[.int .u64 0, .int .u64 4]) ∧ w' = w := by
  have h1 : bits .and .u64 1 4294967295 = 1 := by kernel_rfl
  have h2 : bits .and .u64 4 4294967295 = 4 := by kernel_rfl
  have h3 : bits .and .u64 0 4294967295 = 0 := by kernel_rfl
  go_enter Try.func81, Try.ntmps81
  go_wp2
  go_ret2
  exact ⟨rfl, rfl⟩
set_option maxRecDepth 100000 in
theorem mul_4 : Ae.MulAs 4 := by
  intro w
  go_enter Try.func66, Try.ntmps66
  go_wp2_with (go_at_call 81; refine (mul64_4 _).mono ?_; rintro e w1 ⟨rfl, rfl⟩)
  go_ret2
  exact ⟨rfl, rfl⟩

set_option maxRecDepth 100000 in
theorem mul64_5 (w : World) : Calls Try.prog 81 #[.int .u64 1, .int .u64 5] w fun e w' => e = .returned (.tuple #[.int .u64 0, .int .u64 5]) ∧ w' = w := by
  have h1 : bits .and .u64 1 4294967295 = 1 := by kernel_rfl
  have h2 : bits .and .u64 5 4294967295 = 5 := by kernel_rfl
  have h3 : bits .and .u64 0 4294967295 = 0 := by kernel_rfl
  go_enter Try.func81, Try.ntmps81
  go_wp2
  go_ret2
  exact ⟨rfl, rfl⟩
set_option maxRecDepth 100000 in
theorem mul_5 : Ae.MulAs 5 := by
  intro w
  go_enter Try.func66, Try.ntmps66
  go_wp2_with (go_at_call 81; refine (mul64_5 _).mono ?_; rintro e w1 ⟨rfl, rfl⟩)
  go_ret2
  exact ⟨rfl, rfl⟩

set_option maxRecDepth 100000 in
theorem mul64_6 (w : World) : Calls Try.prog 81 #[.int .u64 1, .int .u64 6] w fun e w' => e = .returned (.tuple #[.int .u64 0, .int .u64 6]) ∧ w' = w := by
  have h1 : bits .and .u64 1 4294967295 = 1 := by kernel_rfl
  have h2 : bits .and .u64 6 4294967295 = 6 := by kernel_rfl
  have h3 : bits .and .u64 0 4294967295 = 0 := by kernel_rfl
  go_enter Try.func81, Try.ntmps81
  go_wp2
  go_ret2
  exact ⟨rfl, rfl⟩
set_option maxRecDepth 100000 in
theorem mul_6 : Ae.MulAs 6 := by
  intro w
  go_enter Try.func66, Try.ntmps66
  go_wp2_with (go_at_call 81; refine (mul64_6 _).mono ?_; rintro e w1 ⟨rfl, rfl⟩)
  go_ret2
  exact ⟨rfl, rfl⟩

set_option maxRecDepth 100000 in
theorem mul64_7 (w : World) : Calls Try.prog 81 #[.int .u64 1, .int .u64 7] w fun e w' => e = .returned (.tuple #[.int .u64 0, .int .u64 7]) ∧ w' = w := by
  have h1 : bits .and .u64 1 4294967295 = 1 := by kernel_rfl
  have h2 : bits .and .u64 7 4294967295 = 7 := by kernel_rfl
  have h3 : bits .and .u64 0 4294967295 = 0 := by kernel_rfl
  go_enter Try.func81, Try.ntmps81
  go_wp2
  go_ret2
  exact ⟨rfl, rfl⟩
set_option maxRecDepth 100000 in
theorem mul_7 : Ae.MulAs 7 := by
  intro w
  go_enter Try.func66, Try.ntmps66
  go_wp2_with (go_at_call 81; refine (mul64_7 _).mono ?_; rintro e w1 ⟨rfl, rfl⟩)
  go_ret2
  exact ⟨rfl, rfl⟩

set_option maxRecDepth 100000 in
theorem mul64_8 (w : World) : Calls Try.prog 81 #[.int .u64 1, .int .u64 8] w fun e w' => e = .returned (.tuple #[.int .u64 0, .int .u64 8]) ∧ w' = w := by
  have h1 : bits .and .u64 1 4294967295 = 1 := by kernel_rfl
  have h2 : bits .and .u64 8 4294967295 = 8 := by kernel_rfl
  have h3 : bits .and .u64 0 4294967295 = 0 := by kernel_rfl
  go_enter Try.func81, Try.ntmps81
  go_wp2
  go_ret2
  exact ⟨rfl, rfl⟩
set_option maxRecDepth 100000 in
theorem mul_8 : Ae.MulAs 8 := by
  intro w
  go_enter Try.func66, Try.ntmps66
  go_wp2_with (go_at_call 81; refine (mul64_8 _).mono ?_; rintro e w1 ⟨rfl, rfl⟩)
  go_ret2
  exact ⟨rfl, rfl⟩

set_option maxRecDepth 100000 in
theorem mul64_10 (w : World) : Calls Try.prog 81 #[.int .u64 1, .int .u64 10] w fun e w' => e = .returned (.tuple #[.int .u64 0, .int .u64 10]) ∧ w' = w := by
  have h1 : bits .and .u64 1 4294967295 = 1 := by kernel_rfl
  have h2 : bits .and .u64 10 4294967295 = 10 := by kernel_rfl
  have h3 : bits .and .u64 0 4294967295 = 0 := by kernel_rfl
  go_enter Try.func81, Try.ntmps81
  go_wp2
  go_ret2
  exact ⟨rfl, rfl⟩
set_option maxRecDepth 100000 in
theorem mul_10 : Ae.MulAs 10 := by
  intro w
  go_enter Try.func66, Try.ntmps66
  go_wp2_with (go_at_call 81; refine (mul64_10 _).mono ?_; rintro e w1 ⟨rfl, rfl⟩)
  go_ret2
  exact ⟨rfl, rfl⟩

set_option maxRecDepth 100000 in
theorem mul64_12 (w : World) : Calls Try.prog 81 #[.int .u64 1, .int .u64 12] w fun e w' => e = .returned (.tuple #[.int .u64 0, .int .u64 12]) ∧ w' = w := by
  have h1 : bits .and .u64 1 4294967295 = 1 := by kernel_rfl
  have h2 : bits .and .u64 12 4294967295 = 12 := by kernel_rfl
  have h3 : bits .and .u64 0 4294967295 = 0 := by kernel_rfl
  go_enter Try.func81, Try.ntmps81
  go_wp2
  go_ret2
  exact ⟨rfl, rfl⟩
set_option maxRecDepth 100000 in
theorem mul_12 : Ae.MulAs 12 := by
  intro w
  go_enter Try.func66, Try.ntmps66
  go_wp2_with (go_at_call 81; refine (mul64_12 _).mono ?_; rintro e w1 ⟨rfl, rfl⟩)
  go_ret2
  exact ⟨rfl, rfl⟩

set_option maxRecDepth 100000 in
theorem mul64_14 (w : World) : Calls Try.prog 81 #[.int .u64 1, .int .u64 14] w fun e w' => e = .returned (.tuple #[.int .u64 0, .int .u64 14]) ∧ w' = w := by
  have h1 : bits .and .u64 1 4294967295 = 1 := by kernel_rfl
  have h2 : bits .and .u64 14 4294967295 = 14 := by kernel_rfl
  have h3 : bits .and .u64 0 4294967295 = 0 := by kernel_rfl
  go_enter Try.func81, Try.ntmps81
  go_wp2
  go_ret2
  exact ⟨rfl, rfl⟩
set_option maxRecDepth 100000 in
theorem mul_14 : Ae.MulAs 14 := by
  intro w
  go_enter Try.func66, Try.ntmps66
  go_wp2_with (go_at_call 81; refine (mul64_14 _).mono ?_; rintro e w1 ⟨rfl, rfl⟩)
  go_ret2
  exact ⟨rfl, rfl⟩

set_option maxRecDepth 100000 in
theorem mul64_15 (w : World) : Calls Try.prog 81 #[.int .u64 1, .int .u64 15] w fun e w' => e = .returned (.tuple #[.int .u64 0, .int .u64 15]) ∧ w' = w := by
  have h1 : bits .and .u64 1 4294967295 = 1 := by kernel_rfl
  have h2 : bits .and .u64 15 4294967295 = 15 := by kernel_rfl
  have h3 : bits .and .u64 0 4294967295 = 0 := by kernel_rfl
  go_enter Try.func81, Try.ntmps81
  go_wp2
  go_ret2
  exact ⟨rfl, rfl⟩
set_option maxRecDepth 100000 in
theorem mul_15 : Ae.MulAs 15 := by
  intro w
  go_enter Try.func66, Try.ntmps66
  go_wp2_with (go_at_call 81; refine (mul64_15 _).mono ?_; rintro e w1 ⟨rfl, rfl⟩)
  go_ret2
  exact ⟨rfl, rfl⟩

set_option maxRecDepth 100000 in
theorem mul64_16 (w : World) : Calls Try.prog 81 #[.int .u64 1, .int .u64 16] w fun e w' => e = .returned (.tuple #[.int .u64 0, .int .u64 16]) ∧ w' = w := by
  have h1 : bits .and .u64 1 4294967295 = 1 := by kernel_rfl
  have h2 : bits .and .u64 16 4294967295 = 16 := by kernel_rfl
  have h3 : bits .and .u64 0 4294967295 = 0 := by kernel_rfl
  go_enter Try.func81, Try.ntmps81
  go_wp2
  go_ret2
  exact ⟨rfl, rfl⟩
set_option maxRecDepth 100000 in
theorem mul_16 : Ae.MulAs 16 := by
  intro w
  go_enter Try.func66, Try.ntmps66
  go_wp2_with (go_at_call 81; refine (mul64_16 _).mono ?_; rintro e w1 ⟨rfl, rfl⟩)
  go_ret2
  exact ⟨rfl, rfl⟩

theorem mul_le (n : Nat) (h1 : 1 ≤ n) (h2 : n ≤ 16) : Ae.MulAs n := by
  rcases (show n = 1 ∨ n = 2 ∨ n = 3 ∨ n = 4 ∨ n = 5 ∨ n = 6 ∨ n = 7 ∨ n = 8 ∨ n = 9 ∨ n = 10 ∨ n = 11 ∨ n = 12 ∨ n = 13 ∨ n = 14 ∨ n = 15 ∨ n = 16 by omega) with rfl | rfl | rfl | rfl | rfl | rfl | rfl | rfl | rfl | rfl | rfl | rfl | rfl | rfl | rfl | rfl
  · exact mul_1
  · exact mul_2
  · exact mul_3
  · exact mul_4
  · exact mul_5
  · exact mul_6
  · exact mul_7
  · exact mul_8
  · exact Ae.mul_9
  · exact mul_10
  · exact Ae.mul_11
  · exact mul_12
  · exact Ae.mul_13
  · exact mul_14
  · exact mul_15
  · exact mul_16

end Md
end Go.Proofs.Ytbhidmeobeecmaa
