/-
  tags' names: Name, OpName, Offered, Tag.
-/
import Derived.Test.YtdgkjdjmgndiiaaTgSpec
namespace Go.Proofs.Ytdgkjdjmgndiiaa
open Go.RowKit
set_option linter.unusedSimpArgs false
set_option linter.unusedVariables false
namespace Tg

theorem nameBelowKeyBlock_any (n : Int) (w : World) : Calls Try.prog 17 #[.int .i64 n] w fun e w' => e = .returned (.string (str (look L1 n))) ∧ w' = w := by
  go_enter Try.func17, Try.ntmps17
  go_wp2
  all_goals (go_ret; refine ⟨?_, rfl⟩; simp_all [look, L1, str])

theorem nameBelowQueryFunction_any (n : Int) (w : World) : Calls Try.prog 18 #[.int .i64 n] w fun e w' => e = .returned (.string (str (look L2 n))) ∧ w' = w := by
  go_enter Try.func18, Try.ntmps18
  go_wp2
  all_goals (go_ret; refine ⟨?_, rfl⟩; simp_all [look, L2, str])

theorem nameBelowState_any (n : Int) (w : World) : Calls Try.prog 19 #[.int .i64 n] w fun e w' => e = .returned (.string (str (look L3 n))) ∧ w' = w := by
  go_enter Try.func19, Try.ntmps19
  go_wp2
  all_goals (go_ret; refine ⟨?_, rfl⟩; simp_all [look, L3, str])

theorem nameFromState_any (n : Int) (w : World) : Calls Try.prog 20 #[.int .i64 n] w fun e w' => e = .returned (.string (str (look L4 n))) ∧ w' = w := by
  go_enter Try.func20, Try.ntmps20
  go_wp2
  all_goals (go_ret; refine ⟨?_, rfl⟩; simp_all [look, L4, str])

theorem opName_any (n : Int) (w : World) : Calls Try.prog 15 #[.int .i64 n] w fun e w' => e = .returned (.string (str (look ops n))) ∧ w' = w := by
  go_enter Try.func15, Try.ntmps15
  go_wp2
  all_goals (go_ret; refine ⟨?_, rfl⟩; simp_all [look, ops, str])

theorem name_any (n : Int) (w : World) : Calls Try.prog 6 #[.int .i64 n] w fun e w' => e = .returned (.string (str (look words n))) ∧ w' = w := by
  by_cases h1 : n < 4325440
  · rw [look1 h1]
    go_enter Try.func6, Try.ntmps6
    go_wp2_with fail
    refine (nameBelowKeyBlock_any n _).mono ?_
    rintro e w1 ⟨rfl, rfl⟩
    go_wp2
    go_ret
    exact ⟨rfl, rfl⟩
  · by_cases h2 : n < 4325492
    · rw [look2 (by omega) h2]
      go_enter Try.func6, Try.ntmps6
      go_wp2_with fail
      refine (nameBelowQueryFunction_any n _).mono ?_
      rintro e w1 ⟨rfl, rfl⟩
      go_wp2
      go_ret
      exact ⟨rfl, rfl⟩
    · by_cases h3 : n < 4325517
      · rw [look3 (by omega) h3]
        go_enter Try.func6, Try.ntmps6
        go_wp2_with fail
        refine (nameBelowState_any n _).mono ?_
        rintro e w1 ⟨rfl, rfl⟩
        go_wp2
        go_ret
        exact ⟨rfl, rfl⟩
      · rw [look4 (by omega)]
        go_enter Try.func6, Try.ntmps6
        go_wp2_with fail
        refine (nameFromState_any n _).mono ?_
        rintro e w1 ⟨rfl, rfl⟩
        go_wp2
        go_ret
        exact ⟨rfl, rfl⟩

theorem offered_any (n : Int) (w : World) : Calls Try.prog 11 #[.int .i64 n] w fun e w' => e = .returned (.bool (!(look ops n).isEmpty)) ∧ w' = w := by
  go_enter Try.func11, Try.ntmps11
  go_wp2_with fail
  refine (opName_any n _).mono ?_
  rintro e w1 ⟨rfl, rfl⟩
  go_wp2
  rw [str_toList]
  go_ret
  exact ⟨rfl, rfl⟩

end Tg
end Go.Proofs.Ytdgkjdjmgndiiaa
