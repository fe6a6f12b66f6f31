/-
  life.Edge, and the reference's.
-/
import Derived.Test.YtadpmninoghcjaaDoorHandPick
import Derived.Test.YtadpmninoghcjaaDoorLfSpec
namespace Go.Proofs.YtadpmninoghcjaaDoor
open Go.RowKit
set_option linter.unusedSimpArgs false
set_option linter.unusedVariables false
namespace Ob
theorem edge_1 (b : Int) : edgeB 1 b = (decide (b = 2) || decide (b = 4) || decide (b = 5)) := rfl
theorem edge_2 (b : Int) : edgeB 2 b = (decide (b = 3) || decide (b = 4)) := rfl
theorem edge_3 (b : Int) : edgeB 3 b = (decide (b = 4) || decide (b = 5)) := rfl
theorem edge_4 (b : Int) : edgeB 4 b = decide (b = 6) := rfl
theorem edge_5 (b : Int) : edgeB 5 b = decide (b = 6) := rfl
theorem edge_o (a b : Int) (h1 : a ≠ 1) (h2 : a ≠ 2) (h3 : a ≠ 3) (h4 : a ≠ 4) (h5 : a ≠ 5) : edgeB a b = false := by unfold edgeB; simp [h1, h2, h3, h4, h5]
set_option maxRecDepth 100000 in
theorem edge_any (a b : Int) (w : World) :
    Calls Tryd.prog 24 #[.int .i64 a, .int .i64 b] w fun e w' => e = .returned (.bool (edgeB a b)) ∧ w' = w := by
  go_enter Tryd.func24, Tryd.ntmps24
  by_cases h1 : a = 1
  · subst h1
    by_cases b2 : b = 2
    · subst b2; go_wp2; go_ret; exact ⟨rfl, rfl⟩
    by_cases b4 : b = 4
    · subst b4; go_wp2; go_ret; exact ⟨rfl, rfl⟩
    by_cases b5 : b = 5
    · subst b5; go_wp2; go_ret; exact ⟨rfl, rfl⟩
    go_wp2; go_ret
    exact ⟨by rw [edge_1]; simp [b2, b4, b5], rfl⟩
  by_cases h2 : a = 2
  · subst h2
    by_cases b2 : b = 3
    · subst b2; go_wp2; go_ret; exact ⟨rfl, rfl⟩
    by_cases b4 : b = 4
    · subst b4; go_wp2; go_ret; exact ⟨rfl, rfl⟩
    go_wp2; go_ret
    exact ⟨by rw [edge_2]; simp [b2, b4], rfl⟩
  by_cases h3 : a = 3
  · subst h3
    by_cases b2 : b = 4
    · subst b2; go_wp2; go_ret; exact ⟨rfl, rfl⟩
    by_cases b4 : b = 5
    · subst b4; go_wp2; go_ret; exact ⟨rfl, rfl⟩
    go_wp2; go_ret
    exact ⟨by rw [edge_3]; simp [b2, b4], rfl⟩
  by_cases h4 : a = 4
  · subst h4
    by_cases b2 : b = 6
    · subst b2; go_wp2; go_ret; exact ⟨rfl, rfl⟩
    go_wp2; go_ret
    exact ⟨by rw [edge_4]; simp [b2], rfl⟩
  by_cases h5 : a = 5
  · subst h5
    by_cases b2 : b = 6
    · subst b2; go_wp2; go_ret; exact ⟨rfl, rfl⟩
    go_wp2; go_ret
    exact ⟨by rw [edge_5]; simp [b2], rfl⟩
  go_wp2; go_ret
  exact ⟨by rw [edge_o a b h1 h2 h3 h4 h5]; rfl, rfl⟩
end Ob
end Go.Proofs.YtadpmninoghcjaaDoor
