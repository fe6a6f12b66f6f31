/-
  locksmithlaw11.LifeEdges.
-/
import Derived.Test.YtnklnfbalnooaaaLfKnow
namespace Go.Proofs.Ytnklnfbalnooaaa
open Go.RowKit
set_option linter.unusedSimpArgs false
set_option linter.unusedVariables false
namespace Ob
set_option maxRecDepth 100000 in
theorem edges_any (a b : Int) (near : Bool) (w : World) :
    Calls Try.prog 3 #[.int .i64 a, .int .i64 b, .bool near] w fun e w' => e = .returned (.bool true) ∧ Only (fun _ => False) w w' := by
  have P1 := hide (pick_any a 8 w (by decide) (by decide))
  have P2 := hide (pick_any b 8 w (by decide) (by decide))
  have K := hide (known_any w)
  go_enter Try.func3, Try.ntmps3
  cases near with
  | true =>
    go_wp2_with fail
    refine (unhide P1).mono ?_
    rintro e x ⟨rfl, hx⟩
    rw [hx]
    clear hx x
    go_wp2_with fail
    refine (unhide P2).mono ?_
    rintro e x ⟨rfl, hx⟩
    rw [hx]
    clear hx x P1 P2
    generalize a % 8 = c at *
    generalize b % 8 = d at *
    go_wp2_with fail
    refine (unhide K).mono ?_
    rintro e x ⟨rfl, ox⟩
    have OX := hide ox
    have E1 := hide (edge_any c d x)
    have E2 := hide (redge_any c d x)
    clear ox K
    go_wp2_with fail
    refine (unhide E1).mono ?_
    rintro e y ⟨rfl, hx⟩
    rw [hx]
    clear hx y
    go_wp2_with fail
    refine (unhide E2).mono ?_
    rintro e y ⟨rfl, hx⟩
    rw [hx]
    clear hx y E1 E2
    generalize edgeB c d = B at *
    cases B
    all_goals
      go_wp2
      go_ret
      exact ⟨rfl, unhide OX⟩
  | false =>
    clear P1 P2
    go_wp2_with fail
    refine (unhide K).mono ?_
    rintro e x ⟨rfl, ox⟩
    have OX := hide ox
    have E1 := hide (edge_any a b x)
    have E2 := hide (redge_any a b x)
    clear ox K
    go_wp2_with fail
    refine (unhide E1).mono ?_
    rintro e y ⟨rfl, hx⟩
    rw [hx]
    clear hx y
    go_wp2_with fail
    refine (unhide E2).mono ?_
    rintro e y ⟨rfl, hx⟩
    rw [hx]
    clear hx y E1 E2
    generalize edgeB a b = B at *
    cases B
    all_goals
      go_wp2
      go_ret
      exact ⟨rfl, unhide OX⟩
end Ob
end Go.Proofs.Ytnklnfbalnooaaa
