/-
  Which items are right: the reference's.
-/
import Derived.Test.YtedmfjnmclbkpaaDoorTtPlain
import Derived.Test.YtedmfjnmclbkpaaDoorStr
namespace Go.Proofs.YtedmfjnmclbkpaaDoor
open Go.RowKit
set_option linter.unusedSimpArgs false
set_option linter.unusedVariables false
namespace Tt

set_option maxHeartbeats 1000000 in
theorem tagOk_any (t : Int) (w : World) : Calls Tryd.prog 68 #[.int .i64 t] w fun e w' => e = .returned (.bool (tagB t)) ∧ w' = w := by
  by_cases h1 : 4325376 ≤ t
  · by_cases h2 : t ≤ 4390911
    · have e : tagB t = true := by unfold tagB; simp [h1, h2]
      have E := hide e
      clear e
      go_enter Tryd.func68, Tryd.ntmps68
      go_wp2
      go_ret
      rw [unhide E]
      exact ⟨rfl, rfl⟩
    · by_cases h3 : 5505024 ≤ t
      · by_cases h4 : t ≤ 5570559
        · have e : tagB t = true := by unfold tagB; simp [h3, h4]
          have E := hide e
          clear e
          go_enter Tryd.func68, Tryd.ntmps68
          go_wp2
          go_ret
          rw [unhide E]
          exact ⟨rfl, rfl⟩
        · have e : tagB t = false := by unfold tagB; simp [h2, h4]
          have E := hide e
          clear e
          go_enter Tryd.func68, Tryd.ntmps68
          go_wp2
          go_ret
          rw [unhide E]
          exact ⟨rfl, rfl⟩
      · have e : tagB t = false := by unfold tagB; simp [h2, h3]
        have E := hide e
        clear e
        go_enter Tryd.func68, Tryd.ntmps68
        go_wp2
        go_ret
        rw [unhide E]
        exact ⟨rfl, rfl⟩
  · have h3 : ¬ 5505024 ≤ t := by omega
    have e : tagB t = false := by unfold tagB; simp [h1, h3]
    have E := hide e
    clear e
    go_enter Tryd.func68, Tryd.ntmps68
    go_wp2
    go_ret
    rw [unhide E]
    exact ⟨rfl, rfl⟩
end Tt
end Go.Proofs.YtedmfjnmclbkpaaDoor
