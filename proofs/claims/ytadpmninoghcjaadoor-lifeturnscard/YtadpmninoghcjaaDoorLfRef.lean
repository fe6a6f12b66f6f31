/-
  The reference's Due, Next, Move.
-/
import Derived.Test.YtadpmninoghcjaaDoorLfVar
import Derived.Test.YtadpmninoghcjaaDoorObGrd
namespace Go.Proofs.YtadpmninoghcjaaDoor
open Go.RowKit
set_option linter.unusedSimpArgs false
set_option linter.unusedVariables false
namespace Ob

set_option maxRecDepth 100000 in
theorem rdate_any (t : Int) (w : World) :
    Calls Tryd.prog 32 #[.int .i64 t] w fun e w' => e = .returned (.agg #[.bool true, .int .i64 t]) ∧ Only (fun _ => False) w w' := by
  go_enter Tryd.func32, Tryd.ntmps32
  go_wp2
  refine bodyPost_ret (results_st rfl _ _ w.heap.size 24 _ (0, 0) rfl (Bx.new w 24 [.bool true, .int .i64 t]) Tryd.rowOn Tryd.sizeOn) rfl ?_
  exact ⟨rfl, (Only.refl _ w).alloc _⟩

end Ob
end Go.Proofs.YtadpmninoghcjaaDoor
