/-
  slices.Grow of rounds.
-/
import Derived.Test.YtdmcnblnoiahcaaAeRep
import Derived.Test.YtdmcnblnoiahcaaTtZero
namespace Go.Proofs.Ytdmcnblnoiahcaa
open Go.RowKit
set_option linter.unusedSimpArgs false
set_option linter.unusedVariables false
namespace Ae

theorem Try.underInt3 : Try.prog.underlying 3 = some (.int .i64) := by kernel_rfl

def GrowAs (n : Nat) : Prop := ∀ w : World, Calls Try.prog 60 #[.slice none 0 0, .int .i64 (n : Int)] w fun e w' => ∃ v, e = .returned v ∧ w'.ownsRow w.heap.size 68 1 v 0 [] ∧ Only (fun _ => False) w w'

theorem grown_owns (w : World) (n : Nat) (hn : n ≤ 100) : (w.alloc (.cells (Builtin.zeroCells #[Value.nilFunc] n ++ Builtin.zeroCells #[Value.nilFunc] (grownCap w n 0 68 - n)) 68)).drew.ownsRow w.heap.size 68 1 (.slice (some ⟨w.heap.size, 0, none⟩) 0 (grownCap w n 0 68)) 0 [] := by
  have hge := grownCap_ge w n 0 68
  refine ⟨by simp, Or.inr ⟨w.heap.size, _, _, rfl, Nat.le_refl _, heap_alloc_new w _, Nat.zero_le _, grownCap_le_maxLen w n 0 _ (by unfold maxLen; omega), ?_, by simp⟩⟩
  rw [Array.size_append, size_zeroCells, size_zeroCells]
  show n * 1 + (grownCap w n 0 68 - n) * 1 = _
  omega

set_option maxRecDepth 100000 in
theorem grow_11 : GrowAs 11 := by
  intro w
  obtain ⟨i, hi, hz, hsize, hby⟩ := info_parts Try.infoRound
  have h48' : ¬ (281474976710656 < Builtin.nextslicecap 11 0 * 8) := by decide
  have hge : (11 : Int) ≤ ((grownCap w 11 0 68 : Nat) : Int) := by have := grownCap_ge w 11 0 68; omega
  have hown := hide (grown_owns w 11 (by omega))
  go_enter Try.func60, Try.ntmps60
  go_wp2
  go_ret
  exact ⟨_, rfl, unhide hown, ((Only.refl _ w).alloc _).drew⟩

set_option maxRecDepth 100000 in
theorem grow_13 : GrowAs 13 := by
  intro w
  obtain ⟨i, hi, hz, hsize, hby⟩ := info_parts Try.infoRound
  have h48' : ¬ (281474976710656 < Builtin.nextslicecap 13 0 * 8) := by decide
  have hge : (13 : Int) ≤ ((grownCap w 13 0 68 : Nat) : Int) := by have := grownCap_ge w 13 0 68; omega
  have hown := hide (grown_owns w 13 (by omega))
  go_enter Try.func60, Try.ntmps60
  go_wp2
  go_ret
  exact ⟨_, rfl, unhide hown, ((Only.refl _ w).alloc _).drew⟩

set_option maxRecDepth 100000 in
theorem grow_15 : GrowAs 15 := by
  intro w
  obtain ⟨i, hi, hz, hsize, hby⟩ := info_parts Try.infoRound
  have h48' : ¬ (281474976710656 < Builtin.nextslicecap 15 0 * 8) := by decide
  have hge : (15 : Int) ≤ ((grownCap w 15 0 68 : Nat) : Int) := by have := grownCap_ge w 15 0 68; omega
  have hown := hide (grown_owns w 15 (by omega))
  go_enter Try.func60, Try.ntmps60
  go_wp2
  go_ret
  exact ⟨_, rfl, unhide hown, ((Only.refl _ w).alloc _).drew⟩

end Ae
end Go.Proofs.Ytdmcnblnoiahcaa
