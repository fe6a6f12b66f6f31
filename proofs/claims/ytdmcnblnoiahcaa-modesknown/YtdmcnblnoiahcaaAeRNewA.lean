/-
  locksmithref8: New, its start (under way).
-/
import Derived.Test.YtdmcnblnoiahcaaAeRNew
import Derived.Test.YtdmcnblnoiahcaaAeRSeal
namespace Go.Proofs.Ytdmcnblnoiahcaa
open Go.RowKit
set_option linter.unusedSimpArgs false
set_option linter.unusedVariables false
namespace Ae

/-- a Cipher's tables, stored -/
theorem tables {x : World} {b : Nat} {t : TypeId} {v : Value} (A B X Y : List Value) (hA : A.length = 256) (hB : B.length = 256) (hX : X.length = 256) (hY : Y.length = 256) (h : x.heap[b]? = some (.cells ([v] ++ (A ++ B)).toArray t (0, 0))) :
    ∃ wy, wy = (x.setCells b 1 X).setCells b 257 Y ∧ wy.heap[b]? = some (.cells ([v] ++ (X ++ Y)).toArray t (0, 0)) ∧ Only (fun j => j = b) x wy := by
  refine ⟨_, rfl, ?_, Only.setCells (S := fun j => j = b) (fun _ => rfl) _ _ _ (Only.setCells (S := fun j => j = b) (fun _ => rfl) _ _ _ (Only.refl _ x))⟩
  have e1 : setMany ([v] ++ (A ++ B)) 1 X = [v] ++ (X ++ B) := by
    rw [setMany_eq _ _ _ (by simp; omega), hX]
    simp [List.drop_append, hA]
  have e2 : setMany ([v] ++ (X ++ B)) 257 Y = [v] ++ (X ++ Y) := by
    rw [setMany_eq _ _ _ (by simp; omega), hY]
    have t1 : ([v] ++ (X ++ B)).take 257 = [v] ++ X := by
      rw [← List.append_assoc, List.take_left' (by simp; omega)]
    have t2 : ([v] ++ (X ++ B)).drop (257 + 256) = [] := List.drop_eq_nil_of_le (by simp; omega)
    rw [t1, t2]
    simp
  have h1 := setCells_block X x 1 _ h
  rw [e1] at h1
  have h2 := setCells_block Y _ 257 _ h1
  rw [e2] at h2
  exact h2

end Ae
end Go.Proofs.Ytdmcnblnoiahcaa
