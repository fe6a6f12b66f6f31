/-
  How long an item is: plain, and the reference's.
-/
import Derived.Test.YtedmfjnmclbkpabDoorTtIt
import Derived.Deep.DeepCutAuto
namespace Go.Proofs.YtedmfjnmclbkpabDoor
open Go.RowKit
set_option linter.unusedSimpArgs false
set_option linter.unusedVariables false
namespace Tt

/-- what Data takes -/
def pad8 (n : Nat) : Nat := (n + 7) / 8 * 8
mutual
/-- chapter 6.2's Size -/
def It.size : It → Nat
  | .mk _ y _ d ks => 8 + (if y = 1 then It.sizeAll ks else if y = 4 ∨ y = 7 ∨ y = 8 then pad8 d.length else 8)
def It.sizeAll : List It → Nat
  | [] => 0
  | k :: r => k.size + It.sizeAll r
end
theorem sizeAll_append (a b : List It) : It.sizeAll (a ++ b) = It.sizeAll a + It.sizeAll b := by
  induction a with
  | nil => simp [It.sizeAll]
  | cons x a ih => simp [It.sizeAll, ih, Nat.add_assoc]
theorem sizeAll_take {ks : List It} {j : Nat} (h : j < ks.length) : It.sizeAll (ks.take (j + 1)) = It.sizeAll (ks.take j) + ks[j].size := by
  rw [List.take_succ_eq_append_getElem h, sizeAll_append]
  simp [It.sizeAll]
theorem sizeAll_le (ks : List It) (j : Nat) : It.sizeAll (ks.take j) ≤ It.sizeAll ks := by
  have h : It.sizeAll (ks.take j ++ ks.drop j) = It.sizeAll ks := by rw [List.take_append_drop]
  rw [sizeAll_append] at h
  omega

theorem cells_of5 {w : World} {b : Nat} {x y z u v : Value} {t : TypeId} (h : w.heap[b]? = some (.cells #[x, y, z, u, v] t (0, 0))) :
    w.cell? ⟨b, 0, none⟩ = some x ∧ w.cell? ⟨b, 1, none⟩ = some y ∧ w.cell? ⟨b, 2, none⟩ = some z ∧ w.cell? ⟨b, 3, none⟩ = some u ∧ w.cell? ⟨b, 4, none⟩ = some v := by
  simp [World.cell?, h]

end Tt
end Go.Proofs.YtedmfjnmclbkpabDoor
