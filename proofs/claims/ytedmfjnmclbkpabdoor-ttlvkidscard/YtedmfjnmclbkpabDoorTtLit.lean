/-
  One kid, two kids, as a literal lays them; two trees in boxes.
-/
import Derived.Test.YtedmfjnmclbkpabDoorTtCuts
namespace Go.Proofs.YtedmfjnmclbkpabDoor
open Go.RowKit
set_option linter.unusedSimpArgs false
set_option linter.unusedVariables false
namespace Tt

theorem kids_one {Q : Nat → Prop} {w : World} {n g : Nat} {i : It} {dv kv : Value} {t : TypeId} (hg : w.heap[g]? = some (.cells #[.int .i64 i.tag, .int .i64 i.typ, .int .i64 i.int, dv, kv] t (0, 0))) (hQ : Q g) (h : ItAt Q w n i dv kv) :
    KidsAt Q w (ItAt Q w n) (.slice (some ⟨g, 0, none⟩) 1 1) [i] := by
  refine Or.inr ⟨⟨g, 0, none⟩, 1, rfl, fun _ => rfl, Nat.le_refl _, by unfold maxLen; omega, fun _ => ⟨(Array.getElem?_eq_some_iff.1 hg).1, hQ⟩, fun j k hj => ?_⟩
  have hj0 : j = 0 := by
    have := (List.getElem?_eq_some_iff.1 hj).1
    simp at this
    omega
  subst hj0
  obtain rfl : i = k := by simpa using hj
  obtain ⟨x0, x1, x2, x3, x4⟩ := cells_of5 hg
  exact ⟨dv, kv, by simpa using x0, by simpa using x1, by simpa using x2, by simpa using x3, by simpa using x4, h⟩

theorem cells_of10 {w : World} {b : Nat} {x y z u v x' y' z' u' v' : Value} {t : TypeId} (h : w.heap[b]? = some (.cells #[x, y, z, u, v, x', y', z', u', v'] t (0, 0))) :
    w.cell? ⟨b, 0, none⟩ = some x ∧ w.cell? ⟨b, 1, none⟩ = some y ∧ w.cell? ⟨b, 2, none⟩ = some z ∧ w.cell? ⟨b, 3, none⟩ = some u ∧ w.cell? ⟨b, 4, none⟩ = some v ∧
    w.cell? ⟨b, 5, none⟩ = some x' ∧ w.cell? ⟨b, 6, none⟩ = some y' ∧ w.cell? ⟨b, 7, none⟩ = some z' ∧ w.cell? ⟨b, 8, none⟩ = some u' ∧ w.cell? ⟨b, 9, none⟩ = some v' := by
  simp [World.cell?, h]

theorem kids_two {Q : Nat → Prop} {w : World} {n g : Nat} {i i' : It} {dv kv dv' kv' : Value} {t : TypeId} (hg : w.heap[g]? = some (.cells #[.int .i64 i.tag, .int .i64 i.typ, .int .i64 i.int, dv, kv, .int .i64 i'.tag, .int .i64 i'.typ, .int .i64 i'.int, dv', kv'] t (0, 0))) (hQ : Q g) (h : ItAt Q w n i dv kv) (h' : ItAt Q w n i' dv' kv') :
    KidsAt Q w (ItAt Q w n) (.slice (some ⟨g, 0, none⟩) 2 2) [i, i'] := by
  refine Or.inr ⟨⟨g, 0, none⟩, 2, rfl, fun _ => rfl, Nat.le_refl _, by unfold maxLen; omega, fun _ => ⟨(Array.getElem?_eq_some_iff.1 hg).1, hQ⟩, fun j k hj => ?_⟩
  have hj0 : j = 0 ∨ j = 1 := by
    have := (List.getElem?_eq_some_iff.1 hj).1
    simp at this
    omega
  obtain ⟨x0, x1, x2, x3, x4, x5, x6, x7, x8, x9⟩ := cells_of10 hg
  rcases hj0 with rfl | rfl
  · obtain rfl : i = k := by simpa using hj
    exact ⟨dv, kv, by simpa using x0, by simpa using x1, by simpa using x2, by simpa using x3, by simpa using x4, h⟩
  · obtain rfl : i' = k := by simpa using hj
    exact ⟨dv', kv', by simpa using x5, by simpa using x6, by simpa using x7, by simpa using x8, by simpa using x9, h'⟩

/-- a structure whose kids lie there -/
theorem itAt_of {Q : Nat → Prop} {w : World} {n : Nat} {kv : Value} {ks : List It} (h : KidsAt Q w (ItAt Q w n) kv ks) (t y k : Int) : ItAt Q w (n + 1) (.mk t y k [] ks) (.slice none 0 0) kv :=
  ⟨Or.inl ⟨rfl, rfl⟩, fun h => absurd rfl h, h⟩

/-- a structure of one, of two -/
def s1 (i : It) : It := .mk 4325378 1 0 [] [i]
def s2 (i j : It) : It := .mk 4325378 1 0 [] [i, j]
theorem s1_size (i : It) : (s1 i).size = 8 + i.size := by rw [s1, It.size, if_pos rfl, It.sizeAll, It.sizeAll]; omega
theorem s2_size (i j : It) : (s2 i j).size = 8 + i.size + j.size := by rw [s2, It.size, if_pos rfl, It.sizeAll, It.sizeAll, It.sizeAll]; omega
theorem s1_small {m : Nat} {i : It} (h : i.small m) : (s1 i).small m := by
  rw [s1, It.small]
  exact ⟨by unfold W64; omega, by unfold W64; omega, by unfold W64; omega, Nat.zero_le _, by rw [It.smallAll]; exact ⟨h, trivial⟩⟩
theorem s2_small {m : Nat} {i j : It} (h : i.small m) (h' : j.small m) : (s2 i j).small m := by
  rw [s2, It.small]
  exact ⟨by unfold W64; omega, by unfold W64; omega, by unfold W64; omega, Nat.zero_le _, by rw [It.smallAll, It.smallAll]; exact ⟨h, h', trivial⟩⟩
end Tt
end Go.Proofs.YtedmfjnmclbkpabDoor
