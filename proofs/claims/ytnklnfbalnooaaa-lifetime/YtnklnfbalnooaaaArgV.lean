/-
  What []int and []bool arguments read as; for whatever seat that has them.
-/
import Derived.Test.YtnklnfbalnooaaaArgB
import Derived.Test.YtnklnfbalnooaaaRow
import Derived.Deep.Grids
namespace Go.Proofs.Ytnklnfbalnooaaa
open Go.RowKit Go.ChangeShapes Go.WideShapes Go.ChangeAt Go.Deep
set_option linter.unusedSimpArgs false
set_option linter.unusedVariables false

theorem Try.cellsInt : Try.prog.cellsOf 3 = 1 := by kernel_rfl
theorem Try.cellsBool : Try.prog.cellsOf 4 = 1 := by kernel_rfl

section
variable {H : Type} {enc : TypeId × Value → H} {w : World} {base : Nat} {spare : Nat → Bool} {held : Bool}

theorem ints_of_trod {fuel : Nat} {v : Value} {x : DataW H × List MemPlace} (h : DataW.trod enc Try.prog w base spare held fuel 41 [v] = some x) : ∃ fs : List Int, HasV w v (fs.map (.int .i64)) ∧ ∀ f ∈ fs, -9223372036854775808 ≤ f ∧ f ≤ 9223372036854775807 := by
  rcases open_ints Try.underlying41 Try.underlying3 Try.cellsInt h with ⟨hcs, hx⟩ | ⟨a, len, cap, zs, hcs, _, hl, hm, hz, hx, hcell, hwf⟩
  · simp only [List.cons.injEq, and_true] at hcs
    subst hcs
    exact ⟨[], Or.inl ⟨rfl, rfl⟩, fun f hf => by cases hf⟩
  · simp only [List.cons.injEq, and_true] at hcs
    subst hcs
    have hlz : len ≤ zs.length := by rw [hz]; split <;> omega
    have hlen : ((zs.take len).map (Value.int .i64)).length = len := by simp; omega
    have hsp : 0 < len → a.spot = none := fun h0 => by
      have := spot_of_cell (hcell 0 (by omega))
      simpa [Addr.add] using this
    refine ⟨zs.take len, Or.inr ⟨a, cap, by rw [hlen], fun h0 => hsp (by omega), by omega, hm, fun h0 => ?_, fun j hj => ?_⟩, fun f hf => ?_⟩
    · have := World.block_lt_of_cell? w _ (hcell 0 (by omega))
      simpa [Addr.add] using this
    · rw [hlen] at hj
      have h1 := hcell j (by omega)
      rw [addr_add a (hsp (by omega))] at h1
      rw [h1]
      have : j < zs.length := by omega
      simp [List.getD, this]
    · have := hwf f (List.mem_of_mem_take hf)
      simpa [Lit.wf, IntKind.min, IntKind.max, IntKind.signed, IntKind.bits] using this
end

end Go.Proofs.Ytnklnfbalnooaaa
