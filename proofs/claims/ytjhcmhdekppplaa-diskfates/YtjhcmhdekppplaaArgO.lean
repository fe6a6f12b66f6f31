/-
  What []bool arguments read as; for whatever seat that has them.
-/
import Derived.Test.YtjhcmhdekppplaaArgV
namespace Go.Proofs.Ytjhcmhdekppplaa
open Go.RowKit Go.ChangeShapes Go.WideShapes Go.ChangeAt Go.Deep
set_option linter.unusedSimpArgs false
set_option linter.unusedVariables false

section
variable {H : Type} {enc : TypeId × Value → H} {w : World} {base : Nat} {held : Bool}

theorem bools_of_trod {fuel : Nat} {v : Value} {x : DataW H × List MemPlace} (h : DataW.trod enc Try.prog w base (fun _ => true) held fuel 47 [v] = some x) : ∃ fs : List Bool, HasV w v (fs.map .bool) := by
  rcases open_bools Try.underlying47 Try.underlying4 Try.cellsBool h with ⟨hcs, hx⟩ | ⟨a, len, cap, B, hcs, _, hl, hm, hx, hcell⟩
  · simp only [List.cons.injEq, and_true] at hcs
    subst hcs
    exact ⟨[], Or.inl ⟨rfl, rfl⟩⟩
  · simp only [List.cons.injEq, and_true] at hcs
    subst hcs
    have hlen : (((List.range len).map B).map Value.bool).length = len := by simp
    have hsp : 0 < len → a.spot = none := fun h0 => by
      have := spot_of_cell (hcell 0 (by omega))
      simpa [Addr.add] using this
    refine ⟨(List.range len).map B, Or.inr ⟨a, cap, by rw [hlen], fun h0 => hsp (by omega), by omega, hm, fun h0 => ?_, fun j hj => ?_⟩⟩
    · have := World.block_lt_of_cell? w _ (hcell 0 (by omega))
      simpa [Addr.add] using this
    · rw [hlen] at hj
      have h1 := hcell j (by omega)
      rw [addr_add a (hsp (by omega))] at h1
      rw [h1]
      simp
end

end Go.Proofs.Ytjhcmhdekppplaa
