/-
  Arrays of bytes among the arguments.
-/
import Derived.Test.YtdmcnblnoiahcaaAeSt
import Derived.Test.YtdmcnblnoiahcaaArgB
import Derived.OpenShut
namespace Go.Proofs.Ytdmcnblnoiahcaa
open Go.ChangeShapes Go.WideShapes Go.ChangeAt Go.ChangeMaps Go.RowKit
set_option linter.unusedSimpArgs false
set_option linter.unusedVariables false
namespace Ae
variable {H : Type} {enc : TypeId × Value → H} {w : World} {base : Nat} {spare : Nat → Bool} {held : Bool}

set_option maxRecDepth 100000 in
theorem okWide_arr {r : Reach} {b0 t n e : Nat} {v : Value} (ht : Try.prog.underlying t = some (.array n e)) (h : Value.okWide Try.prog w r b0 t v) : ∃ cs : Array Value, v = .agg cs ∧ cs.size = Try.prog.cellsOf t := by
  unfold Value.okWide at h
  rw [ht] at h
  obtain ⟨cs, h1, h2, _⟩ := h
  exact ⟨cs, h1, h2⟩

set_option maxRecDepth 100000 in
theorem arr_of_trod {n t fuel : Nat} {cs : Array Value} {x : DataW H × List MemPlace} (ht : Try.prog.underlying t = some (.array n 5)) (hc : Try.prog.cellsOf t = n)
    (h : DataW.trod enc Try.prog w base spare held fuel t cs.toList = some x) : ∃ us : List UInt8, us.length = n ∧ cs = (us.map bv).toArray := by
  obtain ⟨xs, m, _, _, hl, hlen, hf⟩ := DataW.trod_array ht h
  rw [hc] at hl
  have hcell : ∀ i : Fin n, ∃ u : UInt8, cs.toList[i.1]? = some (bv u) := by
    intro i
    have h1 := hf i.1 i.2
    rw [Try.cells5, Nat.mul_one, List.getElem?_eq_getElem (by omega)] at h1
    obtain ⟨z, hz, _, wz⟩ := DataW.trod_int Try.underlying5 h1
    have h2 : cs.toList[i.1]? = some (.int .u8 z) := by
      have h3 := congrArg (fun l => l[0]?) hz
      simpa [List.getElem?_take, List.getElem?_drop] using h3
    exact ⟨UInt8.ofNat z.toNat, by rw [h2, bv_of_wf wz]⟩
  let f : Fin n → UInt8 := fun i => (hcell i).choose
  have hfs : ∀ i, cs.toList[i.1]? = some (bv (f i)) := fun i => (hcell i).choose_spec
  refine ⟨List.ofFn f, by simp, ?_⟩
  apply Array.ext'
  apply List.ext_getElem?
  intro i
  by_cases hi : i < n
  · rw [hfs ⟨i, hi⟩]
    simp [hi]
  · rw [List.getElem?_eq_none (by omega), List.getElem?_eq_none (by simp; omega)]

theorem Try.cells32 : Try.prog.cellsOf 29 = 32 := by kernel_rfl
theorem Try.cells16 : Try.prog.cellsOf 36 = 16 := by kernel_rfl
end Ae
end Go.Proofs.Ytdmcnblnoiahcaa
