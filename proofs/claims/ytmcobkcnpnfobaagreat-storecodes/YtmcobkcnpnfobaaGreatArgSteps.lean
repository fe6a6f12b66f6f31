/-
  What []int and []bool arguments read as; for whatever seat that has them.
  What locksmithlaw4's []Step reads as: two numbers, sizes, fates, bytes.
-/
import Derived.Test.YtmcobkcnpnfobaaGreatArgB
import Derived.Test.YtmcobkcnpnfobaaGreatRow
import Derived.Deep.Grids
namespace Go.Proofs.YtmcobkcnpnfobaaGreat
open Go.RowKit Go.ChangeShapes Go.WideShapes Go.ChangeAt Go.Deep
set_option linter.unusedSimpArgs false
set_option linter.unusedVariables false

theorem Tryz.cellsInt : Tryz.prog.cellsOf 3 = 1 := by kernel_rfl
theorem Tryz.cellsBool : Tryz.prog.cellsOf 4 = 1 := by kernel_rfl

section
variable {H : Type} {enc : TypeId × Value → H} {w : World} {base : Nat} {spare : Nat → Bool} {held : Bool}

theorem ints_of_trod {fuel : Nat} {v : Value} {x : DataW H × List MemPlace} (h : DataW.trod enc Tryz.prog w base spare held fuel 96 [v] = some x) : ∃ fs : List Int, HasV w v (fs.map (.int .i64)) ∧ ∀ f ∈ fs, -9223372036854775808 ≤ f ∧ f ≤ 9223372036854775807 := by
  rcases open_ints Tryz.underlying96 Tryz.underlying3 Tryz.cellsInt h with ⟨hcs, hx⟩ | ⟨a, len, cap, zs, hcs, _, hl, hm, hz, hx, hcell, hwf⟩
  · simp only [List.cons.injEq, and_true] at hcs
    subst hcs
    exact ⟨[], Or.inl ⟨rfl, rfl⟩, fun f hf => by cases hf⟩
  · simp only [List.cons.injEq, and_true] at hcs
    subst hcs
    have hlz : len ≤ zs.length := by rw [hz]; split <;> omega
    have hlen : ((zs.take len).map (Value.int .i64)).length = len := by simp; omega
    have hsp : 0 < len → a.spot = none := fun h0 => by
      have := spot_of_cell (hcell 0 (by omega))
      simpa [Addr.add] using this
    refine ⟨zs.take len, Or.inr ⟨a, cap, by rw [hlen], fun h0 => hsp (by omega), by omega, hm, fun h0 => ?_, fun j hj => ?_⟩, fun f hf => ?_⟩
    · have := World.block_lt_of_cell? w _ (hcell 0 (by omega))
      simpa [Addr.add] using this
    · rw [hlen] at hj
      have h1 := hcell j (by omega)
      rw [addr_add a (hsp (by omega))] at h1
      rw [h1]
      have : j < zs.length := by omega
      simp [List.getD, this]
    · have := hwf f (List.mem_of_mem_take hf)
      simpa [Lit.wf, IntKind.min, IntKind.max, IntKind.signed, IntKind.bits] using this
end

end Go.Proofs.YtmcobkcnpnfobaaGreat

namespace Go.Proofs.YtmcobkcnpnfobaaGreat
open Go.RowKit Go.ChangeShapes Go.WideShapes Go.ChangeAt Go.Deep
set_option linter.unusedSimpArgs false
set_option linter.unusedVariables false

theorem Tryz.cellsBytes4 : Tryz.prog.cellsOf 24 = 1 := by kernel_rfl
theorem Tryz.cellsInts4 : Tryz.prog.cellsOf 96 = 1 := by kernel_rfl

/-- one step -/
structure St4 where
  what : Int
  num : Int
  sv : Value
  ss : List Int
  fv : Value
  fs : List Int
  ov : Value
  os : List UInt8

/-- an int that may be -/
def I64 (n : Int) : Prop := -9223372036854775808 ≤ n ∧ n ≤ 9223372036854775807

/-- what one step's parts read as -/
structure Step4 (w : World) (s : St4) : Prop where
  sizes : HasV w s.sv (s.ss.map (.int .i64))
  fates : HasV w s.fv (s.fs.map (.int .i64))
  odd : Has w s.ov s.os
  num : I64 s.num
  what : I64 s.what

def St4.cells (s : St4) : List Value := [.int .i64 s.what, .int .i64 s.num, s.sv, s.fv, s.ov]

/-- v reads as m steps -/
structure Steps4 (w : World) (v : Value) (m : Nat) (X : Nat → St4) : Prop where
  shape : ∃ ao cap, v = .slice ao m cap ∧ m ≤ cap ∧ cap ≤ maxLen ∧ (0 < m → ∃ bb off, ao = some ⟨bb, off, none⟩ ∧ bb < w.heap.size ∧
    ∀ i, i < m → w.cell? ⟨bb, off + i * 5, none⟩ = some (.int .i64 (X i).what) ∧ w.cell? ⟨bb, off + i * 5 + 1, none⟩ = some (.int .i64 (X i).num) ∧ w.cell? ⟨bb, off + i * 5 + 2, none⟩ = some (X i).sv ∧ w.cell? ⟨bb, off + i * 5 + 3, none⟩ = some (X i).fv ∧ w.cell? ⟨bb, off + i * 5 + 4, none⟩ = some (X i).ov)
  each : ∀ i, i < m → Step4 w (X i)

theorem Step4.same {w w' : World} {s : St4} (h : Step4 w s) (ho : Only (fun _ => False) w w') : Step4 w' s :=
  ⟨h.sizes.only ho (fun _ _ _ h => h), h.fates.only ho (fun _ _ _ h => h), h.odd.only ho (fun _ _ _ h => h), h.num, h.what⟩

section
variable {H : Type} {enc : TypeId × Value → H} {w : World} {base : Nat} {spare : Nat → Bool} {held : Bool}

theorem cells_five_at {w : World} {base : Nat} {a : Addr} {cs : List Value} (h : w.cells? base a 5 = some cs) : ∃ c0 c1 c2 c3 c4, cs = [c0, c1, c2, c3, c4] ∧ w.cell? a = some c0 ∧ w.cell? (a.add 1) = some c1 ∧ w.cell? (a.add 2) = some c2 ∧ w.cell? (a.add 3) = some c3 ∧ w.cell? (a.add 4) = some c4 := by
  obtain ⟨_, hl, hc⟩ := World.cells?_some h
  match cs, hl with
  | [c0, c1, c2, c3, c4], _ =>
    refine ⟨c0, c1, c2, c3, c4, rfl, ?_, ?_, ?_, ?_, ?_⟩
    · simpa [Addr.add] using hc 0 (by decide)
    · simpa using hc 1 (by decide)
    · simpa using hc 2 (by decide)
    · simpa using hc 3 (by decide)
    · simpa using hc 4 (by decide)

theorem trod_struct5 {P : Program} {t : TypeId} {f0 f1 f2 f3 f4 : Field} {fuel : Nat} {cs : List Value} {x : DataW H × List MemPlace} (ht : P.underlying t = some (.struct #[f0, f1, f2, f3, f4])) (h : DataW.trod enc P w base spare held fuel t cs = some x) :
    ∃ y0 y1 y2 y3 y4 n, cs.length = P.cellsOf t ∧ DataW.trod enc P w base spare held n f0.type ((cs.drop f0.offset).take (P.cellsOf f0.type)) = some y0 ∧ DataW.trod enc P w base spare held n f1.type ((cs.drop f1.offset).take (P.cellsOf f1.type)) = some y1 ∧
      DataW.trod enc P w base spare held n f2.type ((cs.drop f2.offset).take (P.cellsOf f2.type)) = some y2 ∧ DataW.trod enc P w base spare held n f3.type ((cs.drop f3.offset).take (P.cellsOf f3.type)) = some y3 ∧ DataW.trod enc P w base spare held n f4.type ((cs.drop f4.offset).take (P.cellsOf f4.type)) = some y4 := by
  obtain ⟨xs, n, _, _, hl, hlen, hf⟩ := DataW.trod_struct ht h
  match xs, hlen with
  | [y0, y1, y2, y3, y4], _ => exact ⟨y0, y1, y2, y3, y4, n, hl, by simpa using hf 0 f0 rfl, by simpa using hf 1 f1 rfl, by simpa using hf 2 f2 rfl, by simpa using hf 3 f3 rfl, by simpa using hf 4 f4 rfl⟩

end

end Go.Proofs.YtmcobkcnpnfobaaGreat
