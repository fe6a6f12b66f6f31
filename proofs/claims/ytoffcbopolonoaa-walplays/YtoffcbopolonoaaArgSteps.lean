/-
  What []int and []bool arguments read as; for whatever seat that has them.
  What locksmithlaw4's []Step reads as: two numbers, sizes, fates, bytes.
-/
import Derived.Test.YtoffcbopolonoaaArgB
import Derived.Test.YtoffcbopolonoaaRow
import Derived.Deep.Grids
namespace Go.Proofs.Ytoffcbopolonoaa
open Go.RowKit Go.ChangeShapes Go.WideShapes Go.ChangeAt Go.Deep
set_option linter.unusedSimpArgs false
set_option linter.unusedVariables false

theorem Try.cellsInt : Try.prog.cellsOf 3 = 1 := by kernel_rfl
theorem Try.cellsBool : Try.prog.cellsOf 4 = 1 := by kernel_rfl

section
variable {H : Type} {enc : TypeId × Value → H} {w : World} {base : Nat} {spare : Nat → Bool} {held : Bool}

theorem ints_of_trod {fuel : Nat} {v : Value} {x : DataW H × List MemPlace} (h : DataW.trod enc Try.prog w base spare held fuel 46 [v] = some x) : ∃ fs : List Int, HasV w v (fs.map (.int .i64)) ∧ ∀ f ∈ fs, -9223372036854775808 ≤ f ∧ f ≤ 9223372036854775807 := by
  rcases open_ints Try.underlying46 Try.underlying3 Try.cellsInt h with ⟨hcs, hx⟩ | ⟨a, len, cap, zs, hcs, _, hl, hm, hz, hx, hcell, hwf⟩
  · simp only [List.cons.injEq, and_true] at hcs
    subst hcs
    exact ⟨[], Or.inl ⟨rfl, rfl⟩, fun f hf => by cases hf⟩
  · simp only [List.cons.injEq, and_true] at hcs
    subst hcs
    have hlz : len ≤ zs.length := by rw [hz]; split <;> omega
    have hlen : ((zs.take len).map (Value.int .i64)).length = len := by simp; omega
    have hsp : 0 < len → a.spot = none := fun h0 => by
      have := spot_of_cell (hcell 0 (by omega))
      simpa [Addr.add] using this
    refine ⟨zs.take len, Or.inr ⟨a, cap, by rw [hlen], fun h0 => hsp (by omega), by omega, hm, fun h0 => ?_, fun j hj => ?_⟩, fun f hf => ?_⟩
    · have := World.block_lt_of_cell? w _ (hcell 0 (by omega))
      simpa [Addr.add] using this
    · rw [hlen] at hj
      have h1 := hcell j (by omega)
      rw [addr_add a (hsp (by omega))] at h1
      rw [h1]
      have : j < zs.length := by omega
      simp [List.getD, this]
    · have := hwf f (List.mem_of_mem_take hf)
      simpa [Lit.wf, IntKind.min, IntKind.max, IntKind.signed, IntKind.bits] using this
end

end Go.Proofs.Ytoffcbopolonoaa

namespace Go.Proofs.Ytoffcbopolonoaa
open Go.RowKit Go.ChangeShapes Go.WideShapes Go.ChangeAt Go.Deep
set_option linter.unusedSimpArgs false
set_option linter.unusedVariables false

theorem Try.cellsStep4 : Try.prog.cellsOf 48 = 5 := by kernel_rfl
theorem Try.cellsBytes4 : Try.prog.cellsOf 32 = 1 := by kernel_rfl
theorem Try.cellsInts4 : Try.prog.cellsOf 46 = 1 := by kernel_rfl

/-- one step -/
structure St4 where
  what : Int
  num : Int
  sv : Value
  ss : List Int
  fv : Value
  fs : List Int
  ov : Value
  os : List UInt8

/-- an int that may be -/
def I64 (n : Int) : Prop := -9223372036854775808 ≤ n ∧ n ≤ 9223372036854775807

/-- what one step's parts read as -/
structure Step4 (w : World) (s : St4) : Prop where
  sizes : HasV w s.sv (s.ss.map (.int .i64))
  fates : HasV w s.fv (s.fs.map (.int .i64))
  odd : Has w s.ov s.os
  num : I64 s.num
  what : I64 s.what

def St4.cells (s : St4) : List Value := [.int .i64 s.what, .int .i64 s.num, s.sv, s.fv, s.ov]

/-- v reads as m steps -/
structure Steps4 (w : World) (v : Value) (m : Nat) (X : Nat → St4) : Prop where
  shape : ∃ ao cap, v = .slice ao m cap ∧ m ≤ cap ∧ cap ≤ maxLen ∧ (0 < m → ∃ bb off, ao = some ⟨bb, off, none⟩ ∧ bb < w.heap.size ∧
    ∀ i, i < m → w.cell? ⟨bb, off + i * 5, none⟩ = some (.int .i64 (X i).what) ∧ w.cell? ⟨bb, off + i * 5 + 1, none⟩ = some (.int .i64 (X i).num) ∧ w.cell? ⟨bb, off + i * 5 + 2, none⟩ = some (X i).sv ∧ w.cell? ⟨bb, off + i * 5 + 3, none⟩ = some (X i).fv ∧ w.cell? ⟨bb, off + i * 5 + 4, none⟩ = some (X i).ov)
  each : ∀ i, i < m → Step4 w (X i)

theorem Step4.same {w w' : World} {s : St4} (h : Step4 w s) (ho : Only (fun _ => False) w w') : Step4 w' s :=
  ⟨h.sizes.only ho (fun _ _ _ h => h), h.fates.only ho (fun _ _ _ h => h), h.odd.only ho (fun _ _ _ h => h), h.num, h.what⟩

section
variable {H : Type} {enc : TypeId × Value → H} {w : World} {base : Nat} {spare : Nat → Bool} {held : Bool}

theorem cells_five_at {w : World} {base : Nat} {a : Addr} {cs : List Value} (h : w.cells? base a 5 = some cs) : ∃ c0 c1 c2 c3 c4, cs = [c0, c1, c2, c3, c4] ∧ w.cell? a = some c0 ∧ w.cell? (a.add 1) = some c1 ∧ w.cell? (a.add 2) = some c2 ∧ w.cell? (a.add 3) = some c3 ∧ w.cell? (a.add 4) = some c4 := by
  obtain ⟨_, hl, hc⟩ := World.cells?_some h
  match cs, hl with
  | [c0, c1, c2, c3, c4], _ =>
    refine ⟨c0, c1, c2, c3, c4, rfl, ?_, ?_, ?_, ?_, ?_⟩
    · simpa [Addr.add] using hc 0 (by decide)
    · simpa using hc 1 (by decide)
    · simpa using hc 2 (by decide)
    · simpa using hc 3 (by decide)
    · simpa using hc 4 (by decide)

theorem trod_struct5 {P : Program} {t : TypeId} {f0 f1 f2 f3 f4 : Field} {fuel : Nat} {cs : List Value} {x : DataW H × List MemPlace} (ht : P.underlying t = some (.struct #[f0, f1, f2, f3, f4])) (h : DataW.trod enc P w base spare held fuel t cs = some x) :
    ∃ y0 y1 y2 y3 y4 n, cs.length = P.cellsOf t ∧ DataW.trod enc P w base spare held n f0.type ((cs.drop f0.offset).take (P.cellsOf f0.type)) = some y0 ∧ DataW.trod enc P w base spare held n f1.type ((cs.drop f1.offset).take (P.cellsOf f1.type)) = some y1 ∧
      DataW.trod enc P w base spare held n f2.type ((cs.drop f2.offset).take (P.cellsOf f2.type)) = some y2 ∧ DataW.trod enc P w base spare held n f3.type ((cs.drop f3.offset).take (P.cellsOf f3.type)) = some y3 ∧ DataW.trod enc P w base spare held n f4.type ((cs.drop f4.offset).take (P.cellsOf f4.type)) = some y4 := by
  obtain ⟨xs, n, _, _, hl, hlen, hf⟩ := DataW.trod_struct ht h
  match xs, hlen with
  | [y0, y1, y2, y3, y4], _ => exact ⟨y0, y1, y2, y3, y4, n, hl, by simpa using hf 0 f0 rfl, by simpa using hf 1 f1 rfl, by simpa using hf 2 f2 rfl, by simpa using hf 3 f3 rfl, by simpa using hf 4 f4 rfl⟩

set_option maxRecDepth 100000 in
theorem step4_of_trod {fuel : Nat} {cs : List Value} {x : DataW H × List MemPlace} (h : DataW.trod enc Try.prog w base spare held fuel 48 cs = some x) :
    ∃ s : St4, cs = s.cells ∧ Step4 w s := by
  obtain ⟨y0, y1, y2, y3, y4, n, hl, h0, h1, h2, h3, h4⟩ := trod_struct5 Try.underlying48 h
  rw [Try.cellsStep4] at hl
  match cs, hl with
  | [c0, c1, c2, c3, c4], _ =>
    simp only [Try.cellsInt, Try.cellsInts4, Try.cellsBytes4, List.drop_zero, List.take_succ_cons, List.take_zero, List.drop_succ_cons] at h0 h1 h2 h3 h4
    obtain ⟨a0, e0, _, wa0⟩ := DataW.trod_int Try.underlying3 h0
    obtain ⟨a1, e1, _, wa1⟩ := DataW.trod_int Try.underlying3 h1
    obtain ⟨ss, hss, _⟩ := ints_of_trod h2
    obtain ⟨fs, hfs, _⟩ := ints_of_trod h3
    obtain ⟨bs, hb, hlb⟩ := has_of_trod h4
    simp only [List.cons.injEq, and_true] at e0 e1
    subst e0; subst e1
    have h0' : -9223372036854775808 ≤ a0 ∧ a0 ≤ 9223372036854775807 := by simpa [Lit.wf, IntKind.min, IntKind.max, IntKind.signed, IntKind.bits] using wa0
    have h1' : -9223372036854775808 ≤ a1 ∧ a1 ≤ 9223372036854775807 := by simpa [Lit.wf, IntKind.min, IntKind.max, IntKind.signed, IntKind.bits] using wa1
    exact ⟨⟨a0, a1, c2, ss, c3, fs, c4, bs⟩, rfl, ⟨hss, hfs, hb, h1', h0'⟩⟩

theorem steps4_of_trod {fuel : Nat} {v : Value} {x : DataW H × List MemPlace} (h : DataW.trod enc Try.prog w base spare held fuel 39 [v] = some x) : ∃ m X, Steps4 w v m X := by
  rcases open_slice Try.underlying39 h with ⟨hcs, hx⟩ | ⟨a, len, cap, m, n, D, Pl, hcs, hb, hl, hm, hmm, hx, hel⟩
  · simp only [List.cons.injEq, and_true] at hcs
    subst hcs
    exact ⟨0, fun _ => ⟨0, 0, .slice none 0 0, [], .slice none 0 0, [], .slice none 0 0, []⟩, ⟨⟨none, 0, rfl, Nat.le_refl _, Nat.zero_le _, fun h => by omega⟩, fun i hi => by omega⟩⟩
  · simp only [List.cons.injEq, and_true] at hcs
    subst hcs
    have hlm : len ≤ m := by rw [hmm]; split <;> omega
    rw [Try.cellsStep4] at hel
    have key : ∀ i, i < len → ∃ s : St4, (w.cell? (a.add (i * 5)) = some (.int .i64 s.what) ∧ w.cell? ((a.add (i * 5)).add 1) = some (.int .i64 s.num) ∧ w.cell? ((a.add (i * 5)).add 2) = some s.sv ∧ w.cell? ((a.add (i * 5)).add 3) = some s.fv ∧ w.cell? ((a.add (i * 5)).add 4) = some s.ov) ∧ Step4 w s := by
      intro i hi
      obtain ⟨cs, hc, ht⟩ := hel i (by omega)
      obtain ⟨c0, c1, c2, c3, c4, rfl, k0, k1, k2, k3, k4⟩ := cells_five_at hc
      obtain ⟨s, e, hq⟩ := step4_of_trod ht
      simp only [St4.cells, List.cons.injEq, and_true] at e
      obtain ⟨rfl, rfl, rfl, rfl, rfl⟩ := e
      exact ⟨s, ⟨k0, k1, k2, k3, k4⟩, hq⟩
    haveI : Inhabited St4 := ⟨⟨0, 0, .slice none 0 0, [], .slice none 0 0, [], .slice none 0 0, []⟩⟩
    obtain ⟨X, hX⟩ := choose_lt key
    refine ⟨len, X, ⟨⟨some a, cap, rfl, hl, hm, fun h0 => ?_⟩, fun i hi => (hX i hi).2⟩⟩
    have hs0 : a.spot = none := by
      have := spot_of_cell (hX 0 h0).1.1
      simpa [Addr.add] using this
    have hbl := World.block_lt_of_cell? w _ (hX 0 h0).1.1
    refine ⟨a.block, a.off, ?_, by simpa [Addr.add] using hbl, fun i hi => ?_⟩
    · obtain ⟨b, o, s⟩ := a
      simp only at hs0
      subst hs0
      rfl
    · have h3 := (hX i hi).1
      rw [addr_add a hs0] at h3
      refine ⟨h3.1, ?_, ?_, ?_, ?_⟩
      · have := h3.2.1; rwa [addr_add _ rfl] at this
      · have := h3.2.2.1; rwa [addr_add _ rfl] at this
      · have := h3.2.2.2.1; rwa [addr_add _ rfl] at this
      · have := h3.2.2.2.2; rwa [addr_add _ rfl] at this
end

end Go.Proofs.Ytoffcbopolonoaa
