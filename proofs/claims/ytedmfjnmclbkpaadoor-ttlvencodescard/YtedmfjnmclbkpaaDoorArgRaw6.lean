/-
  What locksmithlaw6's []Raw reads as.
-/
import Derived.Test.YtedmfjnmclbkpaaDoorArgB
import Derived.Test.YtedmfjnmclbkpaaDoorTtIt
namespace Go.Proofs.YtedmfjnmclbkpaaDoor
open Go.RowKit Go.ChangeShapes Go.WideShapes Go.ChangeAt Go.Deep
set_option linter.unusedSimpArgs false
set_option linter.unusedVariables false
namespace Tt

theorem Tryd.cellsRaw6 : Tryd.prog.cellsOf 61 = 6 := by kernel_rfl
theorem Tryd.cellsInt6 : Tryd.prog.cellsOf 3 = 1 := by kernel_rfl
theorem Tryd.cellsLong6 : Tryd.prog.cellsOf 2 = 1 := by kernel_rfl
theorem Tryd.cellsBytes6 : Tryd.prog.cellsOf 22 = 1 := by kernel_rfl

/-- a raw item -/
structure Raw6 where
  typ : Int
  parent : Int
  tag : Int
  num : Int
  dv : Value
  data : List UInt8
  odd : Int

def Raw6.cells (r : Raw6) : List Value := [.int .i64 r.typ, .int .i64 r.parent, .int .i64 r.tag, .int .i64 r.num, r.dv, .int .i64 r.odd]
structure Raw6.Ok (w : World) (r : Raw6) : Prop where
  data : Has w r.dv r.data
  typ : W64 r.typ
  tag : W64 r.tag
  num : W64 r.num

/-- v reads as m raw items -/
structure Raws6 (w : World) (v : Value) (m : Nat) (X : Nat → Raw6) : Prop where
  shape : ∃ ao cap, v = .slice ao m cap ∧ m ≤ cap ∧ cap ≤ maxLen ∧ (0 < m → ∃ bb off, ao = some ⟨bb, off, none⟩ ∧ bb < w.heap.size ∧
    ∀ i, i < m → w.cell? ⟨bb, off + i * 6, none⟩ = some (.int .i64 (X i).typ) ∧ w.cell? ⟨bb, off + i * 6 + 1, none⟩ = some (.int .i64 (X i).parent) ∧ w.cell? ⟨bb, off + i * 6 + 2, none⟩ = some (.int .i64 (X i).tag) ∧ w.cell? ⟨bb, off + i * 6 + 3, none⟩ = some (.int .i64 (X i).num) ∧ w.cell? ⟨bb, off + i * 6 + 4, none⟩ = some (X i).dv ∧ w.cell? ⟨bb, off + i * 6 + 5, none⟩ = some (.int .i64 (X i).odd))
  each : ∀ i, i < m → (X i).Ok w

theorem Raws6.same {w w' : World} {v : Value} {m : Nat} {X : Nat → Raw6} (h : Raws6 w v m X) (ho : Only (fun _ => False) w w') : Raws6 w' v m X := by
  obtain ⟨⟨ao, cap, e, h1, h2, h3⟩, h4⟩ := h
  refine ⟨⟨ao, cap, e, h1, h2, fun h0 => ?_⟩, fun i hi => ⟨(h4 i hi).data.only ho (fun _ _ _ e => e), (h4 i hi).typ, (h4 i hi).tag, (h4 i hi).num⟩⟩
  obtain ⟨bb, off, e2, hb, hc⟩ := h3 h0
  refine ⟨bb, off, e2, Nat.lt_of_lt_of_le hb ho.size, fun i hi => ?_⟩
  obtain ⟨k0, k1, k2, k3, k4, k5⟩ := hc i hi
  exact ⟨ho.cell k0 (fun e => e), ho.cell k1 (fun e => e), ho.cell k2 (fun e => e), ho.cell k3 (fun e => e), ho.cell k4 (fun e => e), ho.cell k5 (fun e => e)⟩

section
variable {H : Type} {enc : TypeId × Value → H} {w : World} {base : Nat} {spare : Nat → Bool} {held : Bool}

theorem cells_six_at {w : World} {base : Nat} {a : Addr} {cs : List Value} (h : w.cells? base a 6 = some cs) : ∃ c0 c1 c2 c3 c4 c5, cs = [c0, c1, c2, c3, c4, c5] ∧ w.cell? a = some c0 ∧ w.cell? (a.add 1) = some c1 ∧ w.cell? (a.add 2) = some c2 ∧ w.cell? (a.add 3) = some c3 ∧ w.cell? (a.add 4) = some c4 ∧ w.cell? (a.add 5) = some c5 := by
  obtain ⟨_, hl, hc⟩ := World.cells?_some h
  match cs, hl with
  | [c0, c1, c2, c3, c4, c5], _ =>
    refine ⟨c0, c1, c2, c3, c4, c5, rfl, ?_, ?_, ?_, ?_, ?_, ?_⟩
    · simpa [Addr.add] using hc 0 (by decide)
    · simpa using hc 1 (by decide)
    · simpa using hc 2 (by decide)
    · simpa using hc 3 (by decide)
    · simpa using hc 4 (by decide)
    · simpa using hc 5 (by decide)

theorem trod_struct6 {P : Program} {t : TypeId} {f0 f1 f2 f3 f4 f5 : Field} {fuel : Nat} {cs : List Value} {x : DataW H × List MemPlace} (ht : P.underlying t = some (.struct #[f0, f1, f2, f3, f4, f5])) (h : DataW.trod enc P w base spare held fuel t cs = some x) :
    ∃ y0 y1 y2 y3 y4 y5 n, cs.length = P.cellsOf t ∧ DataW.trod enc P w base spare held n f0.type ((cs.drop f0.offset).take (P.cellsOf f0.type)) = some y0 ∧ DataW.trod enc P w base spare held n f1.type ((cs.drop f1.offset).take (P.cellsOf f1.type)) = some y1 ∧
      DataW.trod enc P w base spare held n f2.type ((cs.drop f2.offset).take (P.cellsOf f2.type)) = some y2 ∧ DataW.trod enc P w base spare held n f3.type ((cs.drop f3.offset).take (P.cellsOf f3.type)) = some y3 ∧ DataW.trod enc P w base spare held n f4.type ((cs.drop f4.offset).take (P.cellsOf f4.type)) = some y4 ∧ DataW.trod enc P w base spare held n f5.type ((cs.drop f5.offset).take (P.cellsOf f5.type)) = some y5 := by
  obtain ⟨xs, n, _, _, hl, hlen, hf⟩ := DataW.trod_struct ht h
  match xs, hlen with
  | [y0, y1, y2, y3, y4, y5], _ => exact ⟨y0, y1, y2, y3, y4, y5, n, hl, by simpa using hf 0 f0 rfl, by simpa using hf 1 f1 rfl, by simpa using hf 2 f2 rfl, by simpa using hf 3 f3 rfl, by simpa using hf 4 f4 rfl, by simpa using hf 5 f5 rfl⟩

theorem w64_of {a : Int} (h : (Lit.int .i64 a).wf = true) : W64 a := by simpa [W64, Lit.wf, IntKind.min, IntKind.max, IntKind.signed, IntKind.bits] using h

set_option maxRecDepth 100000 in
theorem raw6_of_trod {fuel : Nat} {cs : List Value} {x : DataW H × List MemPlace} (h : DataW.trod enc Tryd.prog w base spare held fuel 61 cs = some x) :
    ∃ r : Raw6, cs = r.cells ∧ r.Ok w := by
  obtain ⟨y0, y1, y2, y3, y4, y5, n, hl, h0, h1, h2, h3, h4, h5⟩ := trod_struct6 Tryd.underlying61 h
  rw [Tryd.cellsRaw6] at hl
  match cs, hl with
  | [c0, c1, c2, c3, c4, c5], _ =>
    simp only [Tryd.cellsInt6, Tryd.cellsLong6, Tryd.cellsBytes6, List.drop_zero, List.take_succ_cons, List.take_zero, List.drop_succ_cons] at h0 h1 h2 h3 h4 h5
    obtain ⟨a0, e0, _, wa0⟩ := DataW.trod_int Tryd.underlying3 h0
    obtain ⟨a1, e1, _, wa1⟩ := DataW.trod_int Tryd.underlying3 h1
    obtain ⟨a2, e2, _, wa2⟩ := DataW.trod_int Tryd.underlying3 h2
    obtain ⟨a3, e3, _, wa3⟩ := DataW.trod_int Tryd.underlying2 h3
    obtain ⟨us, hus, _⟩ := has_of_trod h4
    obtain ⟨a5, e5, _, wa5⟩ := DataW.trod_int Tryd.underlying3 h5
    simp only [List.cons.injEq, and_true] at e0 e1 e2 e3 e5
    subst e0; subst e1; subst e2; subst e3; subst e5
    exact ⟨⟨a0, a1, a2, a3, c4, us, a5⟩, rfl, hus, w64_of wa0, w64_of wa2, w64_of wa3⟩

theorem raws6_of_trod {fuel : Nat} {v : Value} {x : DataW H × List MemPlace} (h : DataW.trod enc Tryd.prog w base spare held fuel 34 [v] = some x) : ∃ m X, Raws6 w v m X := by
  rcases open_slice Tryd.underlying34 h with ⟨hcs, hx⟩ | ⟨a, len, cap, m, n, D, Pl, hcs, hb, hl, hm, hmm, hx, hel⟩
  · simp only [List.cons.injEq, and_true] at hcs
    subst hcs
    exact ⟨0, fun _ => ⟨0, 0, 0, 0, .bool false, [], 0⟩, ⟨⟨none, 0, rfl, Nat.le_refl _, Nat.zero_le _, fun h => by omega⟩, fun i hi => by omega⟩⟩
  · simp only [List.cons.injEq, and_true] at hcs
    subst hcs
    have hlm : len ≤ m := by rw [hmm]; split <;> omega
    rw [Tryd.cellsRaw6] at hel
    have key : ∀ i, i < len → ∃ s : Raw6, (w.cell? (a.add (i * 6)) = some (.int .i64 s.typ) ∧ w.cell? ((a.add (i * 6)).add 1) = some (.int .i64 s.parent) ∧ w.cell? ((a.add (i * 6)).add 2) = some (.int .i64 s.tag) ∧ w.cell? ((a.add (i * 6)).add 3) = some (.int .i64 s.num) ∧ w.cell? ((a.add (i * 6)).add 4) = some s.dv ∧ w.cell? ((a.add (i * 6)).add 5) = some (.int .i64 s.odd)) ∧ s.Ok w := by
      intro i hi
      obtain ⟨cs, hc, ht⟩ := hel i (by omega)
      obtain ⟨c0, c1, c2, c3, c4, c5, rfl, k0, k1, k2, k3, k4, k5⟩ := cells_six_at hc
      obtain ⟨s, e, hq⟩ := raw6_of_trod ht
      simp only [Raw6.cells, List.cons.injEq, and_true] at e
      obtain ⟨rfl, rfl, rfl, rfl, rfl, rfl⟩ := e
      exact ⟨s, ⟨k0, k1, k2, k3, k4, k5⟩, hq⟩
    haveI : Inhabited Raw6 := ⟨⟨0, 0, 0, 0, .bool false, [], 0⟩⟩
    obtain ⟨X, hX⟩ := choose_lt key
    refine ⟨len, X, ⟨⟨some a, cap, rfl, hl, hm, fun h0 => ?_⟩, fun i hi => (hX i hi).2⟩⟩
    have hs0 : a.spot = none := by
      have := spot_of_cell (hX 0 h0).1.1
      simpa [Addr.add] using this
    have hbl := World.block_lt_of_cell? w _ (hX 0 h0).1.1
    refine ⟨a.block, a.off, ?_, by simpa [Addr.add] using hbl, fun i hi => ?_⟩
    · obtain ⟨b, o, s⟩ := a
      simp only at hs0
      subst hs0
      rfl
    · have h3 := (hX i hi).1
      rw [addr_add a hs0] at h3
      refine ⟨h3.1, ?_, ?_, ?_, ?_, ?_⟩
      · have := h3.2.1; rwa [addr_add _ rfl] at this
      · have := h3.2.2.1; rwa [addr_add _ rfl] at this
      · have := h3.2.2.2.1; rwa [addr_add _ rfl] at this
      · have := h3.2.2.2.2.1; rwa [addr_add _ rfl] at this
      · have := h3.2.2.2.2.2; rwa [addr_add _ rfl] at this
end
end Tt
end Go.Proofs.YtedmfjnmclbkpaaDoor
