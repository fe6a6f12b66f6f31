/-
  Arguments: locksmithhand.Raw, []locksmithhand.Raw.
-/
import Derived.Test.YtadpmninoghcjaaDoorHoSpec
import Derived.Test.YtadpmninoghcjaaDoorArgB
import Derived.Test.YtadpmninoghcjaaDoorRowV
namespace Go.Proofs.YtadpmninoghcjaaDoor
open Go.RowKit Go.ChangeShapes Go.WideShapes Go.ChangeAt Go.Deep
set_option linter.unusedSimpArgs false
set_option linter.unusedVariables false
namespace Ob

theorem Tryd.cellsRawH : Tryd.prog.cellsOf 41 = 4 := by kernel_rfl
theorem Tryd.cellsIntH : Tryd.prog.cellsOf 3 = 1 := by kernel_rfl

/-- v reads as m raw numbers -/
structure RawsH (w : World) (v : Value) (m : Nat) (X : Nat → RawH) : Prop where
  shape : ∃ ao cap, v = .slice ao m cap ∧ m ≤ cap ∧ cap ≤ maxLen ∧ (0 < m → ∃ bb off, ao = some ⟨bb, off, none⟩ ∧ bb < w.heap.size ∧
    ∀ i, i < m → w.cell? ⟨bb, off + i * 4, none⟩ = some (.int .i64 (X i).kind) ∧ w.cell? ⟨bb, off + i * 4 + 1, none⟩ = some (.int .i64 (X i).a) ∧ w.cell? ⟨bb, off + i * 4 + 2, none⟩ = some (.int .i64 (X i).b) ∧ w.cell? ⟨bb, off + i * 4 + 3, none⟩ = some (.int .i64 (X i).c))
  each : ∀ i, i < m → (X i).Ok

theorem RawsH.same {w w' : World} {v : Value} {m : Nat} {X : Nat → RawH} (h : RawsH w v m X) (ho : Only (fun _ => False) w w') : RawsH w' v m X := by
  obtain ⟨⟨ao, cap, e, h1, h2, h3⟩, h4⟩ := h
  refine ⟨⟨ao, cap, e, h1, h2, fun h0 => ?_⟩, h4⟩
  obtain ⟨bb, off, e2, hb, hc⟩ := h3 h0
  refine ⟨bb, off, e2, Nat.lt_of_lt_of_le hb ho.size, fun i hi => ?_⟩
  obtain ⟨k0, k1, k2, k3⟩ := hc i hi
  exact ⟨ho.cell k0 (fun e => e), ho.cell k1 (fun e => e), ho.cell k2 (fun e => e), ho.cell k3 (fun e => e)⟩

section
variable {H : Type} {enc : TypeId × Value → H} {w : World} {base : Nat} {spare : Nat → Bool} {held : Bool}

theorem cells_four_at {w : World} {base : Nat} {a : Addr} {cs : List Value} (h : w.cells? base a 4 = some cs) : ∃ c0 c1 c2 c3, cs = [c0, c1, c2, c3] ∧ w.cell? a = some c0 ∧ w.cell? (a.add 1) = some c1 ∧ w.cell? (a.add 2) = some c2 ∧ w.cell? (a.add 3) = some c3 := by
  obtain ⟨_, hl, hc⟩ := World.cells?_some h
  match cs, hl with
  | [c0, c1, c2, c3], _ =>
    refine ⟨c0, c1, c2, c3, rfl, ?_, ?_, ?_, ?_⟩
    · simpa [Addr.add] using hc 0 (by decide)
    · simpa using hc 1 (by decide)
    · simpa using hc 2 (by decide)
    · simpa using hc 3 (by decide)

theorem trod_struct4 {P : Program} {t : TypeId} {f0 f1 f2 f3 : Field} {fuel : Nat} {cs : List Value} {x : DataW H × List MemPlace} (ht : P.underlying t = some (.struct #[f0, f1, f2, f3])) (h : DataW.trod enc P w base spare held fuel t cs = some x) :
    ∃ y0 y1 y2 y3 n, cs.length = P.cellsOf t ∧ DataW.trod enc P w base spare held n f0.type ((cs.drop f0.offset).take (P.cellsOf f0.type)) = some y0 ∧ DataW.trod enc P w base spare held n f1.type ((cs.drop f1.offset).take (P.cellsOf f1.type)) = some y1 ∧
      DataW.trod enc P w base spare held n f2.type ((cs.drop f2.offset).take (P.cellsOf f2.type)) = some y2 ∧ DataW.trod enc P w base spare held n f3.type ((cs.drop f3.offset).take (P.cellsOf f3.type)) = some y3 := by
  obtain ⟨xs, n, _, _, hl, hlen, hf⟩ := DataW.trod_struct ht h
  match xs, hlen with
  | [y0, y1, y2, y3], _ => exact ⟨y0, y1, y2, y3, n, hl, by simpa using hf 0 f0 rfl, by simpa using hf 1 f1 rfl, by simpa using hf 2 f2 rfl, by simpa using hf 3 f3 rfl⟩

theorem w64_ofH {a : Int} (h : (Lit.int .i64 a).wf = true) : W64 a := by simpa [W64, Lit.wf, IntKind.min, IntKind.max, IntKind.signed, IntKind.bits] using h

set_option maxRecDepth 100000 in
theorem rawH_of_trod {fuel : Nat} {cs : List Value} {x : DataW H × List MemPlace} (h : DataW.trod enc Tryd.prog w base spare held fuel 41 cs = some x) :
    ∃ r : RawH, cs = r.cells ∧ r.Ok := by
  obtain ⟨y0, y1, y2, y3, n, hl, h0, h1, h2, h3⟩ := trod_struct4 Tryd.underlying41 h
  rw [Tryd.cellsRawH] at hl
  match cs, hl with
  | [c0, c1, c2, c3], _ =>
    simp only [Tryd.cellsIntH, List.drop_zero, List.take_succ_cons, List.take_zero, List.drop_succ_cons] at h0 h1 h2 h3
    obtain ⟨a0, e0, _, wa0⟩ := DataW.trod_int Tryd.underlying3 h0
    obtain ⟨a1, e1, _, wa1⟩ := DataW.trod_int Tryd.underlying3 h1
    obtain ⟨a2, e2, _, wa2⟩ := DataW.trod_int Tryd.underlying3 h2
    obtain ⟨a3, e3, _, wa3⟩ := DataW.trod_int Tryd.underlying3 h3
    simp only [List.cons.injEq, and_true] at e0 e1 e2 e3
    subst e0; subst e1; subst e2; subst e3
    exact ⟨⟨a0, a1, a2, a3⟩, rfl, ⟨w64_ofH wa0, w64_ofH wa1, w64_ofH wa2, w64_ofH wa3⟩⟩

theorem rawsH_of_trod {fuel : Nat} {v : Value} {x : DataW H × List MemPlace} (h : DataW.trod enc Tryd.prog w base spare held fuel 42 [v] = some x) : ∃ m X, RawsH w v m X := by
  rcases open_slice Tryd.underlying42 h with ⟨hcs, hx⟩ | ⟨a, len, cap, m, n, D, Pl, hcs, hb, hl, hm, hmm, hx, hel⟩
  · simp only [List.cons.injEq, and_true] at hcs
    subst hcs
    exact ⟨0, fun _ => ⟨0, 0, 0, 0⟩, ⟨⟨none, 0, rfl, Nat.le_refl _, Nat.zero_le _, fun h => by omega⟩, fun i hi => by omega⟩⟩
  · simp only [List.cons.injEq, and_true] at hcs
    subst hcs
    have hlm : len ≤ m := by rw [hmm]; split <;> omega
    rw [Tryd.cellsRawH] at hel
    have key : ∀ i, i < len → ∃ s : RawH, (w.cell? (a.add (i * 4)) = some (.int .i64 s.kind) ∧ w.cell? ((a.add (i * 4)).add 1) = some (.int .i64 s.a) ∧ w.cell? ((a.add (i * 4)).add 2) = some (.int .i64 s.b) ∧ w.cell? ((a.add (i * 4)).add 3) = some (.int .i64 s.c)) ∧ s.Ok := by
      intro i hi
      obtain ⟨cs, hc, ht⟩ := hel i (by omega)
      obtain ⟨c0, c1, c2, c3, rfl, k0, k1, k2, k3⟩ := cells_four_at hc
      obtain ⟨s, e, hq⟩ := rawH_of_trod ht
      simp only [RawH.cells, List.cons.injEq, and_true] at e
      obtain ⟨rfl, rfl, rfl, rfl⟩ := e
      exact ⟨s, ⟨k0, k1, k2, k3⟩, hq⟩
    haveI : Inhabited RawH := ⟨⟨0, 0, 0, 0⟩⟩
    obtain ⟨X, hX⟩ := choose_lt key
    refine ⟨len, X, ⟨⟨some a, cap, rfl, hl, hm, fun h0 => ?_⟩, fun i hi => (hX i hi).2⟩⟩
    have hs0 : a.spot = none := by
      have := spot_of_cell (hX 0 h0).1.1
      simpa [Addr.add] using this
    have hbl := World.block_lt_of_cell? w _ (hX 0 h0).1.1
    refine ⟨a.block, a.off, ?_, by simpa [Addr.add] using hbl, fun i hi => ?_⟩
    · obtain ⟨b, o, s⟩ := a
      simp only at hs0
      subst hs0
      rfl
    · have h3 := (hX i hi).1
      rw [addr_add a hs0] at h3
      refine ⟨h3.1, ?_, ?_, ?_⟩
      · have := h3.2.1; rwa [addr_add _ rfl] at this
      · have := h3.2.2.1; rwa [addr_add _ rfl] at this
      · have := h3.2.2.2; rwa [addr_add _ rfl] at this
end
end Ob
end Go.Proofs.YtadpmninoghcjaaDoor
