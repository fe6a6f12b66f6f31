/-
  What a []store.Change that came in reads as.
-/
import Derived.Test.YtmcobkcnpnfobaaGreatStListAll
import Derived.Test.YtmcobkcnpnfobaaGreatArgB
import Derived.Deep.Strs
namespace Go.Proofs.YtmcobkcnpnfobaaGreat
open Go.RowKit Go.ChangeShapes Go.WideShapes Go.ChangeAt Go.Deep
set_option linter.unusedSimpArgs false
set_option linter.unusedVariables false

namespace St
theorem Tryz.cellsChg : Tryz.prog.cellsOf 39 = 3 := by kernel_rfl
theorem Tryz.bytesChg : Tryz.prog.bytesOf 39 = 48 := by kernel_rfl
theorem Tryz.cellsBytes5 : Tryz.prog.cellsOf 24 = 1 := by kernel_rfl

theorem cells_three_at {w : World} {base : Nat} {a : Addr} {cs : List Value} (h : w.cells? base a 3 = some cs) : ∃ c0 c1 c2, cs = [c0, c1, c2] ∧ w.cell? a = some c0 ∧ w.cell? (a.add 1) = some c1 ∧ w.cell? (a.add 2) = some c2 := by
  obtain ⟨_, hl, hc⟩ := World.cells?_some h
  match cs, hl with
  | [c0, c1, c2], _ => exact ⟨c0, c1, c2, rfl, by simpa [Addr.add] using hc 0 (by decide), by simpa using hc 1 (by decide), by simpa using hc 2 (by decide)⟩

/-- a slice that came in points into the heap -/
theorem okWide_blk {P : Program} {w : World} {r : Reach} {base : Nat} {t e : TypeId} {a : Option Addr} {len cap : Nat} (ht : P.underlying t = some (.slice e)) (h : Value.okWide P w r base t (.slice a len cap)) : ∀ k, blk (.slice a len cap) = some k → k < w.heap.size := by
  intro k hk
  cases a with
  | none => cases hk
  | some a =>
    simp only [blk, Option.map_some, Option.some.injEq] at hk
    subst hk
    simp only [Value.okWide, Cell.okWide, Cell.ok, ht, World.has] at h
    obtain ⟨_, _, _, _, row, cells, hs, _⟩ := h
    apply Classical.byContradiction
    intro hn
    have : w.heap[a.block]? = none := Array.getElem?_eq_none (by omega)
    simp [World.shape?, this] at hs

section
variable {H : Type} {enc : TypeId × Value → H} {w : World} {base : Nat} {spare : Nat → Bool} {held : Bool}

set_option maxRecDepth 100000 in
theorem chg_of_trod {fuel : Nat} {cs : List Value} {x : DataW H × List MemPlace} (h : DataW.trod enc Tryz.prog w base spare held fuel 39 cs = some x) :
    ∃ z : Value × Chg, cs = zc z ∧ Has w z.1 z.2.value := by
  obtain ⟨y0, y1, y2, m, hx, hl, h0, h1, h2⟩ := trod_struct3 Tryz.underlying39 h
  rw [Tryz.cellsChg] at hl
  match cs, hl with
  | [c0, c1, c2], _ =>
    simp only [Tryz.cellsBytes5, Tryz.cellsStr5, Tryz.cellsBool5, List.drop_zero, List.take_succ_cons, List.take_zero, List.drop_succ_cons] at h0 h1 h2
    obtain ⟨a0, e0, _, wa0⟩ := DataW.trod_string Tryz.underlying9 h0
    obtain ⟨a1, e1, _⟩ := DataW.trod_bool Tryz.underlying4 h1
    obtain ⟨us, hus, _⟩ := has_of_trod h2
    simp only [List.cons.injEq, and_true] at e0 e1
    subst e0; subst e1
    exact ⟨(c2, ⟨a0.data.toList, a1, us⟩), rfl, hus⟩

theorem changes_of_trod {fuel : Nat} {v : Value} {x : DataW H × List MemPlace} (h : DataW.trod enc Tryz.prog w base spare held fuel 23 [v] = some x) : ∃ cs, HasC (fun _ => True) w v cs ∧ cs.length = lenOf x.1 := by
  rcases open_slice Tryz.underlying23 h with ⟨hcs, hx⟩ | ⟨a, len, cap, m, n, D, Pl, hcs, hb, hl, hm, hmm, hx, hel⟩
  · simp only [List.cons.injEq, and_true] at hcs
    subst hcs; subst hx
    exact ⟨[], hasC_nil _ _, rfl⟩
  · simp only [List.cons.injEq, and_true] at hcs
    subst hcs
    have hlm : len ≤ m := by rw [hmm]; split <;> omega
    rw [Tryz.cellsChg] at hel
    have key : ∀ i, i < len → ∃ z : Value × Chg, (w.cell? (a.add (i * 3)) = some (encStr z.2.key) ∧ w.cell? ((a.add (i * 3)).add 1) = some (.bool z.2.has) ∧ w.cell? ((a.add (i * 3)).add 2) = some z.1) ∧ Has w z.1 z.2.value := by
      intro i hi
      obtain ⟨cs, hc, ht⟩ := hel i (by omega)
      obtain ⟨c0, c1, c2, rfl, k0, k1, k2⟩ := cells_three_at hc
      obtain ⟨z, e, hq⟩ := chg_of_trod ht
      simp only [zc, List.cons.injEq, and_true] at e
      obtain ⟨rfl, rfl, rfl⟩ := e
      exact ⟨z, ⟨k0, k1, k2⟩, hq⟩
    haveI : Inhabited (Value × Chg) := ⟨(.bool false, ⟨[], false, []⟩)⟩
    obtain ⟨X, hX⟩ := choose_lt key
    have hlen : ((List.range len).map X).length = len := by simp
    have hat : ∀ j z, ((List.range len).map X)[j]? = some z → j < len ∧ z = X j := by
      intro j z hj
      have hjl : j < len := by
        have := (List.getElem?_eq_some_iff.1 hj).1
        simpa using this
      refine ⟨hjl, ?_⟩
      rw [List.getElem?_map, List.getElem?_range hjl] at hj
      simpa using hj.symm
    refine ⟨((List.range len).map X).map (·.2), ⟨(List.range len).map X, rfl, Or.inr ⟨a, cap, by rw [hlen], fun h0 => ?_, by omega, hm, fun h0 => ?_, fun j z hj => ?_⟩, fun z hz => ?_, fun _ _ _ => trivial⟩, ?_⟩
    · rw [hlen] at h0
      have := spot_of_cell (hX 0 h0).1.1
      simpa [Addr.add] using this
    · rw [hlen] at h0
      have := World.block_lt_of_cell? w _ (hX 0 h0).1.1
      simpa [Addr.add] using this
    · obtain ⟨hjl, rfl⟩ := hat j z hj
      have hs0 : a.spot = none := by
        have := spot_of_cell (hX 0 (by omega)).1.1
        simpa [Addr.add] using this
      have h3 := (hX j hjl).1
      rw [addr_add a hs0] at h3
      refine ⟨h3.1, ?_, ?_⟩
      · have := h3.2.1; rwa [addr_add _ rfl] at this
      · have := h3.2.2; rwa [addr_add _ rfl] at this
    · obtain ⟨i, hi, rfl⟩ := List.mem_map.1 hz
      exact ⟨(hX i (by simpa using hi)).2, fun _ _ _ => trivial⟩
    · subst hx
      simp [lenOf]
end
end St
end Go.Proofs.YtmcobkcnpnfobaaGreat
