/-
  Objects in variables: loads and stores of the whole.
-/
import Derived.Test.YtadpmninoghcjaaDoorLfMove
namespace Go.Proofs.YtadpmninoghcjaaDoor
open Go.RowKit
set_option linter.unusedSimpArgs false
set_option linter.unusedVariables false
namespace Ob
theorem exec_load_mid {P : Program} {o : Oper} {a : Act} {w : World} (ty : TypeId) (x : Operand) (ho : o.op = .load ty x)
    (b o' : Nat) (hx : a.eval x = .pointer (some ⟨b, o', none⟩)) (cs : List Value) (d : TypeDesc) (hc : w.rangeAt b o' cs)
    (hu : P.underlying ty = some d) (hd : d.isRow = true) (hi : (P.info? ty).map (·.size) = some cs.length) : (execOp a.eval o).run P w = .ok (.value (.agg cs.toArray)) w := by
  unfold execOp
  simp only [ho, hx, Instr.loadAt, Instr.sureAddr, Sem.run_bind, Sem.run_pure, Result.andThen_ok, run_loadVar_mid w b o' ty cs d hc hu hd hi]
theorem hO_small (x : RawH) (m : Nat) (X : Nat → RawH) : Small (hO x m X) := by
  have h := hO_okay x m X
  exact ⟨by have := h.mn; omega, by have := h.nn; omega, by have := h.kn; omega, by have := h.cn; omega⟩
/-- the whole of an object's block -/
theorem Bx.whole {w : World} {b : Nat} {o : Ob} {mv nv lv cv : Value} (h : Bx w b 32 (cells o mv nv lv cv)) (hd : o.dates.length = 10) : w.rangeAt b 0 (cells o mv nv lv cv) := by
  have hr := h.range 0 37
  rwa [List.drop_zero, List.take_of_length_le (by rw [cells_len _ _ _ _ _ hd]; omega)] at hr
theorem size_cells (o : Ob) (mv nv lv cv : Value) (hd : o.dates.length = 10) : (Tryd.prog.info? 32).map (·.size) = some (cells o mv nv lv cv).length := by rw [cells_len _ _ _ _ _ hd]; exact Tryd.sizeObj
theorem size_cellsA (o : Ob) (mv nv lv cv : Value) (hd : o.dates.length = 10) : (Tryd.prog.info? 32).map (·.size) = some (cells o mv nv lv cv).toArray.size := by rw [List.size_toArray, cells_len _ _ _ _ _ hd]; exact Tryd.sizeObj
/-- a variable that holds an object, its lists elsewhere -/
structure Var (w : World) (k : Nat) (o : Ob) (mv nv lv cv : Value) : Prop where
  box : Bx w k 32 (cells o mv nv lv cv)
  val : In w o mv nv lv cv
theorem Var.same {w w' : World} {k : Nat} {o : Ob} {mv nv lv cv : Value} (h : Var w k o mv nv lv cv) (q : Only (fun _ => False) w w') : Var w' k o mv nv lv cv := ⟨h.box.same q, h.val.same q⟩
/-- lists lie in blocks that are there -/
theorem In.lt {w : World} {o : Ob} {mv nv lv cv : Value} (h : In w o mv nv lv cv) {w' : World} {S : Nat → Prop} (q : Only S w w') (hS : ∀ j, j < w.heap.size → ¬ S j) : In w' o mv nv lv cv :=
  ⟨has_off h.mat q hS, hasF_off h.names q hS, hasF_off h.links q hS, hasF_off h.custom q hS, h.ten, h.ints, h.dats, h.lks, h.strs⟩

/-- lists that are not empty lie elsewhere -/
structure Apart (o : Ob) (mv nv lv cv : Value) (k : Nat) : Prop where
  mat : o.mat ≠ [] → ∀ j, blk mv = some j → ¬ j = k
  names : o.names ≠ [] → ∀ j, blk nv = some j → ¬ j = k
  links : o.links ≠ [] → ∀ j, blk lv = some j → ¬ j = k
  custom : o.custom ≠ [] → ∀ j, blk cv = some j → ¬ j = k
theorem In.apart {w : World} {o : Ob} {mv nv lv cv : Value} (h : In w o mv nv lv cv) {k : Nat} (hk : w.heap.size ≤ k) : Apart o mv nv lv cv k :=
  ⟨fun h0 j hj e => by have := h.mat.blk_lt h0 j hj; omega, fun h0 j hj e => by have := h.names.lt h0 j hj; omega, fun h0 j hj e => by have := h.links.lt h0 j hj; omega, fun h0 j hj e => by have := h.custom.lt h0 j hj; omega⟩
theorem Fresh4.apart {b : Nat} {o : Ob} {mv nv lv cv : Value} (h : Fresh4 b mv nv lv cv) {k : Nat} (hk : k < b) : Apart o mv nv lv cv k :=
  ⟨fun h0 j hj e => by have := h j (Or.inl hj); omega, fun h0 j hj e => by have := h j (Or.inr (Or.inl hj)); omega, fun h0 j hj e => by have := h j (Or.inr (Or.inr (Or.inl hj))); omega, fun h0 j hj e => by have := h j (Or.inr (Or.inr (Or.inr hj))); omega⟩
theorem In.offA {w w' : World} {o : Ob} {mv nv lv cv : Value} {k : Nat} (h : In w o mv nv lv cv) (q : Only (fun j => j = k) w w') (ha : Apart o mv nv lv cv k) : In w' o mv nv lv cv :=
  ⟨h.mat.only q ha.mat, h.names.only q ha.names, h.links.only q ha.links, h.custom.only q ha.custom, h.ten, h.ints, h.dats, h.lks, h.strs⟩
/-- an object's value stored into a variable that held one -/
theorem store_var {w : World} {k : Nat} {o : Ob} {mv nv lv cv : Value} (I : In w o mv nv lv cv) (ha : Apart o mv nv lv cv k) {cs0 : List Value} (hz : Bx w k 32 cs0) (hc0 : cs0.length = 37) :
    w.there k 0 (cells o mv nv lv cv).toArray.size ∧ Bx (w.setCells k 0 (cells o mv nv lv cv)) k 32 (cells o mv nv lv cv) ∧ In (w.setCells k 0 (cells o mv nv lv cv)) o mv nv lv cv ∧ Only (fun j => j = k) w (w.setCells k 0 (cells o mv nv lv cv)) := by
  have hl := cells_len o mv nv lv cv I.ten
  have q : Only (fun j => j = k) w (w.setCells k 0 (cells o mv nv lv cv)) := Only.setCells (S := fun j => j = k) (fun _ => rfl) _ _ _ (Only.refl _ _)
  exact ⟨bx_there hz _ (by rw [List.size_toArray, hl, hc0]), setCells_bx hz _ (by rw [hl, hc0]), I.offA q ha, q⟩
end Ob
end Go.Proofs.YtadpmninoghcjaaDoor
