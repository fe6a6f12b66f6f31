/-
  An object as a value, and in a block of its own.
-/
import Derived.Test.YtadpmninoghcjaaDoorObSpec
import Derived.Test.YtadpmninoghcjaaDoorRow
import Derived.Deep.RegionHeld
import Derived.Deep.CutBlock
import Derived.Deep.DeepCutAuto
import Derived.BigRegion
import Derived.BigQuiet
import Derived.Deep.QuietTactic
namespace Go.Proofs.YtadpmninoghcjaaDoor
open Go.RowKit
set_option linter.unusedSimpArgs false
set_option linter.unusedVariables false

theorem Only.drewN {S : Nat → Prop} {a w : World} (h : Only S a w) (n : Nat) : Only S a (w.drewN n) := ⟨h.os, h.tape, h.output, h.size, h.block⟩

/-- a block with just these cells -/
def Bx (w : World) (b : Nat) (t : TypeId) (cs : List Value) : Prop := w.heap[b]? = some (.cells cs.toArray t (0, 0))
theorem Bx.out {w : World} {b : Nat} {t : TypeId} {cs : List Value} (h : Bx w b t cs) : w.heap[b]? = some (.cells cs.toArray t (0, 0)) := h
theorem Bx.lt {w : World} {b : Nat} {t : TypeId} {cs : List Value} (h : Bx w b t cs) : b < w.heap.size := lt_of_block h
theorem Bx.cell {w : World} {b : Nat} {t : TypeId} {cs : List Value} (h : Bx w b t cs) (i : Nat) (v : Value) (hx : cs[i]? = some v) : w.cell? ⟨b, i, none⟩ = some v := by
  rw [cell_of_row w b i _ t _ h]
  simp [hx]
theorem Bx.free {w : World} {b : Nat} {t : TypeId} {cs : List Value} (h : Bx w b t cs) (i : Nat) : w.frozen? ⟨b, i, none⟩ = false := by
  have h' := h.out
  simp [World.frozen?, h']
theorem Bx.only {S : Nat → Prop} {w w' : World} {b : Nat} {t : TypeId} {cs : List Value} (h : Bx w b t cs) (ho : Only S w w') (hS : ¬ S b) : Bx w' b t cs := ho.heap h hS
theorem Bx.same {w w' : World} {b : Nat} {t : TypeId} {cs : List Value} (h : Bx w b t cs) (ho : Only (fun _ => False) w w') : Bx w' b t cs := ho.heap h (fun e => e)
theorem Bx.set {w : World} {b : Nat} {t : TypeId} {cs : List Value} (h : Bx w b t cs) (i : Nat) (v : Value) : Bx (w.setCell ⟨b, i, none⟩ v) b t (cs.set i v) := by
  have h' := two_setCell (i := i) (u := v) h
  unfold Bx
  rw [h']
  simp
theorem Bx.alloc {w : World} {b : Nat} {t : TypeId} {cs : List Value} (h : Bx w b t cs) (o : Obj) : Bx (w.alloc o) b t cs := by
  unfold Bx
  rw [Below.heap_alloc _ _ _ h.lt]
  exact h
theorem Bx.new (w : World) (t : TypeId) (cs : List Value) : Bx (w.alloc (.cells cs.toArray t)) w.heap.size t cs := heap_alloc_last w _
theorem Bx.range {w : World} {b : Nat} {t : TypeId} {cs : List Value} (h : Bx w b t cs) (o n : Nat) : w.rangeAt b o ((cs.drop o).take n) := by
  intro j v hv
  rw [cell_of_row w b (o + j) _ t _ h.out]
  rw [List.getElem?_take] at hv
  split at hv
  · simpa using hv
  · cases hv
/-- a parameter that is put into a block of its own -/
theorem boxed (w : World) (A : Array Value) (t : TypeId) : ∃ w1 b, w1 = w.alloc (.cells A t) ∧ b = w.heap.size ∧ Bx w1 b t A.toList ∧ Only (fun _ => False) w w1 ∧ w1.heap.size = b + 1 :=
  ⟨_, _, rfl, rfl, by have := Bx.new w t A.toList; simpa using this, (Only.refl _ w).alloc _, by simp⟩

namespace Ob
def dcells (d : Bool × Int) : List Value := [.bool d.1, .int .i64 d.2]
theorem dcells_len (ds : List (Bool × Int)) : (ds.flatMap dcells).length = 2 * ds.length := by
  rw [flat_length dcells 2 ds (fun _ _ => rfl), Nat.mul_comm]

def front (o : Ob) (mv : Value) : List Value := [.string (str o.id), .int .i64 o.typ, .int .i64 o.alg, .int .i64 o.len, .int .i64 o.mask, mv, .int .i64 o.state]
def back (o : Ob) (nv lv cv : Value) : List Value := [.int .i64 o.reason, .string (str o.msg), nv, lv, cv, .bool o.lh, .int .i64 o.lt, .int .i64 o.lc, .int .i64 o.lu, .bool o.arch]
/-- the 37 cells of an object -/
def cells (o : Ob) (mv nv lv cv : Value) : List Value := front o mv ++ (o.dates.flatMap dcells ++ back o nv lv cv)

theorem cells_front (o : Ob) (mv nv lv cv : Value) (i : Nat) (hi : i < 7) : (cells o mv nv lv cv)[i]? = (front o mv)[i]? := by
  unfold cells
  rw [List.getElem?_append_left (by simpa [front] using hi)]
theorem cells_back (o : Ob) (mv nv lv cv : Value) (hd : o.dates.length = 10) (i : Nat) : (cells o mv nv lv cv)[27 + i]? = (back o nv lv cv)[i]? := by
  unfold cells
  have h := dcells_len o.dates
  have hf : (front o mv).length = 7 := rfl
  generalize o.dates.flatMap dcells = D at *
  generalize front o mv = F at *
  rw [List.getElem?_append_right (by omega), List.getElem?_append_right (by omega)]
  congr 1
  omega
theorem cells_len (o : Ob) (mv nv lv cv : Value) (hd : o.dates.length = 10) : (cells o mv nv lv cv).length = 37 := by
  unfold cells
  have h := dcells_len o.dates
  have hf : (front o mv).length = 7 := rfl
  have hb : (back o nv lv cv).length = 10 := rfl
  rw [List.length_append, List.length_append]
  omega
theorem cells_dates (o : Ob) (mv nv lv cv : Value) (hd : o.dates.length = 10) : ((cells o mv nv lv cv).drop 7).take 20 = o.dates.flatMap dcells := by
  unfold cells
  have h := dcells_len o.dates
  have hf : (front o mv).length = 7 := rfl
  generalize o.dates.flatMap dcells = D at *
  generalize front o mv = F at *
  rw [List.drop_append_of_le_length (by omega), List.drop_of_length_le (by omega), List.nil_append, List.take_append_of_le_length (by omega), List.take_of_length_le (by omega)]

/-- a link's cells, a custom attribute's cells -/
def kcells (k : Int × List UInt8) : List Value := [.int .i64 k.1, .string (str k.2)]
def ccells (c : List UInt8 × List UInt8) : List Value := [.string (str c.1), .string (str c.2)]
def scells (s : List UInt8) : List Value := [.string (str s)]

def W64 (n : Int) : Prop := -9223372036854775808 ≤ n ∧ n ≤ 9223372036854775807
end Ob

/-- the slice value v holds just these elements of m cells each (read only) -/
structure HasF {α : Type} (w : World) (v : Value) (m : Nat) (f : α → List Value) (xs : List α) : Prop where
  has : ∃ ao cap, v = .slice ao xs.length cap ∧ xs.length ≤ cap ∧ cap ≤ maxLen ∧ (0 < xs.length → ∃ b o, ao = some ⟨b, o, none⟩ ∧ b < w.heap.size ∧ w.rangeAt b o (xs.flatMap f))
  wide : ∀ x ∈ xs, (f x).length = m

theorem rangeAt_only {S : Nat → Prop} {w w' : World} {b o : Nat} {cs : List Value} (h : w.rangeAt b o cs) (ho : Only S w w') (hS : ¬ S b) : w'.rangeAt b o cs :=
  fun j v hv => ho.cell (h j v hv) hS

theorem HasF.same {α : Type} {w w' : World} {v : Value} {m : Nat} {f : α → List Value} {xs : List α} (h : HasF w v m f xs) (ho : Only (fun _ => False) w w') : HasF w' v m f xs := by
  obtain ⟨ao, cap, e, h1, h2, h3⟩ := h.has
  refine ⟨⟨ao, cap, e, h1, h2, fun h0 => ?_⟩, h.wide⟩
  obtain ⟨b, o, ea, hb, hr⟩ := h3 h0
  exact ⟨b, o, ea, Nat.lt_of_lt_of_le hb ho.size, rangeAt_only hr ho (fun e => e)⟩
theorem HasF.only {α : Type} {S : Nat → Prop} {w w' : World} {v : Value} {m : Nat} {f : α → List Value} {xs : List α} (h : HasF w v m f xs) (ho : Only S w w') (hS : xs ≠ [] → ∀ k, blk v = some k → ¬ S k) : HasF w' v m f xs := by
  obtain ⟨ao, cap, e, h1, h2, h3⟩ := h.has
  refine ⟨⟨ao, cap, e, h1, h2, fun h0 => ?_⟩, h.wide⟩
  obtain ⟨b, o, ea, hb, hr⟩ := h3 h0
  subst ea e
  exact ⟨b, o, rfl, Nat.lt_of_lt_of_le hb ho.size, rangeAt_only hr ho (hS (by intro e; rw [e] at h0; simp at h0) b rfl)⟩
theorem HasF.shape {α : Type} {w : World} {v : Value} {m : Nat} {f : α → List Value} {xs : List α} (h : HasF w v m f xs) : ∃ ao cap, v = .slice ao xs.length cap ∧ xs.length ≤ cap ∧ cap ≤ maxLen := by
  obtain ⟨ao, cap, e, h1, h2, h3⟩ := h.has
  exact ⟨ao, cap, e, h1, h2⟩
theorem HasF.at {α : Type} {w : World} {ao : Option Addr} {n cap m : Nat} {f : α → List Value} {xs : List α} (h : HasF w (.slice ao n cap) m f xs) (h0 : 0 < n) :
    ∃ b o, ao = some ⟨b, o, none⟩ ∧ b < w.heap.size ∧ ∀ i x, xs[i]? = some x → w.rangeAt b (o + i * m) (f x) := by
  obtain ⟨ao', cap', e, h1, h2, h3⟩ := h.has
  simp only [Value.slice.injEq] at e
  obtain ⟨rfl, rfl, rfl⟩ := e
  obtain ⟨b, o, ea, hb, hr⟩ := h3 h0
  refine ⟨b, o, ea, hb, fun i x hx j v hv => ?_⟩
  have hm := h.wide x (List.mem_of_getElem? hx)
  have hj : j < m := by rw [← hm]; exact (List.getElem?_eq_some_iff.1 hv).1
  have := hr (i * m + j) v (by rw [flat_at f m xs h.wide i j hj x hx]; exact hv)
  rw [← Nat.add_assoc] at this
  exact this
theorem hasF_nil {α : Type} (w : World) (m : Nat) (f : α → List Value) : HasF w (.slice none 0 0) m f ([] : List α) :=
  ⟨⟨none, 0, rfl, Nat.le_refl _, Nat.zero_le _, fun h => by simp at h⟩, fun x hx => by cases hx⟩
theorem HasF.front {α : Type} {w : World} {ao : Option Addr} {n cap m : Nat} {f : α → List Value} {xs : List α} (h : HasF w (.slice ao n cap) m f xs) (k : Nat) (hk : k ≤ xs.length) : HasF w (.slice ao k cap) m f (xs.take k) := by
  obtain ⟨ao', cap', e, h1, h2, h3⟩ := h.has
  simp only [Value.slice.injEq] at e
  obtain ⟨rfl, rfl, rfl⟩ := e
  refine ⟨⟨ao, cap, by rw [List.length_take, Nat.min_eq_left hk], by rw [List.length_take]; omega, h2, fun h0 => ?_⟩, fun x hx => h.wide x (List.mem_of_mem_take hx)⟩
  rw [List.length_take] at h0
  obtain ⟨b, o, ea, hb, hr⟩ := h3 (by omega)
  refine ⟨b, o, ea, hb, fun j v hv => hr j v ?_⟩
  have e2 : xs.flatMap f = (xs.take k).flatMap f ++ (xs.drop k).flatMap f := by rw [← List.flatMap_append, List.take_append_drop]
  rw [e2, List.getElem?_append_left (List.getElem?_eq_some_iff.1 hv).1]
  exact hv

namespace Ob
/-- an object's value in memory -/
structure In (w : World) (o : Ob) (mv nv lv cv : Value) : Prop where
  mat : Has w mv o.mat
  names : HasF w nv 1 scells o.names
  links : HasF w lv 2 kcells o.links
  custom : HasF w cv 2 ccells o.custom
  ten : o.dates.length = 10
  ints : W64 o.typ ∧ W64 o.alg ∧ W64 o.len ∧ W64 o.mask ∧ W64 o.state ∧ W64 o.reason ∧ W64 o.lt ∧ W64 o.lc ∧ W64 o.lu
  dats : ∀ d ∈ o.dates, W64 d.2
  lks : ∀ k ∈ o.links, W64 k.1
  strs : o.id.length ≤ maxLen ∧ o.msg.length ≤ maxLen ∧ (∀ s ∈ o.names, s.length ≤ maxLen) ∧ (∀ k ∈ o.links, k.2.length ≤ maxLen) ∧ ∀ c ∈ o.custom, c.1.length ≤ maxLen ∧ c.2.length ≤ maxLen

theorem In.same {w w' : World} {o : Ob} {mv nv lv cv : Value} (h : In w o mv nv lv cv) (ho : Only (fun _ => False) w w') : In w' o mv nv lv cv :=
  ⟨h.mat.only ho (fun _ _ _ e => e), h.names.same ho, h.links.same ho, h.custom.same ho, h.ten, h.ints, h.dats, h.lks, h.strs⟩

/-- the value -/
def val (o : Ob) (mv nv lv cv : Value) : Value := .agg (cells o mv nv lv cv).toArray
end Ob
end Go.Proofs.YtadpmninoghcjaaDoor
