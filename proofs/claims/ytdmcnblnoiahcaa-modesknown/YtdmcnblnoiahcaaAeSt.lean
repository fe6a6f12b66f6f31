/-
  States of a block: plain; arrays of bytes in memory.
-/
import Derived.Test.YtdmcnblnoiahcaaAeSpec
import Derived.Test.YtdmcnblnoiahcaaRow
namespace Go.Proofs.Ytdmcnblnoiahcaa
open Go.RowKit
set_option linter.unusedSimpArgs false
set_option linter.unusedVariables false

namespace Ae

/-- an array of bytes, as a value -/
def ag (s : List UInt8) : Value := .agg (s.map bv).toArray
/-- an array of bytes, in a block of its own -/
def Arr (w : World) (b : Nat) (t : TypeId) (s : List UInt8) : Prop := w.heap[b]? = some (.cells (s.map bv).toArray t (0, 0))

theorem Arr.out {w : World} {b : Nat} {t : TypeId} {s : List UInt8} (h : Arr w b t s) : w.heap[b]? = some (.cells (s.map bv).toArray t (0, 0)) := h
theorem Arr.lt {w : World} {b : Nat} {t : TypeId} {s : List UInt8} (h : Arr w b t s) : b < w.heap.size := lt_of_block h
theorem Arr.cell {w : World} {b : Nat} {t : TypeId} {s : List UInt8} (h : Arr w b t s) (i : Nat) (x : UInt8) (hx : s[i]? = some x) : w.cell? ⟨b, i, none⟩ = some (.int .u8 (x.toNat : Int)) := by
  rw [cell_of_row w b i _ t _ h]
  simp [hx, bv]
theorem Arr.free {w : World} {b : Nat} {t : TypeId} {s : List UInt8} (h : Arr w b t s) (i : Nat) : w.frozen? ⟨b, i, none⟩ = false := by
  have h' := h.out
  simp [World.frozen?, h']
theorem Arr.set {w : World} {b : Nat} {t : TypeId} {s : List UInt8} (h : Arr w b t s) (i : Nat) (x : UInt8) : Arr (w.setCell ⟨b, i, none⟩ (.int .u8 (x.toNat : Int))) b t (s.set i x) := by
  have h' := two_setCell (i := i) (u := .int .u8 (x.toNat : Int)) h
  unfold Arr
  rw [h']
  simp [bv, List.map_set]
theorem Arr.only {S : Nat → Prop} {w w' : World} {b : Nat} {t : TypeId} {s : List UInt8} (h : Arr w b t s) (ho : Only S w w') (hS : ¬ S b) : Arr w' b t s := ho.heap h hS
theorem Arr.new (w : World) (t : TypeId) (s : List UInt8) (cs : Array Value) (hc : cs = (s.map bv).toArray) : Arr (w.alloc (.cells cs t)) w.heap.size t s := by
  subst hc
  exact heap_alloc_last w _
theorem Arr.other {w : World} {b : Nat} {t : TypeId} {s : List UInt8} (h : Arr w b t s) {b' i : Nat} (u : Value) (hb : b ≠ b') : Arr (w.setCell ⟨b', i, none⟩ u) b t s := by
  have h2 : Only (fun k => k = b') w (w.setCell ⟨b', i, none⟩ u) := (Only.refl _ w).here i u
  exact h.only h2 hb
theorem Arr.alloc {w : World} {b : Nat} {t : TypeId} {s : List UInt8} (h : Arr w b t s) (o : Obj) : Arr (w.alloc o) b t s := by
  unfold Arr
  rw [Below.heap_alloc _ _ _ h.lt]
  exact h
theorem Arr.range {w : World} {b : Nat} {t : TypeId} {s : List UInt8} (h : Arr w b t s) : w.rangeAt b 0 (s.map bv) := by
  intro j v hv
  rw [Nat.zero_add, cell_of_row w b j _ t _ h.out]
  simpa using hv
theorem Arr.there {w : World} {b : Nat} {t : TypeId} {s : List UInt8} (h : Arr w b t s) (n : Nat) (hn : n = s.length) : w.there b 0 n := by
  subst hn
  intro j hj
  rw [Nat.zero_add]
  exact ⟨by rw [h.cell j s[j] (by simp [hj])]; rfl, h.free j⟩
theorem ag_one (s : List UInt8) : (s.map bv).toArray.all (·.oneCell') = true := all_oneCell_toArray (fun v hv => by obtain ⟨b, _, rfl⟩ := List.mem_map.1 hv; rfl)

theorem setCells_block {b : Nat} {t : TypeId} (vs : List Value) : ∀ (w : World) (o : Nat) (cs : List Value), w.heap[b]? = some (.cells cs.toArray t (0, 0)) → (w.setCells b o vs).heap[b]? = some (.cells (setMany cs o vs).toArray t (0, 0)) := by
  induction vs with
  | nil => intro w o cs h; exact h
  | cons v r ih =>
    intro w o cs h
    refine ih _ _ _ ?_
    rw [two_setCell (i := o) (u := v) h]
    simp
theorem Arr.stored {w : World} {b : Nat} {t : TypeId} {s : List UInt8} (h : Arr w b t s) (u : List UInt8) (hu : u.length = s.length) : Arr (w.setCells b 0 (u.map bv)) b t u := by
  have h1 := setCells_block (u.map bv) w 0 (s.map bv) h
  unfold Arr
  rw [h1, setMany_eq _ _ _ (by simp [hu])]
  simp [hu]

/-- three new arrays -/
theorem three (w : World) (s k z : List UInt8) (t1 t2 t3 : TypeId) : ∃ w3 b1 b2 b3, w3 = ((w.alloc (.cells (s.map bv).toArray t1)).alloc (.cells (k.map bv).toArray t2)).alloc (.cells (z.map bv).toArray t3) ∧ b3 = w.heap.size + 1 + 1 ∧ b2 = w.heap.size + 1 ∧ b1 = w.heap.size ∧
    Arr w3 b1 t1 s ∧ Arr w3 b2 t2 k ∧ Arr w3 b3 t3 z ∧ Only (fun _ => False) w w3 ∧ b1 ≠ b2 ∧ b1 ≠ b3 ∧ b2 ≠ b3 ∧ (∀ j, j < w.heap.size → j ≠ b1 ∧ j ≠ b2 ∧ j ≠ b3) := by
  refine ⟨_, _, _, _, rfl, rfl, rfl, rfl, ?_, ?_, ?_, ((((Only.refl _ w).alloc _).alloc _).alloc _), by omega, by omega, by omega, fun j hj => by omega⟩
  · exact ((Arr.new w t1 s _ rfl).alloc _).alloc _
  · have := (Arr.new (w.alloc (.cells (s.map bv).toArray t1)) t2 k _ rfl).alloc (.cells (z.map bv).toArray t3)
    rw [World.size_alloc] at this
    exact this
  · have := Arr.new ((w.alloc (.cells (s.map bv).toArray t1)).alloc (.cells (k.map bv).toArray t2)) t3 z _ rfl
    rw [World.size_alloc, World.size_alloc] at this
    exact this
theorem four (w : World) (s k z y : List UInt8) (t1 t2 t3 t4 : TypeId) : ∃ w4 b1 b2 b3 b4, w4 = (((w.alloc (.cells (s.map bv).toArray t1)).alloc (.cells (k.map bv).toArray t2)).alloc (.cells (z.map bv).toArray t3)).alloc (.cells (y.map bv).toArray t4) ∧ b4 = w.heap.size + 1 + 1 + 1 ∧ b3 = w.heap.size + 1 + 1 ∧ b2 = w.heap.size + 1 ∧ b1 = w.heap.size ∧
    Arr w4 b1 t1 s ∧ Arr w4 b2 t2 k ∧ Arr w4 b3 t3 z ∧ Arr w4 b4 t4 y ∧ Only (fun _ => False) w w4 ∧ b1 ≠ b4 ∧ b2 ≠ b4 ∧ b3 ≠ b4 ∧ (∀ j, j < w.heap.size → j ≠ b4 ∧ j ≠ b3) := by
  obtain ⟨w3, b1, b2, b3, e3, eb3, eb2, eb1, a1, a2, a3, o3, n12, n13, n23, hb⟩ := three w s k z t1 t2 t3
  have hz : w3.heap.size = w.heap.size + 1 + 1 + 1 := by rw [e3]; simp
  have h4 := Arr.new w3 t4 y _ rfl
  rw [hz] at h4
  have l1 := a1.lt
  have l2 := a2.lt
  have l3 := a3.lt
  refine ⟨w3.alloc (.cells (y.map bv).toArray t4), b1, b2, b3, w.heap.size + 1 + 1 + 1, by rw [e3], rfl, eb3, eb2, eb1, a1.alloc _, a2.alloc _, a3.alloc _, h4, o3.alloc _, by omega, by omega, by omega, fun j hj => by omega⟩
theorem two (w : World) (s z : List UInt8) (t1 t3 : TypeId) : ∃ w3 b1 b3, w3 = (w.alloc (.cells (s.map bv).toArray t1)).alloc (.cells (z.map bv).toArray t3) ∧ b3 = w.heap.size + 1 ∧ b1 = w.heap.size ∧
    Arr w3 b1 t1 s ∧ Arr w3 b3 t3 z ∧ Only (fun _ => False) w w3 ∧ b1 ≠ b3 ∧ (∀ j, j < w.heap.size → j ≠ b1 ∧ j ≠ b3) := by
  refine ⟨_, _, _, rfl, rfl, rfl, ?_, ?_, (((Only.refl _ w).alloc _).alloc _), by omega, fun j hj => by omega⟩
  · exact (Arr.new w t1 s _ rfl).alloc _
  · have := Arr.new (w.alloc (.cells (s.map bv).toArray t1)) t3 z _ rfl
    rw [World.size_alloc] at this
    exact this

/-- f's first i, the elder ones behind -/
def mixd (f old : List UInt8) (i : Nat) : List UInt8 := f.take i ++ old.drop i
theorem mixd_zero (f old : List UInt8) : mixd f old 0 = old := by simp [mixd]
theorem mixd_all (f old : List UInt8) (n : Nat) (hf : f.length = n) (ho : old.length = n) : mixd f old n = f := by
  simp [mixd, List.take_of_length_le (show f.length ≤ n by omega), List.drop_eq_nil_of_le (show old.length ≤ n by omega)]
theorem mixd_length (f old : List UInt8) (n i : Nat) (hf : f.length = n) (ho : old.length = n) (hi : i ≤ n) : (mixd f old i).length = n := by
  simp [mixd]; omega
theorem mixd_at (f old : List UInt8) (n i : Nat) (hf : f.length = n) (ho : old.length = n) (hi : i < n) : (mixd f old i)[i]? = old[i]? := by
  unfold mixd
  rw [List.getElem?_append_right (by simp; omega), List.getElem?_drop]
  congr 1
  simp; omega
theorem mixd_set (f old : List UInt8) (n i : Nat) (hf : f.length = n) (ho : old.length = n) (hi : i < n) (x : UInt8) (hx : f[i]? = some x) : (mixd f old i).set i x = mixd f old (i + 1) := by
  apply List.ext_getElem?
  intro j
  rw [List.getElem?_set]
  unfold mixd
  rcases Nat.lt_trichotomy j i with h | h | h
  · rw [if_neg (by omega), List.getElem?_append_left (by simp; omega), List.getElem?_append_left (by simp; omega), List.getElem?_take, List.getElem?_take, if_pos h, if_pos (by omega)]
  · subst h
    rw [if_pos rfl, if_pos (by simp; omega), List.getElem?_append_left (by simp; omega), List.getElem?_take, if_pos (by omega), hx]
  · rw [if_neg (by omega), List.getElem?_append_right (by simp; omega), List.getElem?_append_right (by simp; omega), List.getElem?_drop, List.getElem?_drop]
    congr 1
    simp; omega

def zero16 : List UInt8 := List.replicate 16 0
def gt (s : List UInt8) (i : Nat) : UInt8 := s.getD i 0
theorem gt_some (s : List UInt8) (i : Nat) (h : i < s.length) : s[i]? = some (gt s i) := by
  unfold gt
  rw [List.getD_eq_getElem?_getD, List.getElem?_eq_getElem h]
  rfl

theorem gt_zero (n : Nat) (h : n < 16) : gt zero16 n = 0 := by
  unfold gt zero16
  rw [List.getD_eq_getElem?_getD, List.getElem?_replicate, if_pos h]
  rfl
theorem set_self {l : List UInt8} {i : Nat} {x : UInt8} (h : l[i]? = some x) : l.set i x = l := by
  apply List.ext_getElem?
  intro j
  rw [List.getElem?_set]
  by_cases e : i = j
  · subst e
    rw [if_pos rfl, if_pos (List.getElem?_eq_some_iff.1 h).1, h]
  · rw [if_neg e]

def added (s k : List UInt8) : List UInt8 := List.zipWith (· ^^^ ·) s k
def shifted (s : List UInt8) : List UInt8 := (List.range 16).map fun i => gt s (5 * i % 16)
def unshK (s : List UInt8) : Nat → List UInt8
  | 0 => zero16
  | i + 1 => (unshK s i).set (5 * i % 16) (gt s i)
def unshifted (s : List UInt8) : List UInt8 := unshK s 16
/-- byte i of the sum, its first k parts -/
def sumK (s f : List UInt8) (i : Nat) : Nat → UInt8
  | 0 => 0
  | k + 1 => sumK s f i k ^^^ mul (gt s (i - i % 4 + (i % 4 + k) % 4)) (gt f k)
def times (s f : List UInt8) : List UInt8 := (List.range 16).map fun i => sumK s f i 4

theorem added_length {s k : List UInt8} {n : Nat} (hs : s.length = n) (hk : k.length = n) : (added s k).length = n := by simp [added, hs, hk]
theorem added_at (s k : List UInt8) (i : Nat) (hs : i < s.length) (hk : i < k.length) : (added s k)[i]? = some (gt s i ^^^ gt k i) := by
  unfold added
  rw [List.getElem?_zipWith, gt_some s i hs, gt_some k i hk]
theorem shifted_length (s : List UInt8) : (shifted s).length = 16 := by simp [shifted]
theorem unshK_length (s : List UInt8) (i : Nat) : (unshK s i).length = 16 := by
  induction i with
  | zero => rfl
  | succ i ih => simp [unshK, ih]
theorem times_length (s f : List UInt8) : (times s f).length = 16 := by simp [times]
theorem range_at {α : Type} (f : Nat → α) (n i : Nat) (h : i < n) : ((List.range n).map f)[i]? = some (f i) := by simp [h]

end Ae
end Go.Proofs.Ytdmcnblnoiahcaa
