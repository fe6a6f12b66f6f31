/-
  Contract of disk's Pending: all that pends, in order, in new memory.
-/
import Derived.Test.YtoffcbopolonoaaDkRead
namespace Go.Proofs.Ytoffcbopolonoaa
open Go.RowKit
set_option linter.unusedSimpArgs false
set_option linter.unusedVariables false

theorem Try.infoWrite : (Try.prog.info? 106).map (fun i => (i.zero, i.size, i.bytes)) = some (some (.agg #[.int .i64 0, .slice none 0 0]), 2, 32) := by kernel_rfl

/-- a Write's cells -/
def wrt (p : Nat × Value) : List Value := [.int .i64 p.1, p.2]

theorem Only.range {S : Nat → Prop} {w w' : World} (h : Only S w w') {b o : Nat} {cs : List Value} (hr : w.rangeAt b o cs) (hS : ¬ S b) : w'.rangeAt b o cs := fun j v hv => h.cell (hr j v hv) hS

/-- v holds the writes l: each Data reads as it should, apart from the blocks in A -/
structure Writes (w : World) (base : Nat) (v : Value) (l : Pends) (A : Nat → Prop) (dvs : List (Nat × Value)) : Prop where
  own : w.ownsRow base 106 2 v dvs.length (dvs.flatMap wrt)
  len : dvs.length = l.length
  each : ∀ (k : Nat) (p : Nat × List UInt8), l[k]? = some p → ∃ dv, dvs[k]? = some (p.1, dv) ∧ Has w dv p.2 ∧ ∀ j, blk dv = some j → ¬ A j ∧ v.ownBlock ≠ some j ∧ j < w.heap.size
  one : ∀ p ∈ dvs, p.2.oneCell' = true

theorem Has.one {w : World} {v : Value} {bs : List UInt8} (h : Has w v bs) : v.oneCell' = true := by
  obtain ⟨ao, c, rfl, _⟩ := h.shape
  rfl

theorem wrt_length (p) : (wrt p).length = 2 := rfl

theorem own_blk {w : World} {base e m n : Nat} {v : Value} {xs : List Value} (h : w.ownsRow base e m v n xs) (j : Nat) (hj : blk v = some j) : v.ownBlock = some j := by
  obtain ⟨ao, cap, rfl⟩ := ownsRow_shape h
  cases ao with
  | none => cases hj
  | some a => exact hj

theorem Writes.push {w w6 : World} {base : Nat} {v dv : Value} {l : Pends} {A : Nat → Prop} {dvs : List (Nat × Value)} {g4 cap4 : Nat} (h : Writes w base v l A dvs) (p : Nat × List UInt8)
    (own : w6.ownsRow base 106 2 (.slice (some ⟨g4, 0, none⟩) (dvs.length + 1) cap4) (dvs.length + 1) (dvs.flatMap wrt ++ wrt (p.1, dv))) (ho : Only (fun j => v.ownBlock = some j) w w6) (hdv : Has w6 dv p.2)
    (hA : ∀ j, blk dv = some j → ¬ A j ∧ g4 ≠ j ∧ j < w6.heap.size) (hat : v.ownBlock = some g4 ∨ w.heap.size ≤ g4) : Writes w6 base (.slice (some ⟨g4, 0, none⟩) (dvs.length + 1) cap4) (l ++ [p]) A (dvs ++ [(p.1, dv)]) := by
  refine ⟨by simpa using own, by simp [h.len], ?_, ?_⟩
  · intro k q hq
    rcases Nat.lt_or_ge k l.length with hk | hk
    · rw [List.getElem?_append_left hk] at hq
      obtain ⟨dv', h1, h2, h3⟩ := h.each k q hq
      have hk' : k < dvs.length := by rw [h.len]; exact hk
      refine ⟨dv', by rw [List.getElem?_append_left hk']; exact h1, h2.only ho (fun _ j hj => (h3 j hj).2.1), fun j hj => ⟨(h3 j hj).1, ?_, Nat.lt_of_lt_of_le (h3 j hj).2.2 ho.size⟩⟩
      simp only [Value.ownBlock, ne_eq, Option.some.injEq]
      rcases hat with e | e
      · intro e2; subst e2; exact (h3 g4 hj).2.1 e
      · have := (h3 j hj).2.2; omega
    · have hk2 : k = l.length := by
        have := (List.getElem?_eq_some_iff.1 hq).1
        simp at this
        omega
      subst hk2
      simp at hq
      subst hq
      refine ⟨dv, by rw [← h.len]; simp, hdv, fun j hj => ⟨(hA j hj).1, ?_, (hA j hj).2.2⟩⟩
      simp only [Value.ownBlock, ne_eq, Option.some.injEq]
      exact (hA j hj).2.1
  · intro q hq
    rcases List.mem_append.1 hq with hq | hq
    · exact h.one q hq
    · simp at hq
      subst hq
      exact hdv.one

section
variable {w : World} {b g cap : Nat} {pv : Value} {d : Dk}

end

end Go.Proofs.Ytoffcbopolonoaa
