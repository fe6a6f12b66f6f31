/-
  Readers: what a call leaves, said once for both packages.
-/
import Derived.Test.YtadpmninoghcjaaDoorRd
import Derived.Test.YtadpmninoghcjaaDoorDe
namespace Go.Proofs.YtadpmninoghcjaaDoor
open Go.RowKit
set_option linter.unusedSimpArgs false
set_option linter.unusedVariables false

/-- can n bytes be taken? -/
def rdOk (lack : Bool) (rest : List UInt8) (n : Int) : Bool := !lack && decide (0 ≤ n) && decide (n ≤ rest.length)
def rdBytes (lack : Bool) (rest : List UInt8) (n : Int) : List UInt8 := if rdOk lack rest n then rest.take n.toNat else []
def rdLack (lack : Bool) (rest : List UInt8) (n : Int) : Bool := !rdOk lack rest n
def rdRest (lack : Bool) (rest : List UInt8) (n : Int) : List UInt8 := if rdOk lack rest n then rest.drop n.toNat else []

theorem rdOk_yes {lack : Bool} {rest : List UInt8} {n : Nat} (hl : lack = false) (hn : n ≤ rest.length) : rdOk lack rest n = true := by
  subst hl
  simp only [rdOk, Bool.not_false, Bool.true_and, Bool.and_eq_true, decide_eq_true_eq]
  omega

theorem rdOk_no {lack : Bool} {rest : List UInt8} {n : Int} (h : lack = true ∨ n < 0 ∨ (rest.length : Int) < n) : rdOk lack rest n = false := by
  rcases h with rfl | h | h
  · rfl
  · simp only [rdOk, Bool.and_eq_false_iff, decide_eq_false_iff_not]; omega
  · simp only [rdOk, Bool.and_eq_false_iff, decide_eq_false_iff_not]; omega

/-- a reader, and that nothing is left where it lacks -/
structure Rdr (T : TypeId) (w : World) (b : Nat) (v : Value) (lack : Bool) (rest : List UInt8) : Prop extends RdAt T w b v lack rest where
  inv : lack = true → rest = []

/-- from (w, v) on the reader at b has come to (w', v') -/
structure ReadTo (T : TypeId) (w : World) (b : Nat) (v : Value) (w' : World) (v' : Value) (lack : Bool) (rest : List UInt8) : Prop where
  now : Rdr T w' b v' lack rest
  only : Only (fun k => k = b) w w'
  vblk : ∀ k, blk v' = some k → blk v = some k

theorem Rdr.only {T : TypeId} {w w' : World} {b : Nat} {v : Value} {lack : Bool} {rest : List UInt8} {S : Nat → Prop} (h : Rdr T w b v lack rest) (ho : Only S w w') (hb : ¬ S b) (hv : ∀ k, blk v = some k → ¬ S k) : Rdr T w' b v lack rest :=
  ⟨⟨ho.heap h.blk hb, h.has.only ho (fun _ => hv), h.sep⟩, h.inv⟩

theorem ReadTo.trans {T : TypeId} {w w1 w2 : World} {b : Nat} {v v1 v2 : Value} {l1 l2 : Bool} {r1 r2 : List UInt8} (h : ReadTo T w b v w1 v1 l1 r1) (k : ReadTo T w1 b v1 w2 v2 l2 r2) : ReadTo T w b v w2 v2 l2 r2 :=
  ⟨k.now, h.only.trans k.only (fun _ _ e => e), fun i hi => h.vblk i (k.vblk i hi)⟩

theorem Took.to {T : TypeId} {w : World} {b : Nat} {v : Value} {rest : List UInt8} {n : Nat} {w' : World} {f v' : Value} (h : Took T w b v false rest n w' f v') (hn : n ≤ rest.length) :
    ReadTo T w b v w' v' (rdLack false rest n) (rdRest false rest n) ∧ Has w' f (rdBytes false rest n) := by
  simp only [rdLack, rdRest, rdBytes, rdOk_yes rfl hn, if_true, Int.toNat_natCast, Bool.not_true]
  exact ⟨⟨⟨h.now, fun e => by cases e⟩, h.only, fun k hk => by rw [← h.vblk]; exact hk⟩, h.front⟩

theorem Lacks.to {T : TypeId} {w : World} {b : Nat} {v : Value} {lack : Bool} {rest : List UInt8} {n : Int} {w' : World} (h : Lacks T w b w') (hn : lack = true ∨ n < 0 ∨ (rest.length : Int) < n) :
    ReadTo T w b v w' (.slice none 0 0) (rdLack lack rest n) (rdRest lack rest n) ∧ rdBytes lack rest n = [] := by
  simp only [rdLack, rdRest, rdBytes, rdOk_no hn, Bool.not_false]
  exact ⟨⟨⟨h.now, fun _ => rfl⟩, h.only, fun k hk => by simp [blk] at hk⟩, rfl⟩

theorem de_rd (lack : Bool) (rest : List UInt8) (n : Nat) (m : Nat) (h : 256 ^ n ≤ m) : de (rdBytes lack rest n) < m := by
  have h1 := de_lt (rdBytes lack rest n)
  have h2 : (rdBytes lack rest n).length ≤ n := by
    unfold rdBytes
    split
    · rw [Int.toNat_natCast]; exact List.length_take_le _ _
    · simp
  exact Nat.lt_of_lt_of_le h1 (Nat.le_trans (Nat.pow_le_pow_right (by decide) h2) h)

theorem rdRest_le (lack : Bool) (rest : List UInt8) (n : Int) : (rdRest lack rest n).length ≤ rest.length := by
  unfold rdRest; split
  · simp
  · simp

/-- a length of two bytes, and so many bytes -/
def shBytes (lack : Bool) (rest : List UInt8) : List UInt8 := rdBytes (rdLack lack rest 2) (rdRest lack rest 2) (de (rdBytes lack rest 2))
def shLack (lack : Bool) (rest : List UInt8) : Bool := rdLack (rdLack lack rest 2) (rdRest lack rest 2) (de (rdBytes lack rest 2))
def shRest (lack : Bool) (rest : List UInt8) : List UInt8 := rdRest (rdLack lack rest 2) (rdRest lack rest 2) (de (rdBytes lack rest 2))

end Go.Proofs.YtadpmninoghcjaaDoor
