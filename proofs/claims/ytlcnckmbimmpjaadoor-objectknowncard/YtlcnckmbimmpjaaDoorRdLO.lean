/-
  A Reader of the call's own: package octet.
-/
import Derived.Test.YtlcnckmbimmpjaaDoorRdCallsO
namespace Go.Proofs.YtlcnckmbimmpjaaDoor
open Go.RowKit
set_option linter.unusedSimpArgs false
set_option linter.unusedVariables false

namespace RO

/-- a reader at b that was made since w0, ahead of block hi; all that was there in w0 is as it was -/
structure Mine (w0 : World) (hi : Nat) (w : World) (b : Nat) (lack : Bool) (rest : List UInt8) : Prop where
  at' : ∃ v, Rdr 110 w b v lack rest ∧ ∀ k, blk v = some k → w0.heap.size ≤ k ∧ k < hi
  up : w0.heap.size ≤ b
  hi : b < hi
  only : Only (fun _ => False) w0 w

theorem Mine.later {w0 w w' : World} {hi b : Nat} {lack : Bool} {rest : List UInt8} (h : Mine w0 hi w b lack rest) {S : Nat → Prop} (ho : Only S w w') (hS : ∀ k, S k → hi ≤ k) : Mine w0 hi w' b lack rest := by
  obtain ⟨v, hv, hk⟩ := h.at'
  have := h.up
  have := h.hi
  exact ⟨⟨v, hv.only ho (fun e => by have := hS b e; omega) (fun k e hs => by have := hS k hs; have := (hk k e).2; omega), hk⟩, h.up, h.hi, h.only.trans ho (fun i hi e => by have := hS i e; omega)⟩
theorem Mine.same {w0 w w' : World} {hi b : Nat} {lack : Bool} {rest : List UInt8} (h : Mine w0 hi w b lack rest) (ho : Only (fun _ => False) w w') : Mine w0 hi w' b lack rest := h.later ho (fun _ e => e.elim)

theorem Mine.back {w0 w1 w : World} {hi b : Nat} {lack : Bool} {rest : List UInt8} (h : Mine w1 hi w b lack rest) (ho : Only (fun _ => False) w0 w1) : Mine w0 hi w b lack rest := by
  obtain ⟨v, hv, hk⟩ := h.at'
  have := ho.size
  exact ⟨⟨v, hv, fun k e => by have := hk k e; omega⟩, by have := h.up; omega, h.hi, ho.trans h.only (fun _ _ e => e)⟩

theorem Mine.lt {w0 w : World} {hi b : Nat} {lack : Bool} {rest : List UInt8} (h : Mine w0 hi w b lack rest) : b < w.heap.size := by
  obtain ⟨v, hv, hk⟩ := h.at'
  exact lt_of_block hv.blk

theorem Mine.read {w0 w w' : World} {hi b : Nat} {v v' : Value} {l : Bool} {r : List UInt8} (ho : Only (fun _ => False) w0 w) (hb : w0.heap.size ≤ b) (hbi : b < hi) (hk : ∀ k, blk v = some k → w0.heap.size ≤ k ∧ k < hi) (h : ReadTo 110 w b v w' v' l r) : Mine w0 hi w' b l r :=
  ⟨⟨v', h.now, fun k e => hk k (h.vblk k e)⟩, hb, hbi, ho.trans h.only (fun i hi e => by omega)⟩

theorem rd_yes (rest : List UInt8) (n : Nat) (hn : n ≤ rest.length) : rdBytes false rest n = rest.take n ∧ rdLack false rest n = false ∧ rdRest false rest n = rest.drop n := by
  have h := rdOk_yes (lack := false) (rest := rest) (n := n) rfl hn
  unfold rdBytes rdLack rdRest
  rw [h]
  exact ⟨by simp, rfl, by simp⟩
theorem rd_no (rest : List UInt8) (lack : Bool) (n : Int) (hn : lack = true ∨ n < 0 ∨ (rest.length : Int) < n) : rdBytes lack rest n = [] ∧ rdLack lack rest n = true ∧ rdRest lack rest n = [] := by
  have h := rdOk_no hn
  unfold rdBytes rdLack rdRest
  rw [h]
  exact ⟨rfl, rfl, rfl⟩

section
variable {w0 w : World} {hi b : Nat} {lack : Bool} {rest : List UInt8}

theorem mine_u8 (h : Mine w0 hi w b false rest) (hl : 1 ≤ rest.length) (hr : rest.length ≤ 140737488355328) :
    Calls Tryd.prog 69 #[.pointer (some ⟨b, 0, none⟩)] w fun e w' => e = .returned (.int .i64 (de (rest.take 1))) ∧ Mine w0 hi w' b false (rest.drop 1) ∧ Only (fun k => k = b) w w' := by
  obtain ⟨v, hv, hk⟩ := h.at'
  refine (u8_any b v false rest w hv hr).mono ?_
  rintro e w' ⟨rfl, v', ht⟩
  obtain ⟨e1, e2, e3⟩ := rd_yes rest 1 hl
  rw [show ((1 : Nat) : Int) = 1 from rfl] at e1 e2 e3
  rw [e2, e3] at ht
  rw [e1]
  exact ⟨rfl, Mine.read h.only h.up h.hi hk ht, ht.only⟩
theorem mine_u16 (h : Mine w0 hi w b false rest) (hl : 2 ≤ rest.length) (hr : rest.length ≤ 140737488355328) :
    Calls Tryd.prog 100 #[.pointer (some ⟨b, 0, none⟩)] w fun e w' => e = .returned (.int .i64 (de (rest.take 2))) ∧ Mine w0 hi w' b false (rest.drop 2) ∧ Only (fun k => k = b) w w' := by
  obtain ⟨v, hv, hk⟩ := h.at'
  refine (u16_any b v false rest w hv hr).mono ?_
  rintro e w' ⟨rfl, v', ht⟩
  obtain ⟨e1, e2, e3⟩ := rd_yes rest 2 hl
  rw [show ((2 : Nat) : Int) = 2 from rfl] at e1 e2 e3
  rw [e2, e3] at ht
  rw [e1]
  exact ⟨rfl, Mine.read h.only h.up h.hi hk ht, ht.only⟩
theorem mine_u32 (h : Mine w0 hi w b false rest) (hl : 4 ≤ rest.length) (hr : rest.length ≤ 140737488355328) :
    Calls Tryd.prog 70 #[.pointer (some ⟨b, 0, none⟩)] w fun e w' => e = .returned (.int .i64 (de (rest.take 4))) ∧ Mine w0 hi w' b false (rest.drop 4) ∧ Only (fun k => k = b) w w' := by
  obtain ⟨v, hv, hk⟩ := h.at'
  refine (u32_any b v false rest w hv hr).mono ?_
  rintro e w' ⟨rfl, v', ht⟩
  obtain ⟨e1, e2, e3⟩ := rd_yes rest 4 hl
  rw [show ((4 : Nat) : Int) = 4 from rfl] at e1 e2 e3
  rw [e2, e3] at ht
  rw [e1]
  exact ⟨rfl, Mine.read h.only h.up h.hi hk ht, ht.only⟩
theorem mine_u64 (h : Mine w0 hi w b false rest) (hl : 8 ≤ rest.length) (hr : rest.length ≤ 140737488355328) :
    Calls Tryd.prog 101 #[.pointer (some ⟨b, 0, none⟩)] w fun e w' => e = .returned (.int .u64 (de (rest.take 8))) ∧ Mine w0 hi w' b false (rest.drop 8) ∧ Only (fun k => k = b) w w' := by
  obtain ⟨v, hv, hk⟩ := h.at'
  refine (u64_any b v false rest w hv hr).mono ?_
  rintro e w' ⟨rfl, v', ht⟩
  obtain ⟨e1, e2, e3⟩ := rd_yes rest 8 hl
  rw [show ((8 : Nat) : Int) = 8 from rfl] at e1 e2 e3
  rw [e2, e3] at ht
  rw [e1]
  exact ⟨rfl, Mine.read h.only h.up h.hi hk ht, ht.only⟩
theorem mine_raw (h : Mine w0 hi w b lack rest) (n : Int) (hr : rest.length ≤ 140737488355328) :
    Calls Tryd.prog 99 #[.pointer (some ⟨b, 0, none⟩), .int .i64 n] w fun e w' => ∃ u, e = .returned u ∧ Owns w.heap.size w' u (rdBytes lack rest n) ∧ Mine w0 hi w' b (rdLack lack rest n) (rdRest lack rest n) ∧ Only (fun k => k = b) w w' := by
  obtain ⟨v, hv, hk⟩ := h.at'
  refine (raw_any b v lack rest n w hv hr).mono ?_
  rintro e w' ⟨u, rfl, hu, v', ht⟩
  exact ⟨u, rfl, hu, Mine.read h.only h.up h.hi hk ht, ht.only⟩
end

theorem mine_new (xv : Value) (us : List UInt8) (w : World) (hx : Has w xv us) (hr : us.length ≤ 140737488355328) :
    Calls Tryd.prog 27 #[xv] w fun e w' => ∃ b, e = .returned (.pointer (some ⟨b, 0, none⟩)) ∧ Mine w w'.heap.size w' b false us := by
  refine (newReader_any xv us w hx hr).mono ?_
  rintro e w' ⟨b, rfl, v, hv, ho, hb, hk⟩
  exact ⟨b, rfl, ⟨⟨v, hv, hk⟩, hb, lt_of_block hv.blk, ho⟩⟩

end RO
end Go.Proofs.YtlcnckmbimmpjaaDoor
