/-
  A Writer of the call's own: package octet.
-/
import Derived.Test.YtlcnckmbimmpjaaDoorCallsO
import Derived.Test.YtlcnckmbimmpjaaDoorFresh
namespace Go.Proofs.YtlcnckmbimmpjaaDoor
open Go.RowKit
set_option linter.unusedSimpArgs false
set_option linter.unusedVariables false

namespace WO

/-- a writer at b that was made since w0; all that was there in w0 is as it was -/
structure Mine (w0 w : World) (b : Nat) (bs : List UInt8) : Prop where
  at' : ∃ v, WrAt 99 w b v bs ∧ ∀ k, v.ownBlock = some k → w0.heap.size ≤ k
  up : w0.heap.size ≤ b
  only : Only (fun _ => False) w0 w

theorem Mine.same {w0 w w' : World} {b : Nat} {bs : List UInt8} (h : Mine w0 w b bs) (ho : Only (fun _ => False) w w') : Mine w0 w' b bs := by
  obtain ⟨v, hv, hk⟩ := h.at'
  exact ⟨⟨v, hv.only ho (fun h => h) (fun _ _ h => h), hk⟩, h.up, h.only.trans ho (fun _ _ e => e)⟩

theorem Mine.back {w0 w1 w : World} {b : Nat} {bs : List UInt8} (h : Mine w1 w b bs) (ho : Only (fun _ => False) w0 w1) : Mine w0 w b bs := by
  obtain ⟨v, hv, hk⟩ := h.at'
  have := ho.size
  exact ⟨⟨v, hv, fun k e => by have := hk k e; omega⟩, by have := h.up; omega, ho.trans h.only (fun _ _ e => e)⟩

theorem Mine.len_lt {w0 w : World} {b : Nat} {bs : List UInt8} (h : Mine w0 w b bs) : b < w.heap.size := by
  obtain ⟨v, hv, hk⟩ := h.at'
  exact lt_of_block hv.blk

theorem Mine.wrote {w0 w w' : World} {b : Nat} {v v' : Value} {cs : List UInt8} (ho : Only (fun _ => False) w0 w) (hb : w0.heap.size ≤ b) (hk : ∀ k, v.ownBlock = some k → w0.heap.size ≤ k) (h : Wrote 99 w b v w' v' cs) : Mine w0 w' b cs := by
  have := ho.size
  refine ⟨⟨v', h.now, fun k e => ?_⟩, hb, ho.trans h.only (fun i hi e => ?_)⟩
  · rcases h.fresh k e with e | e
    · exact hk k e
    · omega
  · rcases e with e | e
    · omega
    · have := hk i e; omega

theorem toU64_nat (n : Nat) (h : n < 18446744073709551616) : toU64 n = n := by unfold toU64; rw [IntKind.wrap_u64]; omega

section
variable {w0 w : World} {b : Nat} {bs : List UInt8}

theorem mine_u16 (h : Mine w0 w b bs) (n : Nat) (hn : n < 18446744073709551616) (hr : bs.length + 9 ≤ 140737488355328) :
    Calls Tryd.prog 95 #[.pointer (some ⟨b, 0, none⟩), .int .i64 n] w fun e w' => e = .returned (.tuple #[]) ∧ Mine w0 w' b (bs ++ be 2 n) := by
  obtain ⟨v, hv, hk⟩ := h.at'
  refine (u16_any b v bs n w hv hr).mono ?_
  rintro e w' ⟨rfl, v', hw⟩
  rw [toU64_nat n hn] at hw
  exact ⟨rfl, Mine.wrote h.only h.up hk hw⟩
theorem mine_u8 (h : Mine w0 w b bs) (n : Nat) (hn : n < 18446744073709551616) (hr : bs.length + 9 ≤ 140737488355328) :
    Calls Tryd.prog 56 #[.pointer (some ⟨b, 0, none⟩), .int .i64 n] w fun e w' => e = .returned (.tuple #[]) ∧ Mine w0 w' b (bs ++ be 1 n) := by
  obtain ⟨v, hv, hk⟩ := h.at'
  refine (u8_any b v bs n w hv hr).mono ?_
  rintro e w' ⟨rfl, v', hw⟩
  rw [toU64_nat n hn] at hw
  exact ⟨rfl, Mine.wrote h.only h.up hk hw⟩
theorem mine_u32 (h : Mine w0 w b bs) (n : Nat) (hn : n < 18446744073709551616) (hr : bs.length + 9 ≤ 140737488355328) :
    Calls Tryd.prog 57 #[.pointer (some ⟨b, 0, none⟩), .int .i64 n] w fun e w' => e = .returned (.tuple #[]) ∧ Mine w0 w' b (bs ++ be 4 n) := by
  obtain ⟨v, hv, hk⟩ := h.at'
  refine (u32_any b v bs n w hv hr).mono ?_
  rintro e w' ⟨rfl, v', hw⟩
  rw [toU64_nat n hn] at hw
  exact ⟨rfl, Mine.wrote h.only h.up hk hw⟩
theorem mine_u64 (h : Mine w0 w b bs) (n : Nat) (hn : n < 18446744073709551616) (hr : bs.length + 9 ≤ 140737488355328) :
    Calls Tryd.prog 97 #[.pointer (some ⟨b, 0, none⟩), .int .u64 n] w fun e w' => e = .returned (.tuple #[]) ∧ Mine w0 w' b (bs ++ be 8 n) := by
  obtain ⟨v, hv, hk⟩ := h.at'
  refine (u64_any b v bs n w hn hv hr).mono ?_
  rintro e w' ⟨rfl, v', hw⟩
  exact ⟨rfl, Mine.wrote h.only h.up hk hw⟩
theorem mine_raw (h : Mine w0 w b bs) (xv : Value) (us : List UInt8) (hx : Has w xv us) (hr : bs.length + us.length ≤ 140737488355328) :
    Calls Tryd.prog 96 #[.pointer (some ⟨b, 0, none⟩), xv] w fun e w' => e = .returned (.tuple #[]) ∧ Mine w0 w' b (bs ++ us) := by
  obtain ⟨v, hv, hk⟩ := h.at'
  refine (raw_any b v bs xv us w hx hv hr).mono ?_
  rintro e w' ⟨rfl, v', hw⟩
  exact ⟨rfl, Mine.wrote h.only h.up hk hw⟩
theorem mine_bytes (h : Mine w0 w b bs) (hr : bs.length ≤ 140737488355328) :
    Calls Tryd.prog 26 #[.pointer (some ⟨b, 0, none⟩)] w fun e w' => ∃ u, e = .returned u ∧ Made w w' u bs := by
  obtain ⟨v, hv, hk⟩ := h.at'
  exact bytes_any b v bs w hv (by omega)
end

theorem mine_new (w : World) : Calls Tryd.prog 24 #[] w fun e w' => ∃ b, e = .returned (.pointer (some ⟨b, 0, none⟩)) ∧ Mine w w' b [] := by
  refine (newWriter_any w).mono ?_
  rintro e w' ⟨rfl, h, ho⟩
  exact ⟨_, rfl, ⟨⟨_, h, fun k e => by cases e⟩, Nat.le_refl _, ho⟩⟩

end WO
end Go.Proofs.YtlcnckmbimmpjaaDoor
