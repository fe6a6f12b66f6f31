/-
  append(u, make([]byte, 16)...), onto a row of bytes that is owned.
-/
import Derived.Test.YtbhidmeobeecmaaMdPad
import Derived.Deep.AppendSrc
namespace Go.Proofs.Ytbhidmeobeecmaa
open Go.RowKit
set_option linter.unusedSimpArgs false
set_option linter.unusedVariables false
namespace Md
open Ae (zero16)

def z16 : List Value := List.replicate 16 (.int .u8 0)
theorem z16_one : ∀ u ∈ z16, u.oneCell' = true := fun u hu => by rw [List.eq_of_mem_replicate hu]; rfl
theorem z16_bv : z16 = zero16.map bv := by simp [z16, zero16, bv]
theorem zeroCells_16 : Builtin.zeroCells #[Value.int IntKind.u8 0] 16 = z16.toArray := by kernel_rfl

theorem room_z (w : World) (ty b off sLen sCap : Nat) (hroom : sLen + 16 ≤ sCap) (hc : ∀ j, j < 16 → (w.cell? ⟨b, off + sLen + j, none⟩).isSome = true) (hf : ∀ j, j < 16 → w.frozen? ⟨b, off + sLen + j, none⟩ = false) :
    (Builtin.append_ #[22, 3] ty #[.slice (some ⟨b, off, none⟩) sLen sCap, .int .i64 16]).run Try.prog w = .ok (.slice (some ⟨b, off, none⟩) (sLen + 16) sCap) (w.setCells b (off + sLen) z16) := by
  obtain ⟨i, hi, hz, hsize, hby⟩ := info_parts Try.info5
  have hst := run_storeCells_cells (P := Try.prog) b (off + sLen) z16 0 w (by simpa [z16] using hc) (by simpa [z16] using hf) z16_one
  simp only [Nat.add_zero] at hst
  have hw : IntKind.i64.wrap 16 = 16 := by decide
  have hzc : Builtin.zeroCells (Value.int IntKind.u8 0).cells 16 = z16.toArray := zeroCells_16
  simp [Builtin.append_, run_underlying Try.underlying22, run_underlying Try.underlying3, sizeOf, typeInfo, zeroValue, hi, hz, hsize, hby, asInt, asIntOf, hw, hroom, Addr.add_lit, hzc, hst]

theorem grow_z (w : World) (ty : Nat) (base : Option Addr) (sLen sCap : Nat) (olds : List Value)
    (hold : (Builtin.firstCells 1 sLen (.slice base sLen sCap)).run Try.prog w.drew = .ok olds.toArray w.drew) (hg : sCap < sLen + 16) (hs : sLen ≤ 16) :
    ∃ (C : Nat) (rest : List Value), sLen + 16 ≤ C ∧ C ≤ maxLen ∧ (Builtin.append_ #[22, 3] ty #[.slice base sLen sCap, .int .i64 16]).run Try.prog w =
      .ok (.slice (some ⟨w.heap.size, 0, none⟩) (sLen + 16) C) (w.drew.alloc (.cells (olds ++ z16 ++ rest).toArray 5)) := by
  obtain ⟨i, hi, hz, hsize, hby⟩ := info_parts Try.info5
  have hn : ¬ (sLen + 16 ≤ sCap) := by omega
  have h63' : ¬ (9223372036854775807 < ((sLen : Int) + 16)) := by omega
  have hmx : ¬ (9223372036854775807 < (sLen : Int) + max 16 0) := by omega
  have hnc : Builtin.nextslicecap (sLen + 16) sCap ≤ 64 := by
    unfold Builtin.nextslicecap
    split
    · omega
    · rw [if_pos (by omega)]; omega
  have h48' : ¬ (281474976710656 < Builtin.nextslicecap (sLen + 16) sCap) := by omega
  have hw : IntKind.i64.wrap 16 = 16 := by decide
  have hzc : Builtin.zeroCells (Value.int IntKind.u8 0).cells 16 = z16.toArray := zeroCells_16
  refine ⟨grownCap w (sLen + 16) sCap 5, (Builtin.zeroCells (Value.int IntKind.u8 0).cells (grownCap w (sLen + 16) sCap 5 - (sLen + 16))).toList, grownCap_ge _ _ _ _, grownCap_le_maxLen _ _ _ _ (by unfold maxLen; omega), ?_⟩
  simp [Builtin.append_, run_underlying Try.underlying22, run_underlying Try.underlying3, sizeOf, typeInfo, zeroValue, hi, hz, hsize, hby, asInt, asIntOf, hw, hn, h63', hmx, h48', Question.forced, hold, newRow, grownCap, hzc]
  generalize Builtin.zeroCells (Value.int IntKind.u8 0).cells _ = X
  rw [show (olds.toArray ++ (z16.toArray ++ X)) = (olds ++ (z16 ++ X.toList)).toArray by generalize z16 = Z; apply Array.ext'; simp]

theorem has_z {w : World} {b : Nat} {olds rest : List Value} {us : List UInt8} {C L : Nat} {t : TypeId} (h : w.heap[b]? = some (.cells (olds ++ z16 ++ rest).toArray t (0, 0))) (ho : olds = us.map bv) (hL : L = us.length + 16) (hC : L ≤ C) (hm : C ≤ maxLen) : Has w (.slice (some ⟨b, 0, none⟩) L C) (us ++ zero16) := by
  have hl : (us ++ zero16).length = L := by rw [List.length_append, hL]; rfl
  refine Or.inr ⟨⟨b, 0, none⟩, C, by rw [hl], fun _ => rfl, by omega, hm, fun _ => lt_of_block h, fun j hj => ?_⟩
  rw [Nat.zero_add, cell_of_row w b j _ _ _ h]
  have e : olds ++ z16 ++ rest = (us ++ zero16).map bv ++ rest := by rw [ho, z16_bv, List.map_append]
  rw [e]
  simp only [List.getElem?_toArray]
  rw [List.getElem?_append_left (by rw [List.length_map]; exact hj), List.getElem?_map, List.getElem?_eq_getElem hj]
  rfl

/-- the row u of at most 16 bytes, with 16 zeros behind it -/
theorem zeros_any (w : World) (ty base : Nat) (v : Value) (q : Nat) (us : List UInt8) (hq : q ≤ 16) (own : w.ownsRow base 5 1 v q (us.map bv)) :
    ∃ a cap w', (Builtin.append_ #[22, 3] ty #[v, .int .i64 16]).run Try.prog w = .ok (.slice (some a) (q + 16) cap) w' ∧ Has w' (.slice (some a) (q + 16) cap) (us ++ zero16) ∧ Only (fun j => v.ownBlock = some j) w w' := by
  have hul : us.length = q := by have := own.1; simpa using this
  rcases own.2 with ⟨rfl, h0⟩ | ⟨g, cap, cur, rfl, hb, hg, hc, hm, hcs, ht⟩
  · obtain ⟨C, rest, h1, h2, hr⟩ := grow_z w ty none 0 0 [] (run_firstCells_none w.drew 1 0 0 0) (by decide) (by decide)
    subst h0
    refine ⟨_, C, _, hr, has_z (heap_alloc_new w.drew _) (by rw [List.eq_nil_of_length_eq_zero hul]; rfl) (by omega) h1 h2, ?_⟩
    exact ((Only.refl _ w).drew).alloc _
  · have hcur : cur.toList = us.map bv ++ cur.toList.drop q := by
      rw [← ht]
      simp
    by_cases hroom : q + 16 ≤ cap
    · have hcell : ∀ j, j < cur.size → (w.cell? ⟨g, j, none⟩).isSome = true ∧ w.frozen? ⟨g, j, none⟩ = false := fun j hj => by
        refine ⟨?_, ?_⟩
        · rw [cell_of_row w g j _ _ _ hg]
          simp [hj]
        · simp [World.frozen?, hg]
      have hr := room_z w ty g 0 q cap hroom (fun j hj => by rw [Nat.zero_add]; exact (hcell (q + j) (by omega)).1) (fun j hj => by rw [Nat.zero_add]; exact (hcell (q + j) (by omega)).2)
      rw [Nat.zero_add] at hr
      refine ⟨_, cap, _, hr, ?_, Only.setCells (S := fun j => Value.ownBlock (.slice (some ⟨g, 0, none⟩) q cap) = some j) (b := g) (fun _ => rfl) _ _ _ (Only.refl _ _)⟩
      have h1 := Ae.setCells_block z16 w q cur.toList (by simpa using hg)
      rw [setMany_eq _ _ _ (by simp [z16]; omega), hcur, List.take_left' (by simp [hul]), ← List.append_assoc] at h1
      exact has_z h1 rfl (by omega) hroom hm
    · obtain ⟨C, rest, h1, h2, hr⟩ := grow_z w ty (some ⟨g, 0, none⟩) q cap (us.map bv) (run_firstCells_some w.drew 1 q ⟨g, 0, none⟩ q cap (us.map bv) (by simp [hul]) (fun j u hu => by
        have hc := own.cells (g := g) rfl j u hu
        exact hc)) (by omega) hq
      exact ⟨_, C, _, hr, has_z (heap_alloc_new w.drew _) rfl (by omega) h1 h2, ((Only.refl _ w).drew).alloc _⟩

end Md
end Go.Proofs.Ytbhidmeobeecmaa
