/-
  locksmithlaw9.ModesKnown.
-/
import Derived.Test.YtdmcnblnoiahcaaMdMacs
namespace Go.Proofs.Ytdmcnblnoiahcaa
open Go.RowKit
set_option linter.unusedSimpArgs false
set_option linter.unusedVariables false
namespace Md
open Ae (zero16 Arr)

def rk : List UInt8 := [0x2b, 0x7e, 0x15, 0x16, 0x28, 0xae, 0xd2, 0xa6, 0xab, 0xf7, 0x15, 0x88, 0x09, 0xcf, 0x4f, 0x3c]
def rm : List UInt8 := [187, 29, 105, 41, 233, 89, 55, 40, 127, 163, 125, 18, 155, 117, 103, 70]
theorem rfc_mac : macT rk [] = rm := by decide +kernel
theorem rk_ok : keyB rk := Or.inl rfl
theorem rk_15 : ¬ keyB (rk.take 15) := by decide

set_option maxRecDepth 100000 in
set_option maxHeartbeats 4000000 in
theorem modes_known (w : World) :
    Calls Try.prog 3 #[] w fun e w' => e = .returned (.bool true) ∧ Only (fun _ => False) w w' := by
  obtain ⟨w1, k1, e1, ek1, hk, o1⟩ : ∃ w1 k1, w1 = w.alloc (.cells #[.int .u8 43, .int .u8 126, .int .u8 21, .int .u8 22, .int .u8 40, .int .u8 174, .int .u8 210, .int .u8 166, .int .u8 171, .int .u8 247, .int .u8 21, .int .u8 136, .int .u8 9, .int .u8 207, .int .u8 79, .int .u8 60] 5) ∧ k1 = w.heap.size ∧ Has w1 (.slice (some ⟨k1, 0, none⟩) 16 16) rk ∧ Only (fun _ => False) w w1 :=
    ⟨_, _, rfl, rfl, has_lit (bs := rk) (heap_alloc_last w _) (by unfold maxLen; decide), (Only.refl _ w).alloc _⟩
  have hk15 : Has w1 (.slice (some ⟨k1, 0, none⟩) 15 16) (rk.take 15) := Has.front hk (by decide)
  have hn : ∀ W, Has W (.slice none 0 0) [] := fun W => Or.inl ⟨rfl, rfl⟩
  have HK := hide hk
  have HK15 := hide hk15
  have O1 := hide o1
  have H1 := hide (mac_fine rk [] rk_ok (by decide) _ _ w1 hk (hn w1))
  rw [rfc_mac] at H1
  clear hk hk15 o1
  go_enter Try.func3, Try.ntmps3
  go_upto_region 2 with fail
  rw [← e1, ← ek1]
  clear e1 ek1
  go_wp2_with fail
  refine (unhide H1).mono ?_
  rintro e w2 ⟨mv, rfl, hm, o2⟩
  have hm2 : Has w2 mv rm := Has.ofOwns hm
  obtain ⟨ma, mc, rfl, _⟩ := hm2.shape
  have HM := hide hm2
  have O2 := hide o2
  clear hm hm2 o2 H1
  go_wp2_with fail
  refine (mac_not (rk.take 15) rk_15 _ _ w2 ((unhide HK15).only (unhide O2) (fun _ _ _ e => e))).mono ?_
  rintro e w3 ⟨rfl, hw3⟩
  rw [hw3]
  clear hw3 w3
  go_wp2_with fail
  refine (sealM_not rk (rk.take 15) (fun h => by have := h.2; revert this; decide) _ _ _ w2 ((unhide HK).only (unhide O2) (fun _ _ _ e => e)) ((unhide HK15).only (unhide O2) (fun _ _ _ e => e))).mono ?_
  rintro e w4 ⟨rfl, o4⟩
  have O4 := hide ((unhide O2).trans o4 (fun _ _ e => e))
  have O24 := hide o4
  clear o4
  go_wp2_with fail
  refine (openM_fine rk rk (rk.take 15) rk_ok rfl (by decide) _ _ _ w4 ((unhide HK).only (unhide O4) (fun _ _ _ e => e)) ((unhide HK).only (unhide O4) (fun _ _ _ e => e)) ((unhide HK15).only (unhide O4) (fun _ _ _ e => e))).mono ?_
  rintro e w5 ⟨ov, rfl, ho5, o5⟩
  rw [show openE rk rk (rk.take 15) = 11 from by unfold openE; rw [show fillsB (rk.take 15) = false from by decide]; rfl]
  have O25 := hide ((unhide O24).trans o5 (fun _ _ e => e))
  clear ho5 o5 O4 O24
  go_wp2_with fail
  refine (unpad_any _ [] w5 (Or.inl ⟨rfl, rfl⟩) (by decide)).mono ?_
  rintro e w6 ⟨pv, rfl, hp6, o6⟩
  rw [show unpadE [] = 11 from by decide]
  have O26 := hide ((unhide O25).trans o6 (fun _ _ e => e))
  clear hp6 o6 O25
  have HZ : Hid (Has (w6.alloc (.cells (zero16.map bv).toArray 5)) (.slice (some ⟨w6.heap.size, 0, none⟩) 16 16) zero16) := has_lit (bs := zero16) (heap_alloc_last w6 _) (by unfold maxLen; decide)
  have O27 := hide ((unhide O26).alloc (.cells (zero16.map bv).toArray 5))
  have HZC : Hid ((#[Value.int IntKind.u8 0, Value.int IntKind.u8 0, Value.int IntKind.u8 0, Value.int IntKind.u8 0, Value.int IntKind.u8 0, Value.int IntKind.u8 0, Value.int IntKind.u8 0, Value.int IntKind.u8 0, Value.int IntKind.u8 0, Value.int IntKind.u8 0, Value.int IntKind.u8 0, Value.int IntKind.u8 0, Value.int IntKind.u8 0, Value.int IntKind.u8 0, Value.int IntKind.u8 0, Value.int IntKind.u8 0] : Array Value) = (zero16.map bv).toArray) := Ae.zeros_eq
  obtain ⟨i0, hi0, hz0, hz1, hz2⟩ := info_parts Try.info5
  have hmk : (Instr.makeSlice 22 (.int .i64 16) (.int .i64 16)).run Try.prog w6 = .ok (.slice (some ⟨w6.heap.size, 0, none⟩) 16 16) (w6.alloc (.cells (zero16.map bv).toArray 5)) := by
    have h := run_make (P := Try.prog) w6 22 5 i0 (.int .u8 0) Try.underlying22 hi0 hz0 .i64 .i64 16 16 (by decide) (by decide) (by rw [hz2]; decide) (by decide)
    simp only [hz1] at h
    have hmc : madeCells (Value.int IntKind.u8 0).cells (Int.toNat 16 * 1) = (zero16.map bv).toArray := by kernel_rfl
    rw [hmc] at h
    exact h
  clear hi0 hz0 hz1 hz2
  generalize hw7 : w6.alloc (.cells (zero16.map bv).toArray 5) = w7 at *
  generalize hk7 : w6.heap.size = k7 at *
  clear hw7 hk7
  go_wp2_with fail
  refine (unpad_any _ zero16 w7 (unhide HZ) (by decide)).mono ?_
  rintro e w8 ⟨qv, rfl, hq8, o8⟩
  rw [show unpadE zero16 = 11 from by decide]
  have O28 := hide ((unhide O27).trans o8 (fun _ _ e => e))
  clear hq8 o8 O27 hmk HZ
  have hm8 := (unhide HM).only (unhide O28) (fun _ _ _ e => e)
  obtain ⟨mb, mo, hao, _, hcell⟩ := hm8.at (by decide)
  subst hao
  have HC := hide hcell
  clear hm8 hcell
  rw [show rm.length = 16 from rfl] at *
  go_wp2_with fail
  refine (known_any w8).mono ?_
  rintro e w9 ⟨rfl, o9⟩
  have c0 : w9.cell? ⟨mb, mo, none⟩ = some (.int .u8 187) := o9.cell (unhide HC 0 (by decide)) (fun e => e)
  have c1 : w9.cell? ⟨mb, mo + 1, none⟩ = some (.int .u8 29) := o9.cell (unhide HC 1 (by decide)) (fun e => e)
  have c15 : w9.cell? ⟨mb, mo + 15, none⟩ = some (.int .u8 70) := o9.cell (unhide HC 15 (by decide)) (fun e => e)
  have O9 := hide (((unhide O1).trans (unhide O2) (fun _ _ e => e)).trans ((unhide O28).trans o9 (fun _ _ e => e)) (fun _ _ e => e))
  clear o9 HC
  go_wp2
  go_ret
  exact ⟨rfl, unhide O9⟩
end Md
end Go.Proofs.Ytdmcnblnoiahcaa
