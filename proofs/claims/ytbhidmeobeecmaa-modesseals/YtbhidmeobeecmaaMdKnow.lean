/-
  Pad and Unpad, there and back; locksmithlaw9.known.
-/
import Derived.Test.YtbhidmeobeecmaaMdRPad
namespace Go.Proofs.Ytbhidmeobeecmaa
open Go.RowKit
set_option linter.unusedSimpArgs false
set_option linter.unusedVariables false
namespace Md
open Ae (gt gt_some)

theorem padT_last (t : List UInt8) : gt (padT t) ((padT t).length - 1) = UInt8.ofNat (pd t.length) := by
  have hp := pd_pos t.length
  have h := gt_some (padT t) ((padT t).length - 1) (by rw [padT_length]; omega)
  have h2 : (padT t)[(padT t).length - 1]? = some (UInt8.ofNat (pd t.length)) := by
    unfold padT
    rw [List.length_append, List.length_replicate, List.getElem?_append_right (by omega), List.getElem?_replicate, if_pos (by omega)]
  rw [h] at h2
  exact Option.some.inj h2
theorem padT_lastN (t : List UInt8) : lastN (padT t) = pd t.length := by
  have hp := pd_pos t.length
  unfold lastN
  rw [padT_last, UInt8.toNat_ofNat']
  omega
theorem padT_ok (t : List UInt8) : okB (padT t) = true := by
  have hp := pd_pos t.length
  have hl := padT_length t
  unfold okB
  rw [padT_lastN, padT_last]
  have he : endsB (padT t) (List.replicate (pd t.length) (UInt8.ofNat (pd t.length))) = true := by
    unfold endsB padT
    rw [List.length_append, List.length_replicate, Nat.add_sub_cancel, List.drop_left]
    simp
  rw [he]
  simp only [Bool.and_eq_true, decide_eq_true_eq, Bool.and_true]
  omega
theorem unpadE_pad (t : List UInt8) : unpadE (padT t) = 0 := by unfold unpadE; rw [padT_ok]; rfl
theorem unpadU_pad (t : List UInt8) : unpadU (padT t) = t := by
  unfold unpadU
  rw [padT_ok, if_pos rfl, padT_lastN]
  unfold padT
  rw [List.length_append, List.length_replicate, Nat.add_sub_cancel, List.take_left]

theorem Try.underStr : Try.prog.underlying 9 = some .string := by kernel_rfl

set_option maxRecDepth 100000 in
set_option maxHeartbeats 1000000 in
theorem known_any (w : World) : Calls Try.prog 13 #[] w fun e w' => e = .returned (.bool true) ∧ Only (fun _ => False) w w' := by
  have hlit : Has (w.alloc (.cells #[.int .u8 97, .int .u8 98] 5 (2, 3))) (.slice (some ⟨w.heap.size, 0, none⟩) 2 2) [97, 98] := by
    have h := has_lit (w := w.alloc (.cells #[.int .u8 97, .int .u8 98] 5 (2, 3))) (g := w.heap.size) (bs := [97, 98]) (t := 5) (fr := (2, 3)) (heap_alloc_new w _) (by unfold maxLen; simp)
    exact h
  have HP := hide (pad_any _ _ _ hlit (by simp))
  have oA := (Only.refl (fun _ => False) w).alloc (.cells #[.int .u8 97, .int .u8 98] 5 (2, 3))
  have OA := hide oA
  clear hlit oA
  have hc22 : (convert 22 22 (.slice (some ⟨w.heap.size, 0, none⟩) 2 2)).run Try.prog (w.alloc (.cells #[.int .u8 97, .int .u8 98] 5)) = .ok (.slice (some ⟨w.heap.size, 0, none⟩) 2 2) (w.alloc (.cells #[.int .u8 97, .int .u8 98] 5 (2, 3))) :=
    Lib.run_convert_bytes_const w 22 5 #[.int .u8 97, .int .u8 98] 2 2 Try.underlying22 Try.underlying5
  go_enter Try.func13, Try.ntmps13
  go_wp2_with fail
  refine (unhide HP).mono ?_
  rintro e w1 ⟨v1, rfl, h1, o1⟩
  have HU := hide (unpad_any v1 _ w1 (Has.ofOwns h1) (by rw [padT_length]; simp))
  rw [unpadE_pad, unpadU_pad] at HU
  have O1 := hide ((unhide OA).trans o1 (fun _ _ e => e))
  clear h1 o1
  go_wp2_with fail
  refine (unhide HU).mono ?_
  rintro e w2 ⟨v2, rfl, h2, o2⟩
  have O2 := hide ((unhide O1).trans o2 (fun _ _ e => e))
  have hcv := str_conv h2
  have HP2 := hide (pad_any (.slice none 0 0) [] w2 (Or.inl ⟨rfl, rfl⟩) (by simp))
  have hse : (str [97, 98] : ByteArray) = { data := #[97, 98] } := rfl
  rw [hse] at hcv
  clear h2 o2
  go_wp2_with fail
  refine (unhide HP2).mono ?_
  rintro e w3 ⟨v3, rfl, h3, o3⟩
  obtain ⟨va, vc, hvs, _⟩ := (Has.ofOwns h3).shape
  subst hvs
  have hl16 : (padT []).length = 16 := by rw [padT_length]; rfl
  rw [hl16]
  have O3 := hide ((unhide O2).trans o3 (fun _ _ e => e))
  clear h3 o3 hl16
  go_wp2
  go_ret
  exact ⟨rfl, unhide O3⟩

end Md
end Go.Proofs.Ytbhidmeobeecmaa
