/-
  The laws of chapter 2: known, CrcKnown, CrcSums, CrcParts, CrcTurns.
-/
import Derived.Test.YtghcdfdcphmkcaaCrcR
import Derived.Test.YtghcdfdcphmkcaaHand
import Derived.Test.YtghcdfdcphmkcaaHandBytes
namespace Go.Proofs.Ytghcdfdcphmkcaa
open Go.RowKit
set_option linter.unusedSimpArgs false
set_option linter.unusedVariables false
namespace Crc

theorem sum_nine : more 0 [49, 50, 51, 52, 53, 54, 55, 56, 57] = 3421780262 := by decide +kernel
theorem sum_zero : more 0 [0] = 3523407757 := by decide +kernel

theorem known_any (w : World) : Calls Try.prog 7 #[] w fun e w' => e = .returned (.bool true) ∧ Only (fun _ => False) w w' := by
  have kc := fun (w : World) (C : Array Value) (n c : Nat) => Lib.run_convert_bytes_const (P := Try.prog) w 25 5 C n c Try.underlying25 Try.underlying5
  go_enter Try.func7, Try.ntmps7
  go_wp2_with fail
  refine (sum_any _ [49, 50, 51, 52, 53, 54, 55, 56, 57] _ (has_lit (heap_alloc_new _ _) (by simp [maxLen]))).mono ?_
  rintro e w1 ⟨rfl, rfl⟩
  rw [sum_nine]
  go_wp2_with fail
  refine (sum_any _ [] _ (Or.inl ⟨rfl, rfl⟩)).mono ?_
  rintro e w1 ⟨rfl, rfl⟩
  rw [more_nil]
  go_wp2
  go_ret
  exact ⟨rfl, (Only.refl _ _).alloc _⟩

theorem crcKnown_any (w : World) : Calls Try.prog 3 #[] w fun e w' => e = .returned (.bool true) ∧ Only (fun _ => False) w w' := by
  have kc := fun (w : World) (C : Array Value) (n c : Nat) => Lib.run_convert_bytes_const (P := Try.prog) w 25 5 C n c Try.underlying25 Try.underlying5
  go_enter Try.func3, Try.ntmps3
  go_wp2_with fail
  refine (known_any w).mono ?_
  rintro e w1 ⟨rfl, o1⟩
  go_wp2_with fail
  refine (more_any 0 _ [49, 50, 51, 52, 53, 54, 55, 56, 57] _ (by omega) (has_lit (heap_alloc_new _ _) (by simp [maxLen]))).mono ?_
  rintro e w2 ⟨rfl, hw⟩
  have o2 : Only (fun _ => False) w w2 := by rw [hw]; exact o1.alloc _
  clear hw
  rw [sum_nine]
  go_wp2_with fail
  refine (sum_any _ [0] _ (has_lit (heap_alloc_new _ _) (by simp [maxLen]))).mono ?_
  rintro e w3 ⟨rfl, rfl⟩
  rw [sum_zero]
  go_wp2
  go_ret
  exact ⟨rfl, o2.alloc _⟩

/-- the sums of bytes that are read -/
theorem sums_no (xv : Value) (bs : List UInt8) (n : Int) (s : Nat) (w : World) (hs : s < 4294967296) (h : Has w xv bs) (h3 : (n.tmod 3 == 0) = false) :
    Calls Try.prog 4 #[xv, .int .i64 n, .int .u32 s] w fun e w' => e = .returned (.bool true) ∧ Only (fun _ => False) w w' := by
  have H := hide h
  clear h
  go_enter Try.func4, Try.ntmps4
  go_wp2_with fail
  refine (known_any _).mono ?_
  rintro e w1 ⟨rfl, o1⟩
  have H1 := hide ((unhide H).only o1 (fun _ _ _ h => h))
  clear H
  go_wp2_with fail
  refine (sum_any _ bs _ (unhide H1)).mono ?_
  rintro e w2 ⟨rfl, rfl⟩
  go_wp2_with fail
  refine (rsum_any _ bs _ (unhide H1)).mono ?_
  rintro e w2 ⟨rfl, rfl⟩
  generalize more 0 bs = q
  go_wp2_with fail
  refine (more_any s _ bs _ hs (unhide H1)).mono ?_
  rintro e w2 ⟨rfl, rfl⟩
  go_wp2_with fail
  refine (rmore_any s _ bs _ hs (unhide H1)).mono ?_
  rintro e w2 ⟨rfl, rfl⟩
  generalize more s bs = q
  go_wp2
  go_ret
  exact ⟨rfl, o1⟩

theorem sums_yes (xv : Value) (n : Int) (s : Nat) (w : World) (hs : s < 4294967296) (h3 : (n.tmod 3 == 0) = true) (hn1 : -9223372036854775808 ≤ n) (hn2 : n ≤ 9223372036854775807) :
    Calls Try.prog 4 #[xv, .int .i64 n, .int .u32 s] w fun e w' => e = .returned (.bool true) ∧ Only (fun _ => False) w w' := by
  go_enter Try.func4, Try.ntmps4
  go_wp2_with fail
  refine (pick_any n 300 _ (by omega) (by omega)).mono ?_
  rintro e w0 ⟨rfl, rfl⟩
  obtain ⟨m, hm, hm2⟩ : ∃ m : Nat, n % 300 = (m : Int) ∧ m ≤ 1000000 := ⟨(n % 300).toNat, by omega, by omega⟩
  rw [hm]
  clear hm
  go_wp2_with fail
  refine (handBytes_any m n _ hm2 hn1 hn2).mono ?_
  rintro e w0' ⟨bv0, rfl, hmd⟩
  have H := hide (Has.ofOwns hmd.own)
  have o0 := hmd.only
  clear hmd
  generalize rawBytes m n = bs at *
  go_wp2_with fail
  refine (known_any _).mono ?_
  rintro e w1 ⟨rfl, o1⟩
  have H1 := hide ((unhide H).only o1 (fun _ _ _ h => h))
  clear H
  go_wp2_with fail
  refine (sum_any _ bs _ (unhide H1)).mono ?_
  rintro e w2 ⟨rfl, rfl⟩
  go_wp2_with fail
  refine (rsum_any _ bs _ (unhide H1)).mono ?_
  rintro e w2 ⟨rfl, rfl⟩
  generalize more 0 bs = q
  go_wp2_with fail
  refine (more_any s _ bs _ hs (unhide H1)).mono ?_
  rintro e w2 ⟨rfl, rfl⟩
  go_wp2_with fail
  refine (rmore_any s _ bs _ hs (unhide H1)).mono ?_
  rintro e w2 ⟨rfl, rfl⟩
  generalize more s bs = q
  go_wp2
  go_ret
  exact ⟨rfl, o0.trans o1 (fun _ _ h => h)⟩

end Crc
end Go.Proofs.Ytghcdfdcphmkcaa
