/-
  locksmithlaw3's known and DiskKnown, walked.
-/
import Derived.Test.YtjhcmhdekppplaaDkAt
namespace Go.Proofs.Ytjhcmhdekppplaa
open Go.RowKit
set_option linter.unusedSimpArgs false
set_option linter.unusedVariables false

def kn0 : Dk := Dk.new 8
def kn1 : Dk := kn0.write 1 (S64 5)
def kn2 : Dk := kn1.crash [2]
def kn3 : Dk := kn2.fused 1
def kn4 : Dk := kn3.write 1 (S64 6)
def kn5 : Dk := kn4.flush
theorem kn_facts : kn0.writeE 1 (S64 5) = 0 ∧ kn2.readE 1 = 8 ∧ kn3.writeE 1 (S64 6) = 0 ∧ kn4.flushE = 9 ∧ kn5.down = true ∧ kn1.works = 1 ∧ kn2.works = 1 ∧ kn3.works = 1 ∧ kn4.works = 2 := by
  refine ⟨?_, ?_, ?_, ?_, ?_, ?_, ?_, ?_, ?_⟩ <;> kernel_rfl

set_option maxHeartbeats 1000000 in
theorem known_any (w : World) : Calls Try.prog 9 #[] w fun e w' => e = .returned (.bool true) ∧ Only (fun _ => False) w w' := by
  obtain ⟨k1, k2, k3, k4, k5, k6, k7, k8, k9⟩ := kn_facts
  have K1 := hide k1
  have K2 := hide k2
  have K3 := hide k3
  have K4 := hide k4
  have K5 := hide k5
  have K6 := hide k6
  have K7 := hide k7
  have K8 := hide k8
  have K9 := hide k9
  clear k1 k2 k3 k4 k5 k6 k7 k8 k9
  go_enter Try.func9, Try.ntmps9
  go_wp2_with fail
  refine (dks_new 8 (by decide) (by decide) w w (Only.refl _ _)).mono ?_
  rintro e w1 ⟨B, F1, rfl, h1, _, _⟩
  have H1 := hide h1
  clear h1
  go_wp2_with fail
  refine (sector_any 5 w1 (by decide) (by decide)).mono ?_
  rintro e w2 ⟨v2, rfl, hv2, hf2, ho2⟩
  have H2 := hide ((unhide H1).same ho2)
  have hx2 := (unhide H1).fresh hf2
  go_wp2_with fail
  refine (dks_write (unhide H2) (by decide) 1 v2 _ hv2 hx2).mono ?_
  rintro e w3 ⟨rfl, F3, h3⟩
  rw [show (Dk.new 8).writeE 1 (S64 5) = 0 from unhide K1]
  have H3 : Hid (Dks w w3 F3 B kn1) := hide h3.dk
  clear h3 hv2 hx2 hf2
  go_wp2_with fail
  refine (dks_crash ((unhide H3).same ((Only.refl _ _).alloc _)) (by rw [unhide K6]; decide) _ [2] (hasV_lit (vs := [.int .i64 2]) (heap_alloc_new _ _) (by simp [maxLen])) ((unhide H3).fresh (fun j hj => by cases hj; exact Nat.le_refl _))).mono ?_
  rintro e w4 ⟨rfl, F4, h4⟩
  have H4 : Hid (Dks w w4 F4 B kn2) := hide h4.dk
  clear h4
  go_wp2_with fail
  refine (dks_read (unhide H4) (by rw [unhide K7]; decide) 1).mono ?_
  rintro e w5 ⟨v5, rfl, _, ho5⟩
  rw [unhide K2]
  have H5 := hide ((unhide H4).same ho5)
  clear ho5
  go_wp2_with fail
  refine (dks_fuse (unhide H5) 1 (by decide) (by decide)).mono ?_
  rintro e w6 ⟨rfl, F6, h6⟩
  have H6 : Hid (Dks w w6 F6 B kn3) := hide h6.dk
  clear h6
  go_wp2_with fail
  refine (sector_any 6 w6 (by decide) (by decide)).mono ?_
  rintro e w7 ⟨v7, rfl, hv7, hf7, ho7⟩
  have H7 := hide ((unhide H6).same ho7)
  have hx7 := (unhide H6).fresh hf7
  go_wp2_with fail
  refine (dks_write (unhide H7) (by rw [unhide K8]; decide) 1 v7 _ hv7 hx7).mono ?_
  rintro e w8 ⟨rfl, F8, h8⟩
  rw [unhide K3]
  have H8 : Hid (Dks w w8 F8 B kn4) := hide h8.dk
  clear h8 hv7 hx7 hf7 ho7
  go_wp2_with fail
  refine (dks_flush (unhide H8) (by rw [unhide K9]; decide)).mono ?_
  rintro e w9 ⟨rfl, F9, h9⟩
  rw [unhide K4]
  have H9 : Hid (Dks w w9 F9 B kn5) := hide h9.dk
  clear h9
  go_wp2_with fail
  refine (dks_down (unhide H9)).mono ?_
  rintro e w10 ⟨rfl, rfl⟩
  rw [unhide K5]
  go_wp2_with fail
  go_ret
  exact ⟨rfl, (unhide H9).only⟩

end Go.Proofs.Ytjhcmhdekppplaa
