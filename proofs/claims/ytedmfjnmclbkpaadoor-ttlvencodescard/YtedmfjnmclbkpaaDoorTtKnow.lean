/-
  Chapter 6's example.
-/
import Derived.Test.YtedmfjnmclbkpaaDoorTtDec
import Derived.Test.YtedmfjnmclbkpaaDoorStr
namespace Go.Proofs.YtedmfjnmclbkpaaDoor
open Go.RowKit
set_option linter.unusedSimpArgs false
set_option linter.unusedVariables false
namespace Tt

def it0 : It := .mk 4325408 2 8 [] []
theorem it0_right : rightB it0 = true := by decide
theorem it0_lay : it0.lay = [66, 0, 32, 2, 0, 0, 0, 4, 0, 0, 0, 8, 0, 0, 0, 0] := by
  unfold it0
  rw [It.lay, if_neg (by decide), if_neg (by decide), if_pos (by decide), lenOf, if_neg (by decide), if_neg (by decide), if_pos (by decide)]
  have e : toU64 8 = 8 := by rw [toU64_eq]; rfl
  rw [e]
  decide
theorem it0_small (m : Nat) : it0.small m := by
  unfold it0
  rw [It.small]
  exact ⟨by unfold W64; omega, by unfold W64; omega, by unfold W64; omega, Nat.zero_le _, trivial⟩
theorem it0_size : it0.size = 16 := by unfold it0; rw [It.size, if_neg (by decide), if_neg (by decide)]

set_option maxHeartbeats 2000000 in
set_option maxRecDepth 100000 in
theorem known_any (w : World) (hT : Tabs w) : Calls Tryd.prog 12 #[] w fun e w' => e = .returned (.bool true) ∧ Only (fun _ => False) w w' := by
  have HE := hide (Encode_any (Q := fun _ => False) 1 it0 (.slice none 0 0) (.slice none 0 0) w (itAt_nil _ _ _ _ _ _) hT (by decide) (by rw [it0_size]; decide) (it0_small _))
  have HDec := hide (fun (v : Value) (W : World) (hx : Has W v it0.lay) (o : Only (fun _ => False) w W) => Decode_any v it0.lay W hx (hT.same o) (by rw [lay_length, it0_size]; decide))
  rw [dAll_lay it0 it0_right (it0_small _)] at HDec
  clear hT
  go_enter Tryd.func12, Tryd.ntmps12
  go_wp2_with fail
  refine (unhide HE).mono ?_
  rintro e w2 ⟨he, o2⟩
  unfold EncAs at he
  rw [it0_right, if_pos rfl] at he
  obtain ⟨v2, rfl, hv2, hk2⟩ := he
  obtain ⟨va, vc, hvs, _⟩ := hv2.shape
  have HC := hide (unhide HDec v2 w2 hv2 o2)
  have HO2 := hide o2
  have HV2 := hide hv2
  subst hvs
  clear hv2 hk2 o2 HDec HE
  go_wp2_with fail
  refine (unhide HC).mono ?_
  rintro e w3 ⟨he3, o3⟩
  obtain ⟨dv, kv, rfl, hit⟩ := he3
  have HO3 := hide ((unhide HO2).trans o3 (fun _ _ e => e))
  obtain ⟨⟨da, dc, hds⟩, ka, kc, hks⟩ := hit.shapes
  simp only [it0, It.data, It.kids, List.length_nil] at hds hks
  subst hds
  subst hks
  obtain ⟨⟨x0, x1, x2, x3, x4⟩, oI⟩ := boxed w3 (.int .i64 4325408) (.int .i64 2) (.int .i64 8) (.slice da 0 dc) (.slice ka 0 kc)
  have hcv := str_conv (((unhide HV2).only o3 (fun _ _ _ e => e)).only oI (fun _ _ _ e => e))
  have hs : (str it0.lay).toList = [66, 0, 32, 2, 0, 0, 0, 4, 0, 0, 0, 8, 0, 0, 0, 0] := by rw [str_toList, it0_lay]
  generalize str it0.lay = S at *
  have HO4 := hide ((unhide HO3).trans oI (fun _ _ e => e))
  clear hit o3 oI HC HV2 HO3
  generalize it0.lay.length = ll at *
  simp only [ival, it0, It.tag, It.typ, It.int]
  go_upto_region 3 with fail
  generalize w3.alloc (.cells #[.int .i64 4325408, .int .i64 2, .int .i64 8, .slice da 0 dc, .slice ka 0 kc] 25) = w4 at *
  go_wp2
  go_ret
  exact ⟨rfl, unhide HO4⟩
end Tt
end Go.Proofs.YtedmfjnmclbkpaaDoor
