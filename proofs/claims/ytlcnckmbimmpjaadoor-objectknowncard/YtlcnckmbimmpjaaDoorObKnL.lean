/-
  locksmithlaw10.ObjectKnown.
-/
import Derived.Test.YtlcnckmbimmpjaaDoorObKnow
import Derived.Test.YtlcnckmbimmpjaaDoorHandPick
namespace Go.Proofs.YtlcnckmbimmpjaaDoor
open Go.RowKit
set_option linter.unusedSimpArgs false
set_option linter.unusedVariables false
namespace Ob

theorem zero_layE : layE zero = 1 := by unfold layE; rw [show rightB zero = false from by decide +kernel]; rfl
theorem nil_readE : readE [] = 5 := by unfold readE; rw [show fits [] = false from by decide +kernel]; rfl
def z121 : List UInt8 := List.replicate 121 0
theorem z121_len : z121.length = 121 := by decide

set_option maxRecDepth 100000 in
set_option maxHeartbeats 4000000 in
theorem known_law (w : World) (hT : Tabs w) :
    Calls Tryd.prog 3 #[] w fun e w' => e = .returned (.bool true) ∧ Only (fun _ => False) w w' := by
  have HLA : Hid (Calls Tryd.prog 8 #[.agg Zo.toArray] w fun e w' => ∃ u, e = .returned (.tuple #[u, .int .i64 1]) ∧ Only (fun _ => False) w w') := by
    have h := lay_any (in_zero w) hT
    rw [zero_layE] at h
    exact h.mono fun e w' ⟨u, h1, _, h2⟩ => ⟨u, h1, h2⟩
  have HRE : Hid (∀ W, Only (fun _ => False) w W → Calls Tryd.prog 9 #[.slice none 0 0] W fun e w' => ∃ A : List Value, e = .returned (.tuple #[.agg A.toArray, .int .i64 5]) ∧ A.length = 37 ∧ A.toArray.all (·.oneCell') = true ∧ Only (fun _ => False) W w') := fun W o => by
    have h := read_any [] (.slice none 0 0) W (Or.inl ⟨rfl, rfl⟩) (by decide) (hT.same o)
    rw [nil_readE] at h
    refine h.mono fun e w' ⟨mv, nv, lv, cv, h1, hin, _, h2⟩ => ⟨_, h1, cells_len _ mv nv lv cv hin.ten, ?_, h2⟩
    obtain ⟨_, _, e1, _⟩ := hin.mat.shape
    obtain ⟨_, _, e2, _⟩ := hin.names.shape
    obtain ⟨_, _, e3, _⟩ := hin.links.shape
    obtain ⟨_, _, e4, _⟩ := hin.custom.shape
    apply all_oneCell_toArray
    exact cells_one _ _ _ _ _ (by rw [e1]; rfl) (by rw [e2]; rfl) (by rw [e3]; rfl) (by rw [e4]; rfl)
  have HK := hide (fun W (o : Only (fun _ => False) w W) => known_any W (hT.same o))
  have T1 : Hid (∀ W, Only (fun _ => False) w W → Calls Tryd.prog 11 #[.string ⟨#[97]⟩] W fun e w' => e = .returned (.bool true) ∧ Only (fun _ => False) W w') := fun W o => by
    have h := text_any [97] W (by unfold maxLen; decide) (hT.same o)
    rw [show isText [97] = true from by decide +kernel] at h; exact h
  have T2 : Hid (∀ W, Only (fun _ => False) w W → Calls Tryd.prog 11 #[.string ⟨#[]⟩] W fun e w' => e = .returned (.bool false) ∧ Only (fun _ => False) W w') := fun W o => by
    have h := text_any [] W (by unfold maxLen; decide) (hT.same o)
    rw [show isText [] = false from by decide +kernel] at h; exact h
  have T3 : Hid (∀ W, Only (fun _ => False) w W → Calls Tryd.prog 11 #[.string ⟨#[255]⟩] W fun e w' => e = .returned (.bool false) ∧ Only (fun _ => False) W w') := fun W o => by
    have h := text_any [255] W (by unfold maxLen; decide) (hT.same o)
    rw [show isText [255] = false from by decide +kernel] at h; exact h
  have C1 : Hid (∀ W, Only (fun _ => False) w W → Calls Tryd.prog 12 #[.string ⟨#[120, 45]⟩] W fun e w' => e = .returned (.bool true) ∧ Only (fun _ => False) W w') := fun W o => by
    have h := cust_any [120, 45] W (by unfold maxLen; decide) (hT.same o)
    rw [show isCust [120, 45] = true from by decide +kernel] at h; exact h
  have C2 : Hid (∀ W, Only (fun _ => False) w W → Calls Tryd.prog 12 #[.string ⟨#[120, 45, 97]⟩] W fun e w' => e = .returned (.bool true) ∧ Only (fun _ => False) W w') := fun W o => by
    have h := cust_any [120, 45, 97] W (by unfold maxLen; decide) (hT.same o)
    rw [show isCust [120, 45, 97] = true from by decide +kernel] at h; exact h
  have C3 : Hid (∀ W, Only (fun _ => False) w W → Calls Tryd.prog 12 #[.string ⟨#[121, 45, 97]⟩] W fun e w' => e = .returned (.bool false) ∧ Only (fun _ => False) W w') := fun W o => by
    have h := cust_any [121, 45, 97] W (by unfold maxLen; decide) (hT.same o)
    rw [show isCust [121, 45, 97] = false from by decide +kernel] at h; exact h
  have TZ : Hid (∀ W, Only (fun _ => False) w W → Calls Tryd.prog 11 #[.string (str z121)] W fun e w' => e = .returned (.bool false) ∧ Only (fun _ => False) W w') := fun W o => by
    have h := text_any z121 W (by rw [z121_len]; unfold maxLen; decide) (hT.same o)
    rw [show isText z121 = false from by decide +kernel] at h; exact h
  clear hT
  -- the 121 bytes
  have HMK : Hid (∀ W, Only (fun _ => False) w W → ∃ W' v, (Instr.makeSlice 22 (.int .i64 121) (.int .i64 121)).run Tryd.prog W = .ok v W' ∧ v = .slice (some ⟨W.heap.size, 0, none⟩) 121 121 ∧ (convert 22 9 v).run Tryd.prog W' = .ok (.string (str z121)) W' ∧ Only (fun _ => False) w W') := fun W o => by
    obtain ⟨i0, hi0, hz0, hz1, hz2⟩ := info_parts Tryd.info5
    have h := run_make (P := Tryd.prog) W 22 5 i0 (.int .u8 0) Tryd.underlying22 hi0 hz0 .i64 .i64 121 121 (by decide) (by decide) (by rw [hz2]; decide) (by decide)
    simp only [hz1] at h
    have hmc : madeCells (Value.int IntKind.u8 0).cells (Int.toNat 121 * 1) = (z121.map bv).toArray := by kernel_rfl
    rw [hmc] at h
    exact ⟨_, _, h, rfl, str_conv (has_lit (bs := z121) (heap_alloc_last W _) (by unfold maxLen; decide)), o.alloc _⟩
  generalize str z121 = SZ at *
  go_enter Tryd.func3, Tryd.ntmps3
  go_upto_region 2 with (refine (unhide HLA).mono ?_; rintro e x1 ⟨u, rfl, o1⟩; have O1 := hide o1; clear o1)
  clear HLA
  go_wp2_with fail
  refine (unhide HRE _ (unhide O1)).mono ?_
  rintro e x2 ⟨A, rfl, hA, hone, o2⟩
  have O2 := hide ((unhide O1).trans o2 (fun _ _ e => e))
  obtain ⟨x3, k3, e3, ek3, _, o3, ht3⟩ := made37 x2 A hA
  have HSZ : Hid ((Tryd.prog.info? 35).map (·.size) = some A.toArray.size) := by show _ = _; rw [List.size_toArray, hA]; exact Tryd.sizeObj
  have HONE := hide hone
  have HTH : Hid ((x2.alloc (.cells Zo.toArray 35)).there x2.heap.size 0 A.toArray.size) := ht3
  have HE3 : Hid (x3 = (x2.alloc (.cells Zo.toArray 35)).setCells k3 0 A) := by show _ = _; rw [ek3, e3, List.toList_toArray]
  have HEK3 := hide ek3
  have O3 := hide ((unhide O2).trans o3 (fun _ _ e => e))
  clear hA hone o2 e3 ek3 o3 ht3 HRE
  go_upto_region 3 with (refine wpList_store_mid rfl 35 (.tmp 3) (.tmp 12) rfl x2.heap.size 0 A.toArray rfl rfl (unhide HTH) (unhide HSZ) (unhide HONE) ?_)
  rw [zo_eq, ← unhide HEK3, ← unhide HE3]
  clear HE3 HEK3 HTH HSZ HONE
  go_wp2_with (first
    | (refine (unhide HK _ (unhide O3)).mono ?_; rintro e y1 ⟨rfl, q⟩; have P1 := hide ((unhide O3).trans q (fun _ _ e => e)); clear q HK)
    | (refine (unhide T1 _ (unhide P1)).mono ?_; rintro e y2 ⟨rfl, q⟩; have P2 := hide ((unhide P1).trans q (fun _ _ e => e)); clear q T1)
    | (refine (unhide T2 _ (unhide P2)).mono ?_; rintro e y3 ⟨rfl, q⟩; have P3 := hide ((unhide P2).trans q (fun _ _ e => e)); clear q T2)
    | (refine (unhide T3 _ (unhide P3)).mono ?_; rintro e y4 ⟨rfl, q⟩; have P4 := hide ((unhide P3).trans q (fun _ _ e => e)); clear q T3)
    | (refine (unhide C1 _ (unhide P4)).mono ?_; rintro e y5 ⟨rfl, q⟩; have P5 := hide ((unhide P4).trans q (fun _ _ e => e)); clear q C1)
    | (refine (unhide C2 _ (unhide P5)).mono ?_; rintro e y6 ⟨rfl, q⟩; have P6 := hide ((unhide P5).trans q (fun _ _ e => e)); clear q C2)
    | (refine (unhide C3 _ (unhide P6)).mono ?_; rintro e y7 ⟨rfl, q⟩; have P7 := hide ((unhide P6).trans q (fun _ _ e => e)); obtain ⟨y8, v8, hmk, hv8, hcv, o8⟩ := unhide HMK _ (unhide P7); subst hv8; have P8 := hide o8; clear q C3 o8 HMK)
    | (refine (unhide TZ _ (unhide P8)).mono ?_; rintro e y9 ⟨rfl, q⟩; have P9 := hide ((unhide P8).trans q (fun _ _ e => e)); clear q TZ))
  go_ret
  exact ⟨rfl, unhide P9⟩
end Ob
end Go.Proofs.YtlcnckmbimmpjaaDoor
