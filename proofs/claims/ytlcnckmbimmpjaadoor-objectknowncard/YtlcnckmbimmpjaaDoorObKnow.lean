/-
  locksmithlaw10.known.
-/
import Derived.Test.YtlcnckmbimmpjaaDoorObSame
namespace Go.Proofs.YtlcnckmbimmpjaaDoor
open Go.RowKit
set_option linter.unusedSimpArgs false
set_option linter.unusedVariables false
namespace Ob

/-- the example's object -/
def knO : Ob := { zero with id := [49], typ := 2, mat := [107], state := 2 }
theorem knO_right : rightB knO = true := by decide +kernel
theorem knO_read : fits (lay knO) = true ∧ read (lay knO) = knO := fits_lay knO rfl knO_right
theorem knO_len : (lay knO).length ≤ 140737488355328 := by have := lay_len (small_of (o := knO) rfl knO_right); omega

theorem in_knO {w : World} {mv : Value} (h : Has w mv [107]) : In w knO mv (.slice none 0 0) (.slice none 0 0) (.slice none 0 0) := by
  have z : W64 0 := ⟨by decide, by decide⟩
  have t : W64 2 := ⟨by decide, by decide⟩
  refine ⟨h, hasF_nil _ _ _, hasF_nil _ _ _, hasF_nil _ _ _, rfl, ⟨t, z, z, z, t, z, z, z, z⟩, fun d hd => ?_, (fun k hk => by cases hk), ⟨by unfold maxLen; decide, Nat.zero_le _, (fun s hs => by cases hs), (fun s hs => by cases hs), (fun s hs => by cases hs)⟩⟩
  have : d = (false, 0) := List.eq_of_mem_replicate hd
  rw [this]; exact z

theorem knO_agg (b : Nat) : (Value.agg (cells knO (.slice (some ⟨b, 0, none⟩) 1 1) (.slice none 0 0) (.slice none 0 0) (.slice none 0 0)).toArray) = Value.agg (List.toArray (Value.string ⟨#[49]⟩ :: Value.int IntKind.i64 2 :: Value.int IntKind.i64 0 :: Value.int IntKind.i64 0 :: Value.int IntKind.i64 0 :: Value.slice (some ⟨b, 0, none⟩) 1 1 :: Value.int IntKind.i64 2 :: Value.bool false :: Value.int IntKind.i64 0 :: Value.bool false :: Value.int IntKind.i64 0 :: Value.bool false :: Value.int IntKind.i64 0 :: Value.bool false :: Value.int IntKind.i64 0 :: Value.bool false :: Value.int IntKind.i64 0 :: Value.bool false :: Value.int IntKind.i64 0 :: Value.bool false :: Value.int IntKind.i64 0 :: Value.bool false :: Value.int IntKind.i64 0 :: Value.bool false :: Value.int IntKind.i64 0 :: Value.bool false :: Value.int IntKind.i64 0 :: Value.int IntKind.i64 0 :: Value.string ⟨#[]⟩ :: Value.slice none 0 0 :: Value.slice none 0 0 :: Value.slice none 0 0 :: Value.bool false :: Value.int IntKind.i64 0 :: Value.int IntKind.i64 0 :: Value.int IntKind.i64 0 :: Value.bool false :: [])) := rfl
theorem same_self (o : Ob) : sameB o o = true := by unfold sameB; simp
theorem str_one : str [49] = ⟨#[49]⟩ := rfl

set_option maxRecDepth 100000 in
set_option maxHeartbeats 4000000 in
theorem known_any (w : World) (hT : Tabs w) :
    Calls Tryd.prog 10 #[] w fun e w' => e = .returned (.bool true) ∧ Only (fun _ => False) w w' := by
  obtain ⟨w1, k1, e1, ek1, hh, o1⟩ : ∃ w1 k1, w1 = w.alloc (.cells #[.int .u8 107] 5 (1, 2)) ∧ k1 = w.heap.size ∧ Has w1 (.slice (some ⟨k1, 0, none⟩) 1 1) [107] ∧ Only (fun _ => False) w w1 :=
    ⟨_, _, rfl, rfl, has_lit (bs := [107]) (heap_alloc_last w _) (by unfold maxLen; decide), (Only.refl _ w).alloc _⟩
  have hin := in_knO hh
  obtain ⟨A, hA⟩ : ∃ A, A = cells knO (.slice (some ⟨k1, 0, none⟩) 1 1) (.slice none 0 0) (.slice none 0 0) (.slice none 0 0) := ⟨_, rfl⟩
  have hoc : A.length = 37 := by rw [hA]; rfl
  obtain ⟨w2, k2, e2, ek2, hb2, o2, ht2⟩ := made37 w1 A hoc
  have kc := fun (w : World) (C : Array Value) (n c : Nat) => Lib.run_convert_bytes_const (P := Tryd.prog) w 22 5 C n c Tryd.underlying22 Tryd.underlying5
  have O2 := hide (o1.trans o2 (fun _ _ e => e))
  have hone : A.toArray.all (·.oneCell') = true := by
    apply all_oneCell_toArray
    rw [hA]
    exact cells_one _ _ _ _ _ rfl rfl rfl rfl
  have HA := hide hA
  have HAG := knO_agg k1
  rw [← hA] at HAG
  have HONE := hide hone
  have HT2 : Hid ((w1.alloc (.cells Zo.toArray 35)).there k2 0 A.toArray.size) := by rw [ek2]; exact ht2
  have HIN2 := hide (hin.same o2)
  have HB2 := hide hb2
  have HLE := hide hoc
  have HSZ : Hid ((Tryd.prog.info? 35).map (·.size) = some A.toArray.size) := by show _ = _; rw [List.size_toArray, hoc]; exact Tryd.sizeObj
  have HSZ2 : Hid ((Tryd.prog.info? 35).map (·.size) = some A.length) := by show _ = _; rw [hoc]; exact Tryd.sizeObj
  obtain ⟨dsc, hdu, hdr⟩ := row_desc Tryd.rowObj
  have hr2 := hb2.range 0 37
  rw [List.drop_zero, List.take_of_length_le (by omega)] at hr2
  have HT := hide (hT.same (unhide O2))
  have HLA := hide (lay_any (hin.same o2) (unhide HT))
  unfold val at HLA
  rw [← hA, show layU knO = lay knO from by unfold layU; rw [knO_right]; rfl, show layE knO = 0 from by unfold layE; rw [knO_right]; rfl] at HLA
  have HKE1 := hide e1
  have HKEK1 := hide ek1
  have HKE2 : Hid (w2 = (w1.alloc (.cells Zo.toArray 35)).setCells k2 0 A) := by show _ = _; rw [ek2, e2, List.toList_toArray]
  have HKEK2 := hide ek2
  have HAGH := hide HAG
  have HK12 : Hid (k2 = k1 + 1) := by show _ = _; rw [ek2, e1, ek1]; simp
  clear hA hoc hb2 o1 o2 hin hh ht2 hone hT e1 ek1 e2 ek2 HAG
  go_enter Tryd.func10, Tryd.ntmps10
  go_upto_region 2 with (first
    | (rw [← unhide HKEK1, ← unhide HKE1, ← unhide HAGH, ← unhide HK12]; refine wpList_store_mid rfl 35 (.tmp 1) (.tmp 8) rfl k2 0 A.toArray rfl rfl (unhide HT2) (unhide HSZ) (unhide HONE) ?_))
  rw [zo_eq, ← unhide HKE2]
  clear HKE1 HKEK1 HKE2 HKEK2 HAGH HK12 HT2 kc
  go_wp2_with (refine wpList_load_mid rfl 35 (.tmp 1) rfl k2 0 rfl A dsc hr2 hdu hdr (unhide HSZ2) ?_)
  refine (unhide HLA).mono ?_
  rintro e x3 ⟨u, rfl, hu, o3⟩
  have hu3 : Has x3 u (lay knO) := Has.ofOwns hu
  have O3 := hide ((unhide O2).trans o3 (fun _ _ e => e))
  have HB3 := hide ((unhide HB2).same o3)
  have HIN3 := hide ((unhide HIN2).same o3)
  have HT3 := hide ((unhide HT).same o3)
  have HRE := hide (read_any (lay knO) u x3 hu3 knO_len (unhide HT3))
  rw [knO_read.2, show readE (lay knO) = 0 from by unfold readE; rw [knO_read.1]; rfl] at HRE
  clear hu hu3 o3 hr2 HLA HB2 HIN2
  go_wp2_with fail
  refine (unhide HRE).mono ?_
  rintro e x4 ⟨mv, nv, lv, cv, rfl, hin4, hfr4, o4⟩
  obtain ⟨A4, hA4⟩ : ∃ A, A = cells knO mv nv lv cv := ⟨_, rfl⟩
  unfold val
  rw [← hA4]
  have hoc4 : A4.length = 37 := by rw [hA4]; exact cells_len knO mv nv lv cv rfl
  obtain ⟨x5, k5, e5, ek5, hb5, o5, ht5⟩ := made37 x4 A4 hoc4
  have hone4 : A4.toArray.all (·.oneCell') = true := by
    obtain ⟨_, _, e1, _⟩ := hin4.mat.shape
    obtain ⟨_, _, e2, _⟩ := hin4.names.shape
    obtain ⟨_, _, e3, _⟩ := hin4.links.shape
    obtain ⟨_, _, e4, _⟩ := hin4.custom.shape
    apply all_oneCell_toArray
    rw [hA4]
    exact cells_one _ _ _ _ _ (by rw [e1]; rfl) (by rw [e2]; rfl) (by rw [e3]; rfl) (by rw [e4]; rfl)
  have HSZ4 : Hid ((Tryd.prog.info? 35).map (·.size) = some A4.toArray.size) := by show _ = _; rw [List.size_toArray, hoc4]; exact Tryd.sizeObj
  have HSZ42 : Hid ((Tryd.prog.info? 35).map (·.size) = some A4.length) := by show _ = _; rw [hoc4]; exact Tryd.sizeObj
  have HONE4 := hide hone4
  have HT5 := hide ht5
  have O5 := hide (((unhide O3).trans o4 (fun _ _ e => e)).trans o5 (fun _ _ e => e))
  have HS := hide (same_any (a := knO) (b := knO) (((unhide HIN3).same o4).same o5) (hin4.same o5))
  rw [same_self] at HS
  unfold val at HS
  rw [← unhide HA, ← hA4] at HS
  have hr5 := hb5.range 0 37
  rw [List.drop_zero, List.take_of_length_le (by omega)] at hr5
  have hr3 := (((unhide HB3).same o4).same o5).range 0 37
  rw [List.drop_zero, List.take_of_length_le (by rw [unhide HLE]; omega)] at hr3
  have c0 : x5.cell? ⟨k5, 0, none⟩ = some (.string ⟨#[49]⟩) := hb5.cell 0 _ (by rw [hA4]; exact cells_front knO mv nv lv cv 0 (by decide))
  have c6 : x5.cell? ⟨k5, 6, none⟩ = some (.int .i64 2) := hb5.cell 6 _ (by rw [hA4]; exact cells_front knO mv nv lv cv 6 (by decide))
  have HE5 : Hid (x5 = (x4.alloc (.cells Zo.toArray 35)).setCells k5 0 A4) := by show _ = _; rw [ek5, e5, List.toList_toArray]
  have HEK5 := hide ek5
  have HT5 : Hid ((x4.alloc (.cells Zo.toArray 35)).there x4.heap.size 0 A4.toArray.size) := ht5
  clear hin4 hfr4 o4 o5 hoc4 hA4 hb5 e5 ek5 ht5 hone4 HRE
  go_upto_region 4 with (refine wpList_store_mid rfl 35 (.tmp 4) (.tmp 17) rfl x4.heap.size 0 A4.toArray rfl rfl (unhide HT5) (unhide HSZ4) (unhide HONE4) ?_)
  rw [zo_eq, ← unhide HEK5, ← unhide HE5]
  clear HEK5 HE5 HT5
  go_wp2_with (first
    | (refine wpList_load_g (by rfl) 35 (.tmp 1) rfl k2 0 rfl A dsc hr3 hdu hdr (unhide HSZ2) ?_)
    | (refine wpList_load_g (by rfl) 35 (.tmp 4) rfl k5 0 rfl A4 dsc hr5 hdu hdr (unhide HSZ42) ?_)
    | (refine (unhide HS).mono ?_; rintro e x6 ⟨rfl, o6⟩; have d0 := o6.cell c0 (fun e => e); have d6 := o6.cell c6 (fun e => e); have O6 := hide ((unhide O5).trans o6 (fun _ _ e => e)); clear o6))
  go_ret
  exact ⟨rfl, unhide O6⟩
end Ob
end Go.Proofs.YtlcnckmbimmpjaaDoor
