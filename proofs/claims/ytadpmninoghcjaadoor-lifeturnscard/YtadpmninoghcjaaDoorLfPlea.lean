/-
  life's plea: what refuses a call.
-/
import Derived.Test.YtadpmninoghcjaaDoorLfMove
import Derived.Test.YtadpmninoghcjaaDoorLfVar
namespace Go.Proofs.YtadpmninoghcjaaDoor
open Go.RowKit
set_option linter.unusedSimpArgs false
set_option linter.unusedVariables false
namespace Ob

/-- a plea's cells behind the object's -/
def ptail (r : Int) (msg : List UInt8) (oc : Bool × Int) (now : Int) : List Value := [.int .i64 r, .string (str msg), .bool oc.1, .int .i64 oc.2, .int .i64 now]
def pcells (o : Ob) (mv nv lv cv : Value) (r : Int) (msg : List UInt8) (oc : Bool × Int) (now : Int) : List Value := cells o mv nv lv cv ++ ptail r msg oc now
section
variable (o : Ob) (mv nv lv cv : Value) (r : Int) (msg : List UInt8) (oc : Bool × Int) (now : Int) (hd : o.dates.length = 10)
include hd
theorem pcells_len : (pcells o mv nv lv cv r msg oc now).length = 42 := by
  unfold pcells
  rw [List.length_append, cells_len o mv nv lv cv hd]
  rfl
theorem pcells_at (i : Nat) (hi : i < 37) : (pcells o mv nv lv cv r msg oc now)[i]? = (cells o mv nv lv cv)[i]? := by
  unfold pcells
  rw [List.getElem?_append_left (by rw [cells_len o mv nv lv cv hd]; exact hi)]
theorem pcells_tail (i : Nat) : (pcells o mv nv lv cv r msg oc now)[37 + i]? = (ptail r msg oc now)[i]? := by
  unfold pcells
  rw [List.getElem?_append_right (by rw [cells_len o mv nv lv cv hd]; omega), cells_len o mv nv lv cv hd]
  congr 1
  omega
theorem pcell_state : (pcells o mv nv lv cv r msg oc now)[6]? = some (.int .i64 o.state) := (pcells_at o mv nv lv cv r msg oc now hd 6 (by decide)).trans (cell_state o mv nv lv cv)
theorem pcell_arch : (pcells o mv nv lv cv r msg oc now)[36]? = some (.bool o.arch) := (pcells_at o mv nv lv cv r msg oc now hd 36 (by decide)).trans (cells_back o mv nv lv cv hd 9)
end

theorem Tryd.rowPlea : (Tryd.prog.underlying 56).map (·.isRow) = some true := by kernel_rfl
theorem Tryd.sizePlea : (Tryd.prog.info? 56).map (·.size) = some 42 := by kernel_rfl

section
variable (o : Ob) (mv nv lv cv : Value) (r : Int) (msg : List UInt8) (oc : Bool × Int) (now : Int) (w : World) (hd : o.dates.length = 10)
include hd
set_option maxRecDepth 100000 in
set_option maxHeartbeats 4000000 in
theorem isArchived_any : Calls Tryd.prog 42 #[.agg (pcells o mv nv lv cv r msg oc now).toArray] w fun e w' => e = .returned (.bool o.arch) ∧ Only (fun _ => False) w w' := by
  obtain ⟨w1, k1, e1, ek1, hb1, o1, hs1⟩ := boxed w (pcells o mv nv lv cv r msg oc now).toArray 56
  rw [List.toList_toArray] at hb1
  have c6 := hb1.cell 6 _ (pcell_state o mv nv lv cv r msg oc now hd)
  have c36 := hb1.cell 36 _ (pcell_arch o mv nv lv cv r msg oc now hd)
  have c37 := hb1.cell 37 (.int .i64 r) (pcells_tail o mv nv lv cv r msg oc now hd 0)
  have O1 := hide o1
  have HE1 := hide e1
  have HEK1 := hide ek1
  have HB := hide hb1
  have HLN := hide (pcells_len o mv nv lv cv r msg oc now hd)
  clear c6 c37
  generalize o.arch = B at *
  obtain ⟨A, hA⟩ : ∃ A, A = pcells o mv nv lv cv r msg oc now := ⟨_, rfl⟩
  rw [← hA] at HE1 HB HLN ⊢
  clear hA hb1 o1 e1 ek1 hs1
  go_enter Tryd.func42, Tryd.ntmps42
  go_upto_region 1 with fail
  rw [← unhide HEK1, ← unhide HE1]
  clear HE1 HEK1
  go_wp2
  go_ret
  exact ⟨rfl, unhide O1⟩
set_option maxRecDepth 100000 in
set_option maxHeartbeats 4000000 in
theorem isNotArchived_any : Calls Tryd.prog 51 #[.agg (pcells o mv nv lv cv r msg oc now).toArray] w fun e w' => e = .returned (.bool (!o.arch)) ∧ Only (fun _ => False) w w' := by
  obtain ⟨w1, k1, e1, ek1, hb1, o1, hs1⟩ := boxed w (pcells o mv nv lv cv r msg oc now).toArray 56
  rw [List.toList_toArray] at hb1
  have c6 := hb1.cell 6 _ (pcell_state o mv nv lv cv r msg oc now hd)
  have c36 := hb1.cell 36 _ (pcell_arch o mv nv lv cv r msg oc now hd)
  have c37 := hb1.cell 37 (.int .i64 r) (pcells_tail o mv nv lv cv r msg oc now hd 0)
  have O1 := hide o1
  have HE1 := hide e1
  have HEK1 := hide ek1
  have HB := hide hb1
  have HLN := hide (pcells_len o mv nv lv cv r msg oc now hd)
  clear c6 c37
  generalize o.arch = B at *
  obtain ⟨A, hA⟩ : ∃ A, A = pcells o mv nv lv cv r msg oc now := ⟨_, rfl⟩
  rw [← hA] at HE1 HB HLN ⊢
  clear hA hb1 o1 e1 ek1 hs1
  go_enter Tryd.func51, Tryd.ntmps51
  go_upto_region 1 with fail
  rw [← unhide HEK1, ← unhide HE1]
  clear HE1 HEK1
  cases B
  all_goals
    go_wp2
    go_ret
    exact ⟨rfl, unhide O1⟩
set_option maxRecDepth 100000 in
set_option maxHeartbeats 4000000 in
theorem mayNotActivate_any : Calls Tryd.prog 43 #[.agg (pcells o mv nv lv cv r msg oc now).toArray] w fun e w' => e = .returned (.bool (!edgeB o.state 2)) ∧ Only (fun _ => False) w w' := by
  obtain ⟨w1, k1, e1, ek1, hb1, o1, hs1⟩ := boxed w (pcells o mv nv lv cv r msg oc now).toArray 56
  rw [List.toList_toArray] at hb1
  have c6 := hb1.cell 6 _ (pcell_state o mv nv lv cv r msg oc now hd)
  have c36 := hb1.cell 36 _ (pcell_arch o mv nv lv cv r msg oc now hd)
  have c37 := hb1.cell 37 (.int .i64 r) (pcells_tail o mv nv lv cv r msg oc now hd 0)
  have O1 := hide o1
  have HE1 := hide e1
  have HEK1 := hide ek1
  have HB := hide hb1
  have HLN := hide (pcells_len o mv nv lv cv r msg oc now hd)
  clear c36 c37
  have HE := hide (edge_any o.state 2 w1)
  generalize edgeB o.state 2 = B at *
  generalize o.state = S at *
  obtain ⟨A, hA⟩ : ∃ A, A = pcells o mv nv lv cv r msg oc now := ⟨_, rfl⟩
  rw [← hA] at HE1 HB HLN ⊢
  clear hA hb1 o1 e1 ek1 hs1
  go_enter Tryd.func43, Tryd.ntmps43
  go_upto_region 1 with fail
  rw [← unhide HEK1, ← unhide HE1]
  clear HE1 HEK1
  go_wp2_with fail
  refine (unhide HE).mono ?_
  rintro e x ⟨rfl, hx⟩
  rw [hx]
  clear hx x
  cases B
  all_goals
    go_wp2
    go_ret
    exact ⟨rfl, unhide O1⟩
set_option maxRecDepth 100000 in
set_option maxHeartbeats 4000000 in
theorem whenRevoked_any : Calls Tryd.prog 54 #[.agg (pcells o mv nv lv cv r msg oc now).toArray] w fun e w' => e = .returned (.int .i64 (whenR o r)) ∧ Only (fun _ => False) w w' := by
  obtain ⟨w1, k1, e1, ek1, hb1, o1, hs1⟩ := boxed w (pcells o mv nv lv cv r msg oc now).toArray 56
  rw [List.toList_toArray] at hb1
  have c6 := hb1.cell 6 _ (pcell_state o mv nv lv cv r msg oc now hd)
  have c36 := hb1.cell 36 _ (pcell_arch o mv nv lv cv r msg oc now hd)
  have c37 := hb1.cell 37 (.int .i64 r) (pcells_tail o mv nv lv cv r msg oc now hd 0)
  have O1 := hide o1
  have HE1 := hide e1
  have HEK1 := hide ek1
  have HB := hide hb1
  have HLN := hide (pcells_len o mv nv lv cv r msg oc now hd)
  clear c36
  have HW : Hid (whenR o r = if r = 2 then (if o.state = 5 then 6 else 4) else 3) := rfl
  generalize o.state = S at *
  obtain ⟨A, hA⟩ : ∃ A, A = pcells o mv nv lv cv r msg oc now := ⟨_, rfl⟩
  rw [← hA] at HE1 HB HLN ⊢
  clear hA hb1 o1 e1 ek1 hs1
  go_enter Tryd.func54, Tryd.ntmps54
  go_upto_region 1 with fail
  rw [← unhide HEK1, ← unhide HE1]
  clear HE1 HEK1
  by_cases hr : r = 2
  · rw [hr] at c37
    by_cases hs : S = 5
    · rw [hs] at c6
      have HV : Hid (whenR o r = 6) := by show _ = _; rw [unhide HW, if_pos hr, if_pos hs]
      clear hr hs
      go_wp2
      go_ret
      exact ⟨by rw [unhide HV]; rfl, unhide O1⟩
    · have HV : Hid (whenR o r = 4) := by show _ = _; rw [unhide HW, if_pos hr, if_neg hs]
      clear hr
      go_wp2
      go_ret
      exact ⟨by rw [unhide HV]; rfl, unhide O1⟩
  · have HV : Hid (whenR o r = 3) := by show _ = _; rw [unhide HW, if_neg hr]
    go_wp2
    go_ret
    exact ⟨by rw [unhide HV]; rfl, unhide O1⟩
set_option maxRecDepth 100000 in
set_option maxHeartbeats 4000000 in
theorem whenDestroyed_any : Calls Tryd.prog 55 #[.agg (pcells o mv nv lv cv r msg oc now).toArray] w fun e w' => e = .returned (.int .i64 (whenD o)) ∧ Only (fun _ => False) w w' := by
  obtain ⟨w1, k1, e1, ek1, hb1, o1, hs1⟩ := boxed w (pcells o mv nv lv cv r msg oc now).toArray 56
  rw [List.toList_toArray] at hb1
  have c6 := hb1.cell 6 _ (pcell_state o mv nv lv cv r msg oc now hd)
  have c36 := hb1.cell 36 _ (pcell_arch o mv nv lv cv r msg oc now hd)
  have c37 := hb1.cell 37 (.int .i64 r) (pcells_tail o mv nv lv cv r msg oc now hd 0)
  have O1 := hide o1
  have HE1 := hide e1
  have HEK1 := hide ek1
  have HB := hide hb1
  have HLN := hide (pcells_len o mv nv lv cv r msg oc now hd)
  clear c36 c37
  have HW : Hid (whenD o = if o.state = 4 then 6 else 5) := rfl
  generalize o.state = S at *
  obtain ⟨A, hA⟩ : ∃ A, A = pcells o mv nv lv cv r msg oc now := ⟨_, rfl⟩
  rw [← hA] at HE1 HB HLN ⊢
  clear hA hb1 o1 e1 ek1 hs1
  go_enter Tryd.func55, Tryd.ntmps55
  go_upto_region 1 with fail
  rw [← unhide HEK1, ← unhide HE1]
  clear HE1 HEK1
  by_cases hs : S = 4
  · rw [hs] at c6
    have HV : Hid (whenD o = 6) := by show _ = _; rw [unhide HW, if_pos hs]
    clear hs
    go_wp2
    go_ret
    exact ⟨by rw [unhide HV]; rfl, unhide O1⟩
  · have HV : Hid (whenD o = 5) := by show _ = _; rw [unhide HW, if_neg hs]
    go_wp2
    go_ret
    exact ⟨by rw [unhide HV]; rfl, unhide O1⟩
set_option maxRecDepth 100000 in
set_option maxHeartbeats 4000000 in
theorem mayNotRevoke_any : Calls Tryd.prog 46 #[.agg (pcells o mv nv lv cv r msg oc now).toArray] w fun e w' => e = .returned (.bool (!edgeB o.state (whenR o r))) ∧ Only (fun _ => False) w w' := by
  obtain ⟨w1, k1, e1, ek1, hb1, o1, hs1⟩ := boxed w (pcells o mv nv lv cv r msg oc now).toArray 56
  rw [List.toList_toArray] at hb1
  have c6 := hb1.cell 6 _ (pcell_state o mv nv lv cv r msg oc now hd)
  have c36 := hb1.cell 36 _ (pcell_arch o mv nv lv cv r msg oc now hd)
  have c37 := hb1.cell 37 (.int .i64 r) (pcells_tail o mv nv lv cv r msg oc now hd 0)
  have O1 := hide o1
  have HE1 := hide e1
  have HEK1 := hide ek1
  have HB := hide hb1
  have HLN := hide (pcells_len o mv nv lv cv r msg oc now hd)
  clear c36 c37
  have HWH := hide (fun w' => whenRevoked_any o mv nv lv cv r msg oc now w' hd)
  have HE := hide (fun w' => edge_any o.state (whenR o r) w')
  generalize edgeB o.state (whenR o r) = B at *
  generalize (whenR o r) = V at *
  generalize o.state = S at *
  have R1 := hide (show w1.rangeAt k1 0 (pcells o mv nv lv cv r msg oc now) by
    have hr := hb1.range 0 42
    rwa [List.drop_zero, List.take_of_length_le (by rw [unhide HLN]; omega)] at hr)
  have HSZ : Hid ((Tryd.prog.info? 56).map (·.size) = some (pcells o mv nv lv cv r msg oc now).length) := by show _ = _; rw [unhide HLN]; exact Tryd.sizePlea
  obtain ⟨dsc, hdu, hdr⟩ := row_desc Tryd.rowPlea
  have C6 := hide c6
  clear c6
  obtain ⟨A, hA⟩ : ∃ A, A = pcells o mv nv lv cv r msg oc now := ⟨_, rfl⟩
  rw [← hA] at HE1 HB HLN R1 HSZ HWH ⊢
  clear hA hb1 o1 e1 ek1 hs1
  go_enter Tryd.func46, Tryd.ntmps46
  go_upto_region 1 with fail
  rw [← unhide HEK1, ← unhide HE1]
  clear HE1 HEK1
  have Q := hide ((Only.refl (fun _ => False) w1).drew)
  refine wp_region_held_drew (S := (fun w' => Only (fun _ => False) w1 w')) (by kernel_rfl) ((Only.refl _ _).drew) (fun hHeld => ?_)
  refine wpAnyH_take (i := 0) (v := ?v1) rfl (by kernel_rfl) (by kernel_rfl) (by kernel_rfl) (fun _ _ _ h => h) (Or.inl ⟨by rfl, ?hy1⟩) (by assumption) ?rest1
  case hy1 =>
    intro w hSw
    go_simp
    try with_reducible rfl
  try simp only [Act.put, List.setIfInBounds_toArray, List.set_cons_zero, List.set_cons_succ, List.getElem_toArray, List.getElem_cons_succ, List.getElem_cons_zero]
  refine wpAnyH_take (i := 1) (v := ?v2) rfl (by kernel_rfl) (by kernel_rfl) (by kernel_rfl) (fun _ _ _ h => h) (Or.inl ⟨by rfl, ?hy2⟩) (by assumption) ?rest2
  case hy2 =>
    intro w hSw
    go_simp
    try with_reducible rfl
  try simp only [Act.put, List.setIfInBounds_toArray, List.set_cons_zero, List.set_cons_succ, List.getElem_toArray, List.getElem_cons_succ, List.getElem_cons_zero]
  refine wpAnyH_take (i := 2) (v := ?v3) rfl (by kernel_rfl) (by kernel_rfl) (by kernel_rfl) (fun _ _ _ h => h) (Or.inl ⟨by rfl, ?hy3⟩) (by assumption) ?rest3
  case hy3 =>
    intro w hSw
    (have q := hSw.cell (unhide C6) (fun e => e); go_simp; try with_reducible rfl)
  try simp only [Act.put, List.setIfInBounds_toArray, List.set_cons_zero, List.set_cons_succ, List.getElem_toArray, List.getElem_cons_succ, List.getElem_cons_zero]
  refine wpAnyH_take (i := 3) (v := ?v4) rfl (by kernel_rfl) (by kernel_rfl) (by kernel_rfl) (fun _ _ _ h => h) (Or.inl ⟨by rfl, ?hy4⟩) (by assumption) ?rest4
  case hy4 =>
    intro w hSw
    (refine exec_load_mid 56 (.tmp 1) ?_ k1 0 ?_ A dsc (rangeAt_only (unhide R1) hSw (fun e => e)) hdu hdr (unhide HSZ) <;> rfl)
  try simp only [Act.put, List.setIfInBounds_toArray, List.set_cons_zero, List.set_cons_succ, List.getElem_toArray, List.getElem_cons_succ, List.getElem_cons_zero]
  refine wpAnyH_ready (rs := [4]) (by kernel_rfl) (by simp) ?_
  refine AllReadyH.cons rfl (fun K hK => ?_) AllReadyH.nil
  go_simp
  go_wp2_with fail; refine (unhide HWH _).mono ?_; rintro e w2 ⟨rfl, o2⟩; have Q2 := hide ((unhide Q).trans o2 (fun _ _ e => e)); clear o2
  refine hK.out _ _ ((unhide Q2)) (fun hHeld => ?_)
  clear hK K
  try simp only [Act.put, List.setIfInBounds_toArray, List.set_cons_zero, List.set_cons_succ, List.getElem_toArray, List.getElem_cons_succ, List.getElem_cons_zero]
  refine wpAnyH_ready (rs := [5]) (by kernel_rfl) (by simp) ?_
  refine AllReadyH.cons rfl (fun K hK => ?_) AllReadyH.nil
  go_simp
  go_wp2_with fail; refine (unhide HE _).mono ?_; rintro e wx ⟨rfl, hwx⟩; rw [hwx]; clear hwx wx
  refine hK.out _ _ ((unhide Q2)) (fun hHeld => ?_)
  clear hK K
  try simp only [Act.put, List.setIfInBounds_toArray, List.set_cons_zero, List.set_cons_succ, List.getElem_toArray, List.getElem_cons_succ, List.getElem_cons_zero]
  refine wpAnyH_take (i := 6) (v := ?v5) rfl (by kernel_rfl) (by kernel_rfl) (by kernel_rfl) (fun _ _ _ h => h) (Or.inl ⟨by rfl, ?hy5⟩) (by assumption) ?rest5
  case hy5 =>
    intro w hSw
    (go_simp; try with_reducible rfl)
  try simp only [Act.put, List.setIfInBounds_toArray, List.set_cons_zero, List.set_cons_succ, List.getElem_toArray, List.getElem_cons_succ, List.getElem_cons_zero]
  refine wpAnyH_take (i := 7) (v := ?v6) rfl (by kernel_rfl) (by kernel_rfl) (by kernel_rfl) (fun _ _ _ h => h) (Or.inl ⟨by rfl, ?hy6⟩) (by assumption) ?rest6
  case hy6 =>
    intro w hSw
    go_simp
    try with_reducible rfl
  try simp only [Act.put, List.setIfInBounds_toArray, List.set_cons_zero, List.set_cons_succ, List.getElem_toArray, List.getElem_cons_succ, List.getElem_cons_zero]
  refine wpAnyH_done (by kernel_rfl) ?_ _
  go_wp2
  go_ret
  exact ⟨rfl, (unhide O1).trans (unhide Q2) (fun _ _ e => e)⟩
set_option maxRecDepth 100000 in
set_option maxHeartbeats 4000000 in
theorem mayNotDestroy_any : Calls Tryd.prog 48 #[.agg (pcells o mv nv lv cv r msg oc now).toArray] w fun e w' => e = .returned (.bool (!edgeB o.state (whenD o))) ∧ Only (fun _ => False) w w' := by
  obtain ⟨w1, k1, e1, ek1, hb1, o1, hs1⟩ := boxed w (pcells o mv nv lv cv r msg oc now).toArray 56
  rw [List.toList_toArray] at hb1
  have c6 := hb1.cell 6 _ (pcell_state o mv nv lv cv r msg oc now hd)
  have c36 := hb1.cell 36 _ (pcell_arch o mv nv lv cv r msg oc now hd)
  have c37 := hb1.cell 37 (.int .i64 r) (pcells_tail o mv nv lv cv r msg oc now hd 0)
  have O1 := hide o1
  have HE1 := hide e1
  have HEK1 := hide ek1
  have HB := hide hb1
  have HLN := hide (pcells_len o mv nv lv cv r msg oc now hd)
  clear c36 c37
  have HWH := hide (fun w' => whenDestroyed_any o mv nv lv cv r msg oc now w' hd)
  have HE := hide (fun w' => edge_any o.state (whenD o) w')
  generalize edgeB o.state (whenD o) = B at *
  generalize (whenD o) = V at *
  generalize o.state = S at *
  have R1 := hide (show w1.rangeAt k1 0 (pcells o mv nv lv cv r msg oc now) by
    have hr := hb1.range 0 42
    rwa [List.drop_zero, List.take_of_length_le (by rw [unhide HLN]; omega)] at hr)
  have HSZ : Hid ((Tryd.prog.info? 56).map (·.size) = some (pcells o mv nv lv cv r msg oc now).length) := by show _ = _; rw [unhide HLN]; exact Tryd.sizePlea
  obtain ⟨dsc, hdu, hdr⟩ := row_desc Tryd.rowPlea
  have C6 := hide c6
  clear c6
  obtain ⟨A, hA⟩ : ∃ A, A = pcells o mv nv lv cv r msg oc now := ⟨_, rfl⟩
  rw [← hA] at HE1 HB HLN R1 HSZ HWH ⊢
  clear hA hb1 o1 e1 ek1 hs1
  go_enter Tryd.func48, Tryd.ntmps48
  go_upto_region 1 with fail
  rw [← unhide HEK1, ← unhide HE1]
  clear HE1 HEK1
  have Q := hide ((Only.refl (fun _ => False) w1).drew)
  refine wp_region_held_drew (S := (fun w' => Only (fun _ => False) w1 w')) (by kernel_rfl) ((Only.refl _ _).drew) (fun hHeld => ?_)
  refine wpAnyH_take (i := 0) (v := ?v7) rfl (by kernel_rfl) (by kernel_rfl) (by kernel_rfl) (fun _ _ _ h => h) (Or.inl ⟨by rfl, ?hy7⟩) (by assumption) ?rest7
  case hy7 =>
    intro w hSw
    go_simp
    try with_reducible rfl
  try simp only [Act.put, List.setIfInBounds_toArray, List.set_cons_zero, List.set_cons_succ, List.getElem_toArray, List.getElem_cons_succ, List.getElem_cons_zero]
  refine wpAnyH_take (i := 1) (v := ?v8) rfl (by kernel_rfl) (by kernel_rfl) (by kernel_rfl) (fun _ _ _ h => h) (Or.inl ⟨by rfl, ?hy8⟩) (by assumption) ?rest8
  case hy8 =>
    intro w hSw
    go_simp
    try with_reducible rfl
  try simp only [Act.put, List.setIfInBounds_toArray, List.set_cons_zero, List.set_cons_succ, List.getElem_toArray, List.getElem_cons_succ, List.getElem_cons_zero]
  refine wpAnyH_take (i := 2) (v := ?v9) rfl (by kernel_rfl) (by kernel_rfl) (by kernel_rfl) (fun _ _ _ h => h) (Or.inl ⟨by rfl, ?hy9⟩) (by assumption) ?rest9
  case hy9 =>
    intro w hSw
    (have q := hSw.cell (unhide C6) (fun e => e); go_simp; try with_reducible rfl)
  try simp only [Act.put, List.setIfInBounds_toArray, List.set_cons_zero, List.set_cons_succ, List.getElem_toArray, List.getElem_cons_succ, List.getElem_cons_zero]
  refine wpAnyH_take (i := 3) (v := ?v10) rfl (by kernel_rfl) (by kernel_rfl) (by kernel_rfl) (fun _ _ _ h => h) (Or.inl ⟨by rfl, ?hy10⟩) (by assumption) ?rest10
  case hy10 =>
    intro w hSw
    (refine exec_load_mid 56 (.tmp 1) ?_ k1 0 ?_ A dsc (rangeAt_only (unhide R1) hSw (fun e => e)) hdu hdr (unhide HSZ) <;> rfl)
  try simp only [Act.put, List.setIfInBounds_toArray, List.set_cons_zero, List.set_cons_succ, List.getElem_toArray, List.getElem_cons_succ, List.getElem_cons_zero]
  refine wpAnyH_ready (rs := [4]) (by kernel_rfl) (by simp) ?_
  refine AllReadyH.cons rfl (fun K hK => ?_) AllReadyH.nil
  go_simp
  go_wp2_with fail; refine (unhide HWH _).mono ?_; rintro e w2 ⟨rfl, o2⟩; have Q2 := hide ((unhide Q).trans o2 (fun _ _ e => e)); clear o2
  refine hK.out _ _ ((unhide Q2)) (fun hHeld => ?_)
  clear hK K
  try simp only [Act.put, List.setIfInBounds_toArray, List.set_cons_zero, List.set_cons_succ, List.getElem_toArray, List.getElem_cons_succ, List.getElem_cons_zero]
  refine wpAnyH_ready (rs := [5]) (by kernel_rfl) (by simp) ?_
  refine AllReadyH.cons rfl (fun K hK => ?_) AllReadyH.nil
  go_simp
  go_wp2_with fail; refine (unhide HE _).mono ?_; rintro e wx ⟨rfl, hwx⟩; rw [hwx]; clear hwx wx
  refine hK.out _ _ ((unhide Q2)) (fun hHeld => ?_)
  clear hK K
  try simp only [Act.put, List.setIfInBounds_toArray, List.set_cons_zero, List.set_cons_succ, List.getElem_toArray, List.getElem_cons_succ, List.getElem_cons_zero]
  refine wpAnyH_take (i := 6) (v := ?v11) rfl (by kernel_rfl) (by kernel_rfl) (by kernel_rfl) (fun _ _ _ h => h) (Or.inl ⟨by rfl, ?hy11⟩) (by assumption) ?rest11
  case hy11 =>
    intro w hSw
    (go_simp; try with_reducible rfl)
  try simp only [Act.put, List.setIfInBounds_toArray, List.set_cons_zero, List.set_cons_succ, List.getElem_toArray, List.getElem_cons_succ, List.getElem_cons_zero]
  refine wpAnyH_take (i := 7) (v := ?v12) rfl (by kernel_rfl) (by kernel_rfl) (by kernel_rfl) (fun _ _ _ h => h) (Or.inl ⟨by rfl, ?hy12⟩) (by assumption) ?rest12
  case hy12 =>
    intro w hSw
    go_simp
    try with_reducible rfl
  try simp only [Act.put, List.setIfInBounds_toArray, List.set_cons_zero, List.set_cons_succ, List.getElem_toArray, List.getElem_cons_succ, List.getElem_cons_zero]
  refine wpAnyH_done (by kernel_rfl) ?_ _
  go_wp2
  go_ret
  exact ⟨rfl, (unhide O1).trans (unhide Q2) (fun _ _ e => e)⟩

end
end Ob
end Go.Proofs.YtadpmninoghcjaaDoor
