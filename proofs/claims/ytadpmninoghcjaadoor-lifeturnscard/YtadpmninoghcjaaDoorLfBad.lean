/-
  life's plea: is it no revocation?
-/
import Derived.Test.YtadpmninoghcjaaDoorLfRev
import Derived.Test.YtadpmninoghcjaaDoorObR1
namespace Go.Proofs.YtadpmninoghcjaaDoor
open Go.RowKit
set_option linter.unusedSimpArgs false
set_option linter.unusedVariables false
namespace Ob
theorem str_some {s : List UInt8} (h : s ≠ []) : ¬ (str s).toList = [] := by
  rw [str_toList]
  exact h
theorem str_some2 {s : List UInt8} (h : s ≠ []) : (str s).toList.isEmpty = false := by
  rw [str_toList]
  simp [h]
set_option maxRecDepth 100000 in
set_option maxHeartbeats 8000000 in
theorem bad_lo (o : Ob) (mv nv lv cv : Value) (r : Int) (msg : List UInt8) (oh : Bool) (oa : Int) (now : Int) (w : World) (hd : o.dates.length = 10) (hr : r < 1) :
    Calls Tryd.prog 45 #[.agg (pcells o mv nv lv cv r msg (oh, oa) now).toArray] w fun e w' => e = .returned (.bool true) ∧ Only (fun _ => False) w w' := by
  obtain ⟨w1, k1, e1, ek1, hb1, o1, hs1⟩ := boxed w (pcells o mv nv lv cv r msg (oh, oa) now).toArray 56
  rw [List.toList_toArray] at hb1
  have c37 := hb1.cell 37 (.int .i64 r) (pcells_tail o mv nv lv cv r msg (oh, oa) now hd 0)
  have c38 := hb1.cell 38 (.string (str msg)) (pcells_tail o mv nv lv cv r msg (oh, oa) now hd 1)
  have c39 := hb1.cell 39 (.bool oh) (pcells_tail o mv nv lv cv r msg (oh, oa) now hd 2)
  have c40 := hb1.cell 40 (.int .i64 oa) (pcells_tail o mv nv lv cv r msg (oh, oa) now hd 3)
  have c41 := hb1.cell 41 (.int .i64 now) (pcells_tail o mv nv lv cv r msg (oh, oa) now hd 4)
  have O1 := hide o1
  have HE1 := hide e1
  have HEK1 := hide ek1
  obtain ⟨A, hA⟩ : ∃ A, A = pcells o mv nv lv cv r msg (oh, oa) now := ⟨_, rfl⟩
  rw [← hA] at HE1 ⊢
  clear hA hb1 o1 e1 ek1 hs1 hd
  clear c38 c39 c40 c41
  go_enter Tryd.func45, Tryd.ntmps45
  go_upto_region 1 with fail
  rw [← unhide HEK1, ← unhide HE1]
  clear HE1 HEK1
  go_wp2_with fail
  go_ret
  refine ⟨?_, unhide O1⟩
  first
    | rfl
    | (show Ending.returned (Value.bool (decide (now < oa))) = _; rw [show decide (now < oa) = false from decide_eq_false (by omega)])
    | (show Ending.returned (Value.bool (decide (now < oa))) = _; rw [show decide (now < oa) = true from decide_eq_true (by omega)])
set_option maxRecDepth 100000 in
set_option maxHeartbeats 8000000 in
theorem bad_hi (o : Ob) (mv nv lv cv : Value) (r : Int) (msg : List UInt8) (oh : Bool) (oa : Int) (now : Int) (w : World) (hd : o.dates.length = 10) (hr0 : ¬ r < 1) (hr : 7 < r) :
    Calls Tryd.prog 45 #[.agg (pcells o mv nv lv cv r msg (oh, oa) now).toArray] w fun e w' => e = .returned (.bool true) ∧ Only (fun _ => False) w w' := by
  obtain ⟨w1, k1, e1, ek1, hb1, o1, hs1⟩ := boxed w (pcells o mv nv lv cv r msg (oh, oa) now).toArray 56
  rw [List.toList_toArray] at hb1
  have c37 := hb1.cell 37 (.int .i64 r) (pcells_tail o mv nv lv cv r msg (oh, oa) now hd 0)
  have c38 := hb1.cell 38 (.string (str msg)) (pcells_tail o mv nv lv cv r msg (oh, oa) now hd 1)
  have c39 := hb1.cell 39 (.bool oh) (pcells_tail o mv nv lv cv r msg (oh, oa) now hd 2)
  have c40 := hb1.cell 40 (.int .i64 oa) (pcells_tail o mv nv lv cv r msg (oh, oa) now hd 3)
  have c41 := hb1.cell 41 (.int .i64 now) (pcells_tail o mv nv lv cv r msg (oh, oa) now hd 4)
  have O1 := hide o1
  have HE1 := hide e1
  have HEK1 := hide ek1
  obtain ⟨A, hA⟩ : ∃ A, A = pcells o mv nv lv cv r msg (oh, oa) now := ⟨_, rfl⟩
  rw [← hA] at HE1 ⊢
  clear hA hb1 o1 e1 ek1 hs1 hd
  clear c38 c39 c40 c41
  go_enter Tryd.func45, Tryd.ntmps45
  go_upto_region 1 with fail
  rw [← unhide HEK1, ← unhide HE1]
  clear HE1 HEK1
  go_wp2_with fail
  go_ret
  refine ⟨?_, unhide O1⟩
  first
    | rfl
    | (show Ending.returned (Value.bool (decide (now < oa))) = _; rw [show decide (now < oa) = false from decide_eq_false (by omega)])
    | (show Ending.returned (Value.bool (decide (now < oa))) = _; rw [show decide (now < oa) = true from decide_eq_true (by omega)])
set_option maxRecDepth 100000 in
set_option maxHeartbeats 8000000 in
theorem bade_t1 (o : Ob) (mv nv lv cv : Value) (r : Int) (msg : List UInt8) (oh : Bool) (oa : Int) (now : Int) (w : World) (hd : o.dates.length = 10) (hr0 : ¬ r < 1) (hr : ¬ 7 < r) (hm : msg = []) (ho : oh = true) (hc : now < oa) :
    Calls Tryd.prog 45 #[.agg (pcells o mv nv lv cv r msg (oh, oa) now).toArray] w fun e w' => e = .returned (.bool true) ∧ Only (fun _ => False) w w' := by
  obtain ⟨w1, k1, e1, ek1, hb1, o1, hs1⟩ := boxed w (pcells o mv nv lv cv r msg (oh, oa) now).toArray 56
  rw [List.toList_toArray] at hb1
  have c37 := hb1.cell 37 (.int .i64 r) (pcells_tail o mv nv lv cv r msg (oh, oa) now hd 0)
  have c38 := hb1.cell 38 (.string (str msg)) (pcells_tail o mv nv lv cv r msg (oh, oa) now hd 1)
  have c39 := hb1.cell 39 (.bool oh) (pcells_tail o mv nv lv cv r msg (oh, oa) now hd 2)
  have c40 := hb1.cell 40 (.int .i64 oa) (pcells_tail o mv nv lv cv r msg (oh, oa) now hd 3)
  have c41 := hb1.cell 41 (.int .i64 now) (pcells_tail o mv nv lv cv r msg (oh, oa) now hd 4)
  have O1 := hide o1
  have HE1 := hide e1
  have HEK1 := hide ek1
  obtain ⟨A, hA⟩ : ∃ A, A = pcells o mv nv lv cv r msg (oh, oa) now := ⟨_, rfl⟩
  rw [← hA] at HE1 ⊢
  clear hA hb1 o1 e1 ek1 hs1 hd
  rw [hm, show str [] = ⟨#[]⟩ from rfl] at c38
  clear hm
  rw [ho] at c39
  clear ho
  go_enter Tryd.func45, Tryd.ntmps45
  go_upto_region 1 with fail
  rw [← unhide HEK1, ← unhide HE1]
  clear HE1 HEK1
  go_wp2_with fail
  go_ret
  refine ⟨?_, unhide O1⟩
  first
    | rfl
    | (show Ending.returned (Value.bool (decide (now < oa))) = _; rw [show decide (now < oa) = false from decide_eq_false (by omega)])
    | (show Ending.returned (Value.bool (decide (now < oa))) = _; rw [show decide (now < oa) = true from decide_eq_true (by omega)])
set_option maxRecDepth 100000 in
set_option maxHeartbeats 8000000 in
theorem bade_t0 (o : Ob) (mv nv lv cv : Value) (r : Int) (msg : List UInt8) (oh : Bool) (oa : Int) (now : Int) (w : World) (hd : o.dates.length = 10) (hr0 : ¬ r < 1) (hr : ¬ 7 < r) (hm : msg = []) (ho : oh = true) (hc : ¬ now < oa) :
    Calls Tryd.prog 45 #[.agg (pcells o mv nv lv cv r msg (oh, oa) now).toArray] w fun e w' => e = .returned (.bool false) ∧ Only (fun _ => False) w w' := by
  obtain ⟨w1, k1, e1, ek1, hb1, o1, hs1⟩ := boxed w (pcells o mv nv lv cv r msg (oh, oa) now).toArray 56
  rw [List.toList_toArray] at hb1
  have c37 := hb1.cell 37 (.int .i64 r) (pcells_tail o mv nv lv cv r msg (oh, oa) now hd 0)
  have c38 := hb1.cell 38 (.string (str msg)) (pcells_tail o mv nv lv cv r msg (oh, oa) now hd 1)
  have c39 := hb1.cell 39 (.bool oh) (pcells_tail o mv nv lv cv r msg (oh, oa) now hd 2)
  have c40 := hb1.cell 40 (.int .i64 oa) (pcells_tail o mv nv lv cv r msg (oh, oa) now hd 3)
  have c41 := hb1.cell 41 (.int .i64 now) (pcells_tail o mv nv lv cv r msg (oh, oa) now hd 4)
  have O1 := hide o1
  have HE1 := hide e1
  have HEK1 := hide ek1
  obtain ⟨A, hA⟩ : ∃ A, A = pcells o mv nv lv cv r msg (oh, oa) now := ⟨_, rfl⟩
  rw [← hA] at HE1 ⊢
  clear hA hb1 o1 e1 ek1 hs1 hd
  rw [hm, show str [] = ⟨#[]⟩ from rfl] at c38
  clear hm
  rw [ho] at c39
  clear ho
  go_enter Tryd.func45, Tryd.ntmps45
  go_upto_region 1 with fail
  rw [← unhide HEK1, ← unhide HE1]
  clear HE1 HEK1
  go_wp2_with fail
  go_ret
  refine ⟨?_, unhide O1⟩
  first
    | rfl
    | (show Ending.returned (Value.bool (decide (now < oa))) = _; rw [show decide (now < oa) = false from decide_eq_false (by omega)])
    | (show Ending.returned (Value.bool (decide (now < oa))) = _; rw [show decide (now < oa) = true from decide_eq_true (by omega)])
set_option maxRecDepth 100000 in
set_option maxHeartbeats 8000000 in
theorem bade_f1 (o : Ob) (mv nv lv cv : Value) (r : Int) (msg : List UInt8) (oh : Bool) (oa : Int) (now : Int) (w : World) (hd : o.dates.length = 10) (hr0 : ¬ r < 1) (hr : ¬ 7 < r) (hm : msg = []) (ho : oh = false) (hc : ¬ oa = 0) :
    Calls Tryd.prog 45 #[.agg (pcells o mv nv lv cv r msg (oh, oa) now).toArray] w fun e w' => e = .returned (.bool true) ∧ Only (fun _ => False) w w' := by
  obtain ⟨w1, k1, e1, ek1, hb1, o1, hs1⟩ := boxed w (pcells o mv nv lv cv r msg (oh, oa) now).toArray 56
  rw [List.toList_toArray] at hb1
  have c37 := hb1.cell 37 (.int .i64 r) (pcells_tail o mv nv lv cv r msg (oh, oa) now hd 0)
  have c38 := hb1.cell 38 (.string (str msg)) (pcells_tail o mv nv lv cv r msg (oh, oa) now hd 1)
  have c39 := hb1.cell 39 (.bool oh) (pcells_tail o mv nv lv cv r msg (oh, oa) now hd 2)
  have c40 := hb1.cell 40 (.int .i64 oa) (pcells_tail o mv nv lv cv r msg (oh, oa) now hd 3)
  have c41 := hb1.cell 41 (.int .i64 now) (pcells_tail o mv nv lv cv r msg (oh, oa) now hd 4)
  have O1 := hide o1
  have HE1 := hide e1
  have HEK1 := hide ek1
  obtain ⟨A, hA⟩ : ∃ A, A = pcells o mv nv lv cv r msg (oh, oa) now := ⟨_, rfl⟩
  rw [← hA] at HE1 ⊢
  clear hA hb1 o1 e1 ek1 hs1 hd
  rw [hm, show str [] = ⟨#[]⟩ from rfl] at c38
  clear hm
  rw [ho] at c39
  clear ho
  go_enter Tryd.func45, Tryd.ntmps45
  go_upto_region 1 with fail
  rw [← unhide HEK1, ← unhide HE1]
  clear HE1 HEK1
  go_wp2_with fail
  go_ret
  refine ⟨?_, unhide O1⟩
  show Ending.returned (Value.bool (oa != 0)) = _
  rw [show (oa != 0) = true from by simpa using hc]
set_option maxRecDepth 100000 in
set_option maxHeartbeats 8000000 in
theorem bade_f0 (o : Ob) (mv nv lv cv : Value) (r : Int) (msg : List UInt8) (oh : Bool) (oa : Int) (now : Int) (w : World) (hd : o.dates.length = 10) (hr0 : ¬ r < 1) (hr : ¬ 7 < r) (hm : msg = []) (ho : oh = false) (hc : oa = 0) :
    Calls Tryd.prog 45 #[.agg (pcells o mv nv lv cv r msg (oh, oa) now).toArray] w fun e w' => e = .returned (.bool false) ∧ Only (fun _ => False) w w' := by
  obtain ⟨w1, k1, e1, ek1, hb1, o1, hs1⟩ := boxed w (pcells o mv nv lv cv r msg (oh, oa) now).toArray 56
  rw [List.toList_toArray] at hb1
  have c37 := hb1.cell 37 (.int .i64 r) (pcells_tail o mv nv lv cv r msg (oh, oa) now hd 0)
  have c38 := hb1.cell 38 (.string (str msg)) (pcells_tail o mv nv lv cv r msg (oh, oa) now hd 1)
  have c39 := hb1.cell 39 (.bool oh) (pcells_tail o mv nv lv cv r msg (oh, oa) now hd 2)
  have c40 := hb1.cell 40 (.int .i64 oa) (pcells_tail o mv nv lv cv r msg (oh, oa) now hd 3)
  have c41 := hb1.cell 41 (.int .i64 now) (pcells_tail o mv nv lv cv r msg (oh, oa) now hd 4)
  have O1 := hide o1
  have HE1 := hide e1
  have HEK1 := hide ek1
  obtain ⟨A, hA⟩ : ∃ A, A = pcells o mv nv lv cv r msg (oh, oa) now := ⟨_, rfl⟩
  rw [← hA] at HE1 ⊢
  clear hA hb1 o1 e1 ek1 hs1 hd
  rw [hm, show str [] = ⟨#[]⟩ from rfl] at c38
  clear hm
  rw [ho] at c39
  clear ho
  rw [hc] at c40
  clear hc
  go_enter Tryd.func45, Tryd.ntmps45
  go_upto_region 1 with fail
  rw [← unhide HEK1, ← unhide HE1]
  clear HE1 HEK1
  go_wp2_with fail
  go_ret
  refine ⟨?_, unhide O1⟩
  first
    | rfl
    | (show Ending.returned (Value.bool (decide (now < oa))) = _; rw [show decide (now < oa) = false from decide_eq_false (by omega)])
    | (show Ending.returned (Value.bool (decide (now < oa))) = _; rw [show decide (now < oa) = true from decide_eq_true (by omega)])
set_option maxRecDepth 100000 in
set_option maxHeartbeats 8000000 in
theorem badn (o : Ob) (mv nv lv cv : Value) (r : Int) (msg : List UInt8) (oh : Bool) (oa : Int) (now : Int) (w : World) (hd : o.dates.length = 10) (hr0 : ¬ r < 1) (hr : ¬ 7 < r) (hm : msg ≠ []) (hl : msg.length ≤ maxLen) (hT : Tabs w) (hx : isText msg = false) :
    Calls Tryd.prog 45 #[.agg (pcells o mv nv lv cv r msg (oh, oa) now).toArray] w fun e w' => e = .returned (.bool true) ∧ Only (fun _ => False) w w' := by
  obtain ⟨w1, k1, e1, ek1, hb1, o1, hs1⟩ := boxed w (pcells o mv nv lv cv r msg (oh, oa) now).toArray 56
  rw [List.toList_toArray] at hb1
  have c37 := hb1.cell 37 (.int .i64 r) (pcells_tail o mv nv lv cv r msg (oh, oa) now hd 0)
  have c38 := hb1.cell 38 (.string (str msg)) (pcells_tail o mv nv lv cv r msg (oh, oa) now hd 1)
  have c39 := hb1.cell 39 (.bool oh) (pcells_tail o mv nv lv cv r msg (oh, oa) now hd 2)
  have c40 := hb1.cell 40 (.int .i64 oa) (pcells_tail o mv nv lv cv r msg (oh, oa) now hd 3)
  have c41 := hb1.cell 41 (.int .i64 now) (pcells_tail o mv nv lv cv r msg (oh, oa) now hd 4)
  have O1 := hide o1
  have HE1 := hide e1
  have HEK1 := hide ek1
  obtain ⟨A, hA⟩ : ∃ A, A = pcells o mv nv lv cv r msg (oh, oa) now := ⟨_, rfl⟩
  rw [← hA] at HE1 ⊢
  clear hA hb1 e1 ek1 hs1 hd
  have HTX := hide (text_any msg w1 hl (Tabs.same hT o1))
  have HNE := hide (str_some hm)
  have HNE2 := hide (str_some2 hm)
  clear hm
  clear hl hT
  generalize isText msg = TB at *
  generalize str msg = MS at *
  subst hx
  go_enter Tryd.func45, Tryd.ntmps45
  go_upto_region 1 with fail
  rw [← unhide HEK1, ← unhide HE1]
  clear HE1 HEK1
  have hne := unhide HNE
  have hne2 := unhide HNE2
  go_wp2_with fail
  refine (unhide HTX).mono ?_
  rintro e wx ⟨rfl, ox⟩
  have d39 := ox.cell c39 (fun e => e)
  have d40 := ox.cell c40 (fun e => e)
  have d41 := ox.cell c41 (fun e => e)
  have OX := hide ((unhide O1).trans ox (fun _ _ e => e))
  clear c37 c38 c39 c40 c41 ox HTX O1
  have O1 := OX
  clear OX
  go_wp2_with fail
  go_ret
  refine ⟨?_, unhide O1⟩
  first
    | rfl
    | (show Ending.returned (Value.bool (decide (now < oa))) = _; rw [show decide (now < oa) = false from decide_eq_false (by omega)])
    | (show Ending.returned (Value.bool (decide (now < oa))) = _; rw [show decide (now < oa) = true from decide_eq_true (by omega)])
set_option maxRecDepth 100000 in
set_option maxHeartbeats 8000000 in
theorem badt_t1 (o : Ob) (mv nv lv cv : Value) (r : Int) (msg : List UInt8) (oh : Bool) (oa : Int) (now : Int) (w : World) (hd : o.dates.length = 10) (hr0 : ¬ r < 1) (hr : ¬ 7 < r) (hm : msg ≠ []) (hl : msg.length ≤ maxLen) (hT : Tabs w) (hx : isText msg = true) (ho : oh = true) (hc : now < oa) :
    Calls Tryd.prog 45 #[.agg (pcells o mv nv lv cv r msg (oh, oa) now).toArray] w fun e w' => e = .returned (.bool true) ∧ Only (fun _ => False) w w' := by
  obtain ⟨w1, k1, e1, ek1, hb1, o1, hs1⟩ := boxed w (pcells o mv nv lv cv r msg (oh, oa) now).toArray 56
  rw [List.toList_toArray] at hb1
  have c37 := hb1.cell 37 (.int .i64 r) (pcells_tail o mv nv lv cv r msg (oh, oa) now hd 0)
  have c38 := hb1.cell 38 (.string (str msg)) (pcells_tail o mv nv lv cv r msg (oh, oa) now hd 1)
  have c39 := hb1.cell 39 (.bool oh) (pcells_tail o mv nv lv cv r msg (oh, oa) now hd 2)
  have c40 := hb1.cell 40 (.int .i64 oa) (pcells_tail o mv nv lv cv r msg (oh, oa) now hd 3)
  have c41 := hb1.cell 41 (.int .i64 now) (pcells_tail o mv nv lv cv r msg (oh, oa) now hd 4)
  have O1 := hide o1
  have HE1 := hide e1
  have HEK1 := hide ek1
  obtain ⟨A, hA⟩ : ∃ A, A = pcells o mv nv lv cv r msg (oh, oa) now := ⟨_, rfl⟩
  rw [← hA] at HE1 ⊢
  clear hA hb1 e1 ek1 hs1 hd
  rw [ho] at c39
  clear ho
  have HTX := hide (text_any msg w1 hl (Tabs.same hT o1))
  have HNE := hide (str_some hm)
  have HNE2 := hide (str_some2 hm)
  clear hm
  clear hl hT
  generalize isText msg = TB at *
  generalize str msg = MS at *
  subst hx
  go_enter Tryd.func45, Tryd.ntmps45
  go_upto_region 1 with fail
  rw [← unhide HEK1, ← unhide HE1]
  clear HE1 HEK1
  have hne := unhide HNE
  have hne2 := unhide HNE2
  go_wp2_with fail
  refine (unhide HTX).mono ?_
  rintro e wx ⟨rfl, ox⟩
  have d39 := ox.cell c39 (fun e => e)
  have d40 := ox.cell c40 (fun e => e)
  have d41 := ox.cell c41 (fun e => e)
  have OX := hide ((unhide O1).trans ox (fun _ _ e => e))
  clear c37 c38 c39 c40 c41 ox HTX O1
  have O1 := OX
  clear OX
  go_wp2_with fail
  go_ret
  refine ⟨?_, unhide O1⟩
  first
    | rfl
    | (show Ending.returned (Value.bool (decide (now < oa))) = _; rw [show decide (now < oa) = false from decide_eq_false (by omega)])
    | (show Ending.returned (Value.bool (decide (now < oa))) = _; rw [show decide (now < oa) = true from decide_eq_true (by omega)])
set_option maxRecDepth 100000 in
set_option maxHeartbeats 8000000 in
theorem badt_t0 (o : Ob) (mv nv lv cv : Value) (r : Int) (msg : List UInt8) (oh : Bool) (oa : Int) (now : Int) (w : World) (hd : o.dates.length = 10) (hr0 : ¬ r < 1) (hr : ¬ 7 < r) (hm : msg ≠ []) (hl : msg.length ≤ maxLen) (hT : Tabs w) (hx : isText msg = true) (ho : oh = true) (hc : ¬ now < oa) :
    Calls Tryd.prog 45 #[.agg (pcells o mv nv lv cv r msg (oh, oa) now).toArray] w fun e w' => e = .returned (.bool false) ∧ Only (fun _ => False) w w' := by
  obtain ⟨w1, k1, e1, ek1, hb1, o1, hs1⟩ := boxed w (pcells o mv nv lv cv r msg (oh, oa) now).toArray 56
  rw [List.toList_toArray] at hb1
  have c37 := hb1.cell 37 (.int .i64 r) (pcells_tail o mv nv lv cv r msg (oh, oa) now hd 0)
  have c38 := hb1.cell 38 (.string (str msg)) (pcells_tail o mv nv lv cv r msg (oh, oa) now hd 1)
  have c39 := hb1.cell 39 (.bool oh) (pcells_tail o mv nv lv cv r msg (oh, oa) now hd 2)
  have c40 := hb1.cell 40 (.int .i64 oa) (pcells_tail o mv nv lv cv r msg (oh, oa) now hd 3)
  have c41 := hb1.cell 41 (.int .i64 now) (pcells_tail o mv nv lv cv r msg (oh, oa) now hd 4)
  have O1 := hide o1
  have HE1 := hide e1
  have HEK1 := hide ek1
  obtain ⟨A, hA⟩ : ∃ A, A = pcells o mv nv lv cv r msg (oh, oa) now := ⟨_, rfl⟩
  rw [← hA] at HE1 ⊢
  clear hA hb1 e1 ek1 hs1 hd
  rw [ho] at c39
  clear ho
  have HTX := hide (text_any msg w1 hl (Tabs.same hT o1))
  have HNE := hide (str_some hm)
  have HNE2 := hide (str_some2 hm)
  clear hm
  clear hl hT
  generalize isText msg = TB at *
  generalize str msg = MS at *
  subst hx
  go_enter Tryd.func45, Tryd.ntmps45
  go_upto_region 1 with fail
  rw [← unhide HEK1, ← unhide HE1]
  clear HE1 HEK1
  have hne := unhide HNE
  have hne2 := unhide HNE2
  go_wp2_with fail
  refine (unhide HTX).mono ?_
  rintro e wx ⟨rfl, ox⟩
  have d39 := ox.cell c39 (fun e => e)
  have d40 := ox.cell c40 (fun e => e)
  have d41 := ox.cell c41 (fun e => e)
  have OX := hide ((unhide O1).trans ox (fun _ _ e => e))
  clear c37 c38 c39 c40 c41 ox HTX O1
  have O1 := OX
  clear OX
  go_wp2_with fail
  go_ret
  refine ⟨?_, unhide O1⟩
  first
    | rfl
    | (show Ending.returned (Value.bool (decide (now < oa))) = _; rw [show decide (now < oa) = false from decide_eq_false (by omega)])
    | (show Ending.returned (Value.bool (decide (now < oa))) = _; rw [show decide (now < oa) = true from decide_eq_true (by omega)])
set_option maxRecDepth 100000 in
set_option maxHeartbeats 8000000 in
theorem badt_f1 (o : Ob) (mv nv lv cv : Value) (r : Int) (msg : List UInt8) (oh : Bool) (oa : Int) (now : Int) (w : World) (hd : o.dates.length = 10) (hr0 : ¬ r < 1) (hr : ¬ 7 < r) (hm : msg ≠ []) (hl : msg.length ≤ maxLen) (hT : Tabs w) (hx : isText msg = true) (ho : oh = false) (hc : ¬ oa = 0) :
    Calls Tryd.prog 45 #[.agg (pcells o mv nv lv cv r msg (oh, oa) now).toArray] w fun e w' => e = .returned (.bool true) ∧ Only (fun _ => False) w w' := by
  obtain ⟨w1, k1, e1, ek1, hb1, o1, hs1⟩ := boxed w (pcells o mv nv lv cv r msg (oh, oa) now).toArray 56
  rw [List.toList_toArray] at hb1
  have c37 := hb1.cell 37 (.int .i64 r) (pcells_tail o mv nv lv cv r msg (oh, oa) now hd 0)
  have c38 := hb1.cell 38 (.string (str msg)) (pcells_tail o mv nv lv cv r msg (oh, oa) now hd 1)
  have c39 := hb1.cell 39 (.bool oh) (pcells_tail o mv nv lv cv r msg (oh, oa) now hd 2)
  have c40 := hb1.cell 40 (.int .i64 oa) (pcells_tail o mv nv lv cv r msg (oh, oa) now hd 3)
  have c41 := hb1.cell 41 (.int .i64 now) (pcells_tail o mv nv lv cv r msg (oh, oa) now hd 4)
  have O1 := hide o1
  have HE1 := hide e1
  have HEK1 := hide ek1
  obtain ⟨A, hA⟩ : ∃ A, A = pcells o mv nv lv cv r msg (oh, oa) now := ⟨_, rfl⟩
  rw [← hA] at HE1 ⊢
  clear hA hb1 e1 ek1 hs1 hd
  rw [ho] at c39
  clear ho
  have HTX := hide (text_any msg w1 hl (Tabs.same hT o1))
  have HNE := hide (str_some hm)
  have HNE2 := hide (str_some2 hm)
  clear hm
  clear hl hT
  generalize isText msg = TB at *
  generalize str msg = MS at *
  subst hx
  go_enter Tryd.func45, Tryd.ntmps45
  go_upto_region 1 with fail
  rw [← unhide HEK1, ← unhide HE1]
  clear HE1 HEK1
  have hne := unhide HNE
  have hne2 := unhide HNE2
  go_wp2_with fail
  refine (unhide HTX).mono ?_
  rintro e wx ⟨rfl, ox⟩
  have d39 := ox.cell c39 (fun e => e)
  have d40 := ox.cell c40 (fun e => e)
  have d41 := ox.cell c41 (fun e => e)
  have OX := hide ((unhide O1).trans ox (fun _ _ e => e))
  clear c37 c38 c39 c40 c41 ox HTX O1
  have O1 := OX
  clear OX
  go_wp2_with fail
  go_ret
  refine ⟨?_, unhide O1⟩
  show Ending.returned (Value.bool (oa != 0)) = _
  rw [show (oa != 0) = true from by simpa using hc]
set_option maxRecDepth 100000 in
set_option maxHeartbeats 8000000 in
theorem badt_f0 (o : Ob) (mv nv lv cv : Value) (r : Int) (msg : List UInt8) (oh : Bool) (oa : Int) (now : Int) (w : World) (hd : o.dates.length = 10) (hr0 : ¬ r < 1) (hr : ¬ 7 < r) (hm : msg ≠ []) (hl : msg.length ≤ maxLen) (hT : Tabs w) (hx : isText msg = true) (ho : oh = false) (hc : oa = 0) :
    Calls Tryd.prog 45 #[.agg (pcells o mv nv lv cv r msg (oh, oa) now).toArray] w fun e w' => e = .returned (.bool false) ∧ Only (fun _ => False) w w' := by
  obtain ⟨w1, k1, e1, ek1, hb1, o1, hs1⟩ := boxed w (pcells o mv nv lv cv r msg (oh, oa) now).toArray 56
  rw [List.toList_toArray] at hb1
  have c37 := hb1.cell 37 (.int .i64 r) (pcells_tail o mv nv lv cv r msg (oh, oa) now hd 0)
  have c38 := hb1.cell 38 (.string (str msg)) (pcells_tail o mv nv lv cv r msg (oh, oa) now hd 1)
  have c39 := hb1.cell 39 (.bool oh) (pcells_tail o mv nv lv cv r msg (oh, oa) now hd 2)
  have c40 := hb1.cell 40 (.int .i64 oa) (pcells_tail o mv nv lv cv r msg (oh, oa) now hd 3)
  have c41 := hb1.cell 41 (.int .i64 now) (pcells_tail o mv nv lv cv r msg (oh, oa) now hd 4)
  have O1 := hide o1
  have HE1 := hide e1
  have HEK1 := hide ek1
  obtain ⟨A, hA⟩ : ∃ A, A = pcells o mv nv lv cv r msg (oh, oa) now := ⟨_, rfl⟩
  rw [← hA] at HE1 ⊢
  clear hA hb1 e1 ek1 hs1 hd
  rw [ho] at c39
  clear ho
  rw [hc] at c40
  clear hc
  have HTX := hide (text_any msg w1 hl (Tabs.same hT o1))
  have HNE := hide (str_some hm)
  have HNE2 := hide (str_some2 hm)
  clear hm
  clear hl hT
  generalize isText msg = TB at *
  generalize str msg = MS at *
  subst hx
  go_enter Tryd.func45, Tryd.ntmps45
  go_upto_region 1 with fail
  rw [← unhide HEK1, ← unhide HE1]
  clear HE1 HEK1
  have hne := unhide HNE
  have hne2 := unhide HNE2
  go_wp2_with fail
  refine (unhide HTX).mono ?_
  rintro e wx ⟨rfl, ox⟩
  have d39 := ox.cell c39 (fun e => e)
  have d40 := ox.cell c40 (fun e => e)
  have d41 := ox.cell c41 (fun e => e)
  have OX := hide ((unhide O1).trans ox (fun _ _ e => e))
  clear c37 c38 c39 c40 c41 ox HTX O1
  have O1 := OX
  clear OX
  go_wp2_with fail
  go_ret
  refine ⟨?_, unhide O1⟩
  first
    | rfl
    | (show Ending.returned (Value.bool (decide (now < oa))) = _; rw [show decide (now < oa) = false from decide_eq_false (by omega)])
    | (show Ending.returned (Value.bool (decide (now < oa))) = _; rw [show decide (now < oa) = true from decide_eq_true (by omega)])
theorem isNoRevocation_any (o : Ob) (mv nv lv cv : Value) (r : Int) (msg : List UInt8) (oc : Bool × Int) (now : Int) (w : World) (hd : o.dates.length = 10) (hl : msg.length ≤ maxLen) (hT : msg = [] ∨ Tabs w) :
    Calls Tryd.prog 45 #[.agg (pcells o mv nv lv cv r msg oc now).toArray] w fun e w' => e = .returned (.bool (badR r msg oc now)) ∧ Only (fun _ => False) w w' := by
  obtain ⟨oh, oa⟩ := oc
  by_cases h0 : r < 1
  · rw [show badR r msg (oh, oa) now = true from by simp [badR, h0]]
    exact bad_lo o mv nv lv cv r msg oh oa now w hd h0
  by_cases h7 : 7 < r
  · rw [show badR r msg (oh, oa) now = true from by simp [badR, h7]]
    exact bad_hi o mv nv lv cv r msg oh oa now w hd h0 h7
  by_cases hm : msg = []
  · cases oh with
    | true =>
      by_cases hc : now < oa
      · rw [show badR r msg (true, oa) now = true from by simp [badR, hc]]
        exact bade_t1 o mv nv lv cv r msg true oa now w hd h0 h7 hm rfl hc
      · rw [show badR r msg (true, oa) now = false from by simp [badR, hc, hm, h0, h7]]
        exact bade_t0 o mv nv lv cv r msg true oa now w hd h0 h7 hm rfl hc
    | false =>
      by_cases hc : oa = 0
      · rw [show badR r msg (false, oa) now = false from by simp [badR, hc, hm, h0, h7]]
        exact bade_f0 o mv nv lv cv r msg false oa now w hd h0 h7 hm rfl hc
      · rw [show badR r msg (false, oa) now = true from by simp [badR, hc]]
        exact bade_f1 o mv nv lv cv r msg false oa now w hd h0 h7 hm rfl hc
  have hT2 : Tabs w := hT.resolve_left hm
  cases hx : isText msg with
  | false =>
    rw [show badR r msg (oh, oa) now = true from by simp [badR, hx, hm]]
    exact badn o mv nv lv cv r msg oh oa now w hd h0 h7 hm hl hT2 hx
  | true =>
    cases oh with
    | true =>
      by_cases hc : now < oa
      · rw [show badR r msg (true, oa) now = true from by simp [badR, hc]]
        exact badt_t1 o mv nv lv cv r msg true oa now w hd h0 h7 hm hl hT2 hx rfl hc
      · rw [show badR r msg (true, oa) now = false from by simp [badR, hc, hx, h0, h7]]
        exact badt_t0 o mv nv lv cv r msg true oa now w hd h0 h7 hm hl hT2 hx rfl hc
    | false =>
      by_cases hc : oa = 0
      · rw [show badR r msg (false, oa) now = false from by simp [badR, hc, hx, h0, h7]]
        exact badt_f0 o mv nv lv cv r msg false oa now w hd h0 h7 hm hl hT2 hx rfl hc
      · rw [show badR r msg (false, oa) now = true from by simp [badR, hc]]
        exact badt_f1 o mv nv lv cv r msg false oa now w hd h0 h7 hm hl hT2 hx rfl hc
end Ob
end Go.Proofs.YtadpmninoghcjaaDoor
