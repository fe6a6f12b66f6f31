/-
  Which items are right: the reference's right, Right.
-/
import Derived.Test.YtedmfjnmclbkpaaDoorTtRight
import Derived.Test.YtedmfjnmclbkpaaDoorTtSize
import Derived.Test.YtedmfjnmclbkpaaDoorTtTag
import Derived.Test.YtedmfjnmclbkpaaDoorTtTakes
import Derived.Test.YtedmfjnmclbkpaaDoorU8
namespace Go.Proofs.YtedmfjnmclbkpaaDoor
open Go.RowKit
set_option linter.unusedSimpArgs false
set_option linter.unusedVariables false
namespace Tt

/-- what right answers -/
def RightAs (w : World) (A : Bool) (c : Nat) (e : Ending) (w' : World) : Prop := (∃ m : Nat, m ≤ 600 ∧ e = .returned (.tuple #[.int .i64 m, .bool A]) ∧ (A = true → m = c)) ∧ Only (fun _ => False) w w'

set_option maxHeartbeats 2000000 in
set_option maxRecDepth 100000 in
theorem right_kids_2 (t n : Int) (da : Option Addr) (d : List UInt8) (dc : Nat) (ka : Option Addr) (ks : List It) (kc deep : Nat) (w : World) (hdeep : deep ≤ 12) (ht : tagB t = true) (hdl : d.length ≤ 140737488355328) (hkl : ks.length ≤ 140737488355328) (hk : 0 < ks.length) :
    Calls Tryd.prog 33 #[.agg #[.int .i64 t, .int .i64 2, .int .i64 n, .slice da d.length dc, .slice ka ks.length kc], .int .i64 deep] w fun e w' => RightAs w false 1 e w' := by
  have hk2 : (0 : Int) < ks.length := by omega
  have hk3 : ¬ ks.length = 0 := by omega
  obtain ⟨⟨c0, c1, c2, c3, c4⟩, oA⟩ := boxed w (.int .i64 t) (.int .i64 2) (.int .i64 n) (.slice da d.length dc) (.slice ka ks.length kc)
  have HO := hide oA
  have hdp : ¬ (deep : Int) > 12 := by omega
  have hdp2 : (deep : Int) ≤ 12 := by omega
  have HTg := hide (fun W => tagOk_any t W)
  rw [ht] at HTg
  clear oA ht hdeep
  go_enter Tryd.func33, Tryd.ntmps33
  go_wp2_with fail
  refine (unhide HTg _).mono ?_
  rintro e w1 ⟨rfl, hw1⟩
  subst hw1
  go_wp2
  go_ret2
  exact ⟨⟨0, by omega, rfl, by simp⟩, unhide HO⟩

set_option maxHeartbeats 2000000 in
set_option maxRecDepth 100000 in
theorem right_kids_3 (t n : Int) (da : Option Addr) (d : List UInt8) (dc : Nat) (ka : Option Addr) (ks : List It) (kc deep : Nat) (w : World) (hdeep : deep ≤ 12) (ht : tagB t = true) (hdl : d.length ≤ 140737488355328) (hkl : ks.length ≤ 140737488355328) (hk : 0 < ks.length) :
    Calls Tryd.prog 33 #[.agg #[.int .i64 t, .int .i64 3, .int .i64 n, .slice da d.length dc, .slice ka ks.length kc], .int .i64 deep] w fun e w' => RightAs w false 1 e w' := by
  have hk2 : (0 : Int) < ks.length := by omega
  have hk3 : ¬ ks.length = 0 := by omega
  obtain ⟨⟨c0, c1, c2, c3, c4⟩, oA⟩ := boxed w (.int .i64 t) (.int .i64 3) (.int .i64 n) (.slice da d.length dc) (.slice ka ks.length kc)
  have HO := hide oA
  have hdp : ¬ (deep : Int) > 12 := by omega
  have hdp2 : (deep : Int) ≤ 12 := by omega
  have HTg := hide (fun W => tagOk_any t W)
  rw [ht] at HTg
  clear oA ht hdeep
  go_enter Tryd.func33, Tryd.ntmps33
  go_wp2_with fail
  refine (unhide HTg _).mono ?_
  rintro e w1 ⟨rfl, hw1⟩
  subst hw1
  go_wp2
  go_ret2
  exact ⟨⟨0, by omega, rfl, by simp⟩, unhide HO⟩

set_option maxHeartbeats 2000000 in
set_option maxRecDepth 100000 in
theorem right_kids_4 (t n : Int) (da : Option Addr) (d : List UInt8) (dc : Nat) (ka : Option Addr) (ks : List It) (kc deep : Nat) (w : World) (hdeep : deep ≤ 12) (ht : tagB t = true) (hdl : d.length ≤ 140737488355328) (hkl : ks.length ≤ 140737488355328) (hk : 0 < ks.length) :
    Calls Tryd.prog 33 #[.agg #[.int .i64 t, .int .i64 4, .int .i64 n, .slice da d.length dc, .slice ka ks.length kc], .int .i64 deep] w fun e w' => RightAs w false 1 e w' := by
  have hk2 : (0 : Int) < ks.length := by omega
  have hk3 : ¬ ks.length = 0 := by omega
  obtain ⟨⟨c0, c1, c2, c3, c4⟩, oA⟩ := boxed w (.int .i64 t) (.int .i64 4) (.int .i64 n) (.slice da d.length dc) (.slice ka ks.length kc)
  have HO := hide oA
  have hdp : ¬ (deep : Int) > 12 := by omega
  have hdp2 : (deep : Int) ≤ 12 := by omega
  have HTg := hide (fun W => tagOk_any t W)
  rw [ht] at HTg
  clear oA ht hdeep
  go_enter Tryd.func33, Tryd.ntmps33
  go_wp2_with fail
  refine (unhide HTg _).mono ?_
  rintro e w1 ⟨rfl, hw1⟩
  subst hw1
  go_wp2
  go_ret2
  exact ⟨⟨0, by omega, rfl, by simp⟩, unhide HO⟩

set_option maxHeartbeats 2000000 in
set_option maxRecDepth 100000 in
theorem right_kids_5 (t n : Int) (da : Option Addr) (d : List UInt8) (dc : Nat) (ka : Option Addr) (ks : List It) (kc deep : Nat) (w : World) (hdeep : deep ≤ 12) (ht : tagB t = true) (hdl : d.length ≤ 140737488355328) (hkl : ks.length ≤ 140737488355328) (hk : 0 < ks.length) :
    Calls Tryd.prog 33 #[.agg #[.int .i64 t, .int .i64 5, .int .i64 n, .slice da d.length dc, .slice ka ks.length kc], .int .i64 deep] w fun e w' => RightAs w false 1 e w' := by
  have hk2 : (0 : Int) < ks.length := by omega
  have hk3 : ¬ ks.length = 0 := by omega
  obtain ⟨⟨c0, c1, c2, c3, c4⟩, oA⟩ := boxed w (.int .i64 t) (.int .i64 5) (.int .i64 n) (.slice da d.length dc) (.slice ka ks.length kc)
  have HO := hide oA
  have hdp : ¬ (deep : Int) > 12 := by omega
  have hdp2 : (deep : Int) ≤ 12 := by omega
  have HTg := hide (fun W => tagOk_any t W)
  rw [ht] at HTg
  clear oA ht hdeep
  go_enter Tryd.func33, Tryd.ntmps33
  go_wp2_with fail
  refine (unhide HTg _).mono ?_
  rintro e w1 ⟨rfl, hw1⟩
  subst hw1
  go_wp2
  go_ret2
  exact ⟨⟨0, by omega, rfl, by simp⟩, unhide HO⟩

set_option maxHeartbeats 2000000 in
set_option maxRecDepth 100000 in
theorem right_kids_6 (t n : Int) (da : Option Addr) (d : List UInt8) (dc : Nat) (ka : Option Addr) (ks : List It) (kc deep : Nat) (w : World) (hdeep : deep ≤ 12) (ht : tagB t = true) (hdl : d.length ≤ 140737488355328) (hkl : ks.length ≤ 140737488355328) (hk : 0 < ks.length) :
    Calls Tryd.prog 33 #[.agg #[.int .i64 t, .int .i64 6, .int .i64 n, .slice da d.length dc, .slice ka ks.length kc], .int .i64 deep] w fun e w' => RightAs w false 1 e w' := by
  have hk2 : (0 : Int) < ks.length := by omega
  have hk3 : ¬ ks.length = 0 := by omega
  obtain ⟨⟨c0, c1, c2, c3, c4⟩, oA⟩ := boxed w (.int .i64 t) (.int .i64 6) (.int .i64 n) (.slice da d.length dc) (.slice ka ks.length kc)
  have HO := hide oA
  have hdp : ¬ (deep : Int) > 12 := by omega
  have hdp2 : (deep : Int) ≤ 12 := by omega
  have HTg := hide (fun W => tagOk_any t W)
  rw [ht] at HTg
  clear oA ht hdeep
  go_enter Tryd.func33, Tryd.ntmps33
  go_wp2_with fail
  refine (unhide HTg _).mono ?_
  rintro e w1 ⟨rfl, hw1⟩
  subst hw1
  go_wp2
  go_ret2
  exact ⟨⟨0, by omega, rfl, by simp⟩, unhide HO⟩

set_option maxHeartbeats 2000000 in
set_option maxRecDepth 100000 in
theorem right_kids_7 (t n : Int) (da : Option Addr) (d : List UInt8) (dc : Nat) (ka : Option Addr) (ks : List It) (kc deep : Nat) (w : World) (hdeep : deep ≤ 12) (ht : tagB t = true) (hdl : d.length ≤ 140737488355328) (hkl : ks.length ≤ 140737488355328) (hk : 0 < ks.length) :
    Calls Tryd.prog 33 #[.agg #[.int .i64 t, .int .i64 7, .int .i64 n, .slice da d.length dc, .slice ka ks.length kc], .int .i64 deep] w fun e w' => RightAs w false 1 e w' := by
  have hk2 : (0 : Int) < ks.length := by omega
  have hk3 : ¬ ks.length = 0 := by omega
  obtain ⟨⟨c0, c1, c2, c3, c4⟩, oA⟩ := boxed w (.int .i64 t) (.int .i64 7) (.int .i64 n) (.slice da d.length dc) (.slice ka ks.length kc)
  have HO := hide oA
  have hdp : ¬ (deep : Int) > 12 := by omega
  have hdp2 : (deep : Int) ≤ 12 := by omega
  have HTg := hide (fun W => tagOk_any t W)
  rw [ht] at HTg
  clear oA ht hdeep
  go_enter Tryd.func33, Tryd.ntmps33
  go_wp2_with fail
  refine (unhide HTg _).mono ?_
  rintro e w1 ⟨rfl, hw1⟩
  subst hw1
  go_wp2
  go_ret2
  exact ⟨⟨0, by omega, rfl, by simp⟩, unhide HO⟩

set_option maxHeartbeats 2000000 in
set_option maxRecDepth 100000 in
theorem right_kids_8 (t n : Int) (da : Option Addr) (d : List UInt8) (dc : Nat) (ka : Option Addr) (ks : List It) (kc deep : Nat) (w : World) (hdeep : deep ≤ 12) (ht : tagB t = true) (hdl : d.length ≤ 140737488355328) (hkl : ks.length ≤ 140737488355328) (hk : 0 < ks.length) :
    Calls Tryd.prog 33 #[.agg #[.int .i64 t, .int .i64 8, .int .i64 n, .slice da d.length dc, .slice ka ks.length kc], .int .i64 deep] w fun e w' => RightAs w false 1 e w' := by
  have hk2 : (0 : Int) < ks.length := by omega
  have hk3 : ¬ ks.length = 0 := by omega
  obtain ⟨⟨c0, c1, c2, c3, c4⟩, oA⟩ := boxed w (.int .i64 t) (.int .i64 8) (.int .i64 n) (.slice da d.length dc) (.slice ka ks.length kc)
  have HO := hide oA
  have hdp : ¬ (deep : Int) > 12 := by omega
  have hdp2 : (deep : Int) ≤ 12 := by omega
  have HTg := hide (fun W => tagOk_any t W)
  rw [ht] at HTg
  clear oA ht hdeep
  go_enter Tryd.func33, Tryd.ntmps33
  go_wp2_with fail
  refine (unhide HTg _).mono ?_
  rintro e w1 ⟨rfl, hw1⟩
  subst hw1
  go_wp2
  go_ret2
  exact ⟨⟨0, by omega, rfl, by simp⟩, unhide HO⟩

set_option maxHeartbeats 2000000 in
set_option maxRecDepth 100000 in
theorem right_kids_9 (t n : Int) (da : Option Addr) (d : List UInt8) (dc : Nat) (ka : Option Addr) (ks : List It) (kc deep : Nat) (w : World) (hdeep : deep ≤ 12) (ht : tagB t = true) (hdl : d.length ≤ 140737488355328) (hkl : ks.length ≤ 140737488355328) (hk : 0 < ks.length) :
    Calls Tryd.prog 33 #[.agg #[.int .i64 t, .int .i64 9, .int .i64 n, .slice da d.length dc, .slice ka ks.length kc], .int .i64 deep] w fun e w' => RightAs w false 1 e w' := by
  have hk2 : (0 : Int) < ks.length := by omega
  have hk3 : ¬ ks.length = 0 := by omega
  obtain ⟨⟨c0, c1, c2, c3, c4⟩, oA⟩ := boxed w (.int .i64 t) (.int .i64 9) (.int .i64 n) (.slice da d.length dc) (.slice ka ks.length kc)
  have HO := hide oA
  have hdp : ¬ (deep : Int) > 12 := by omega
  have hdp2 : (deep : Int) ≤ 12 := by omega
  have HTg := hide (fun W => tagOk_any t W)
  rw [ht] at HTg
  clear oA ht hdeep
  go_enter Tryd.func33, Tryd.ntmps33
  go_wp2_with fail
  refine (unhide HTg _).mono ?_
  rintro e w1 ⟨rfl, hw1⟩
  subst hw1
  go_wp2
  go_ret2
  exact ⟨⟨0, by omega, rfl, by simp⟩, unhide HO⟩

set_option maxHeartbeats 2000000 in
set_option maxRecDepth 100000 in
theorem right_kids_10 (t n : Int) (da : Option Addr) (d : List UInt8) (dc : Nat) (ka : Option Addr) (ks : List It) (kc deep : Nat) (w : World) (hdeep : deep ≤ 12) (ht : tagB t = true) (hdl : d.length ≤ 140737488355328) (hkl : ks.length ≤ 140737488355328) (hk : 0 < ks.length) :
    Calls Tryd.prog 33 #[.agg #[.int .i64 t, .int .i64 10, .int .i64 n, .slice da d.length dc, .slice ka ks.length kc], .int .i64 deep] w fun e w' => RightAs w false 1 e w' := by
  have hk2 : (0 : Int) < ks.length := by omega
  have hk3 : ¬ ks.length = 0 := by omega
  obtain ⟨⟨c0, c1, c2, c3, c4⟩, oA⟩ := boxed w (.int .i64 t) (.int .i64 10) (.int .i64 n) (.slice da d.length dc) (.slice ka ks.length kc)
  have HO := hide oA
  have hdp : ¬ (deep : Int) > 12 := by omega
  have hdp2 : (deep : Int) ≤ 12 := by omega
  have HTg := hide (fun W => tagOk_any t W)
  rw [ht] at HTg
  clear oA ht hdeep
  go_enter Tryd.func33, Tryd.ntmps33
  go_wp2_with fail
  refine (unhide HTg _).mono ?_
  rintro e w1 ⟨rfl, hw1⟩
  subst hw1
  go_wp2
  go_ret2
  exact ⟨⟨0, by omega, rfl, by simp⟩, unhide HO⟩

set_option maxHeartbeats 2000000 in
set_option maxRecDepth 100000 in
theorem right_kids_x (t y n : Int) (da : Option Addr) (d : List UInt8) (dc : Nat) (ka : Option Addr) (ks : List It) (kc deep : Nat) (w : World) (hdeep : deep ≤ 12) (ht : tagB t = true) (hdl : d.length ≤ 140737488355328) (hkl : ks.length ≤ 140737488355328) (hk : 0 < ks.length) (h1 : (y == 1) = false) :
    Calls Tryd.prog 33 #[.agg #[.int .i64 t, .int .i64 y, .int .i64 n, .slice da d.length dc, .slice ka ks.length kc], .int .i64 deep] w fun e w' => RightAs w false 1 e w' := by
  have h1b : (y != 1) = true := by simpa [bne] using h1
  have hk2 : (0 : Int) < ks.length := by omega
  have hk3 : ¬ ks.length = 0 := by omega
  obtain ⟨⟨c0, c1, c2, c3, c4⟩, oA⟩ := boxed w (.int .i64 t) (.int .i64 y) (.int .i64 n) (.slice da d.length dc) (.slice ka ks.length kc)
  have HO := hide oA
  have hdp : ¬ (deep : Int) > 12 := by omega
  have hdp2 : (deep : Int) ≤ 12 := by omega
  have HTg := hide (fun W => tagOk_any t W)
  rw [ht] at HTg
  clear oA ht hdeep
  go_enter Tryd.func33, Tryd.ntmps33
  go_wp2_with fail
  refine (unhide HTg _).mono ?_
  rintro e w1 ⟨rfl, hw1⟩
  subst hw1
  go_wp2
  go_ret2
  exact ⟨⟨0, by omega, rfl, by simp⟩, unhide HO⟩

set_option maxHeartbeats 2000000 in
set_option maxRecDepth 100000 in
theorem right_data_2 (t n : Int) (da : Option Addr) (d : List UInt8) (dc : Nat) (ka : Option Addr) (ks : List It) (kc deep : Nat) (w : World) (hdeep : deep ≤ 12) (ht : tagB t = true) (hdl : d.length ≤ 140737488355328) (hkl : ks.length ≤ 140737488355328) (hk : ks.length = 0) (hd : 0 < d.length) :
    Calls Tryd.prog 33 #[.agg #[.int .i64 t, .int .i64 2, .int .i64 n, .slice da d.length dc, .slice ka ks.length kc], .int .i64 deep] w fun e w' => RightAs w false 1 e w' := by
  have hd2 : (0 : Int) < d.length := by omega
  have hd3 : ¬ d.length = 0 := by omega
  rw [hk]
  obtain ⟨⟨c0, c1, c2, c3, c4⟩, oA⟩ := boxed w (.int .i64 t) (.int .i64 2) (.int .i64 n) (.slice da d.length dc) (.slice ka 0 kc)
  have HO := hide oA
  have hdp : ¬ (deep : Int) > 12 := by omega
  have hdp2 : (deep : Int) ≤ 12 := by omega
  have HTg := hide (fun W => tagOk_any t W)
  rw [ht] at HTg
  clear oA ht hdeep
  go_enter Tryd.func33, Tryd.ntmps33
  go_wp2_with fail
  refine (unhide HTg _).mono ?_
  rintro e w1 ⟨rfl, hw1⟩
  subst hw1
  go_wp2
  go_ret2
  exact ⟨⟨0, by omega, rfl, by simp⟩, unhide HO⟩

set_option maxHeartbeats 2000000 in
set_option maxRecDepth 100000 in
theorem right_data_3 (t n : Int) (da : Option Addr) (d : List UInt8) (dc : Nat) (ka : Option Addr) (ks : List It) (kc deep : Nat) (w : World) (hdeep : deep ≤ 12) (ht : tagB t = true) (hdl : d.length ≤ 140737488355328) (hkl : ks.length ≤ 140737488355328) (hk : ks.length = 0) (hd : 0 < d.length) :
    Calls Tryd.prog 33 #[.agg #[.int .i64 t, .int .i64 3, .int .i64 n, .slice da d.length dc, .slice ka ks.length kc], .int .i64 deep] w fun e w' => RightAs w false 1 e w' := by
  have hd2 : (0 : Int) < d.length := by omega
  have hd3 : ¬ d.length = 0 := by omega
  rw [hk]
  obtain ⟨⟨c0, c1, c2, c3, c4⟩, oA⟩ := boxed w (.int .i64 t) (.int .i64 3) (.int .i64 n) (.slice da d.length dc) (.slice ka 0 kc)
  have HO := hide oA
  have hdp : ¬ (deep : Int) > 12 := by omega
  have hdp2 : (deep : Int) ≤ 12 := by omega
  have HTg := hide (fun W => tagOk_any t W)
  rw [ht] at HTg
  clear oA ht hdeep
  go_enter Tryd.func33, Tryd.ntmps33
  go_wp2_with fail
  refine (unhide HTg _).mono ?_
  rintro e w1 ⟨rfl, hw1⟩
  subst hw1
  go_wp2
  go_ret2
  exact ⟨⟨0, by omega, rfl, by simp⟩, unhide HO⟩

set_option maxHeartbeats 2000000 in
set_option maxRecDepth 100000 in
theorem right_data_5 (t n : Int) (da : Option Addr) (d : List UInt8) (dc : Nat) (ka : Option Addr) (ks : List It) (kc deep : Nat) (w : World) (hdeep : deep ≤ 12) (ht : tagB t = true) (hdl : d.length ≤ 140737488355328) (hkl : ks.length ≤ 140737488355328) (hk : ks.length = 0) (hd : 0 < d.length) :
    Calls Tryd.prog 33 #[.agg #[.int .i64 t, .int .i64 5, .int .i64 n, .slice da d.length dc, .slice ka ks.length kc], .int .i64 deep] w fun e w' => RightAs w false 1 e w' := by
  have hd2 : (0 : Int) < d.length := by omega
  have hd3 : ¬ d.length = 0 := by omega
  rw [hk]
  obtain ⟨⟨c0, c1, c2, c3, c4⟩, oA⟩ := boxed w (.int .i64 t) (.int .i64 5) (.int .i64 n) (.slice da d.length dc) (.slice ka 0 kc)
  have HO := hide oA
  have hdp : ¬ (deep : Int) > 12 := by omega
  have hdp2 : (deep : Int) ≤ 12 := by omega
  have HTg := hide (fun W => tagOk_any t W)
  rw [ht] at HTg
  clear oA ht hdeep
  go_enter Tryd.func33, Tryd.ntmps33
  go_wp2_with fail
  refine (unhide HTg _).mono ?_
  rintro e w1 ⟨rfl, hw1⟩
  subst hw1
  go_wp2
  go_ret2
  exact ⟨⟨0, by omega, rfl, by simp⟩, unhide HO⟩

set_option maxHeartbeats 2000000 in
set_option maxRecDepth 100000 in
theorem right_data_6 (t n : Int) (da : Option Addr) (d : List UInt8) (dc : Nat) (ka : Option Addr) (ks : List It) (kc deep : Nat) (w : World) (hdeep : deep ≤ 12) (ht : tagB t = true) (hdl : d.length ≤ 140737488355328) (hkl : ks.length ≤ 140737488355328) (hk : ks.length = 0) (hd : 0 < d.length) :
    Calls Tryd.prog 33 #[.agg #[.int .i64 t, .int .i64 6, .int .i64 n, .slice da d.length dc, .slice ka ks.length kc], .int .i64 deep] w fun e w' => RightAs w false 1 e w' := by
  have hd2 : (0 : Int) < d.length := by omega
  have hd3 : ¬ d.length = 0 := by omega
  rw [hk]
  obtain ⟨⟨c0, c1, c2, c3, c4⟩, oA⟩ := boxed w (.int .i64 t) (.int .i64 6) (.int .i64 n) (.slice da d.length dc) (.slice ka 0 kc)
  have HO := hide oA
  have hdp : ¬ (deep : Int) > 12 := by omega
  have hdp2 : (deep : Int) ≤ 12 := by omega
  have HTg := hide (fun W => tagOk_any t W)
  rw [ht] at HTg
  clear oA ht hdeep
  go_enter Tryd.func33, Tryd.ntmps33
  go_wp2_with fail
  refine (unhide HTg _).mono ?_
  rintro e w1 ⟨rfl, hw1⟩
  subst hw1
  go_wp2
  go_ret2
  exact ⟨⟨0, by omega, rfl, by simp⟩, unhide HO⟩

set_option maxHeartbeats 2000000 in
set_option maxRecDepth 100000 in
theorem right_data_9 (t n : Int) (da : Option Addr) (d : List UInt8) (dc : Nat) (ka : Option Addr) (ks : List It) (kc deep : Nat) (w : World) (hdeep : deep ≤ 12) (ht : tagB t = true) (hdl : d.length ≤ 140737488355328) (hkl : ks.length ≤ 140737488355328) (hk : ks.length = 0) (hd : 0 < d.length) :
    Calls Tryd.prog 33 #[.agg #[.int .i64 t, .int .i64 9, .int .i64 n, .slice da d.length dc, .slice ka ks.length kc], .int .i64 deep] w fun e w' => RightAs w false 1 e w' := by
  have hd2 : (0 : Int) < d.length := by omega
  have hd3 : ¬ d.length = 0 := by omega
  rw [hk]
  obtain ⟨⟨c0, c1, c2, c3, c4⟩, oA⟩ := boxed w (.int .i64 t) (.int .i64 9) (.int .i64 n) (.slice da d.length dc) (.slice ka 0 kc)
  have HO := hide oA
  have hdp : ¬ (deep : Int) > 12 := by omega
  have hdp2 : (deep : Int) ≤ 12 := by omega
  have HTg := hide (fun W => tagOk_any t W)
  rw [ht] at HTg
  clear oA ht hdeep
  go_enter Tryd.func33, Tryd.ntmps33
  go_wp2_with fail
  refine (unhide HTg _).mono ?_
  rintro e w1 ⟨rfl, hw1⟩
  subst hw1
  go_wp2
  go_ret2
  exact ⟨⟨0, by omega, rfl, by simp⟩, unhide HO⟩

set_option maxHeartbeats 2000000 in
set_option maxRecDepth 100000 in
theorem right_data_10 (t n : Int) (da : Option Addr) (d : List UInt8) (dc : Nat) (ka : Option Addr) (ks : List It) (kc deep : Nat) (w : World) (hdeep : deep ≤ 12) (ht : tagB t = true) (hdl : d.length ≤ 140737488355328) (hkl : ks.length ≤ 140737488355328) (hk : ks.length = 0) (hd : 0 < d.length) :
    Calls Tryd.prog 33 #[.agg #[.int .i64 t, .int .i64 10, .int .i64 n, .slice da d.length dc, .slice ka ks.length kc], .int .i64 deep] w fun e w' => RightAs w false 1 e w' := by
  have hd2 : (0 : Int) < d.length := by omega
  have hd3 : ¬ d.length = 0 := by omega
  rw [hk]
  obtain ⟨⟨c0, c1, c2, c3, c4⟩, oA⟩ := boxed w (.int .i64 t) (.int .i64 10) (.int .i64 n) (.slice da d.length dc) (.slice ka 0 kc)
  have HO := hide oA
  have hdp : ¬ (deep : Int) > 12 := by omega
  have hdp2 : (deep : Int) ≤ 12 := by omega
  have HTg := hide (fun W => tagOk_any t W)
  rw [ht] at HTg
  clear oA ht hdeep
  go_enter Tryd.func33, Tryd.ntmps33
  go_wp2_with fail
  refine (unhide HTg _).mono ?_
  rintro e w1 ⟨rfl, hw1⟩
  subst hw1
  go_wp2
  go_ret2
  exact ⟨⟨0, by omega, rfl, by simp⟩, unhide HO⟩

set_option maxHeartbeats 2000000 in
set_option maxRecDepth 100000 in
theorem right_data_1 (t n : Int) (da : Option Addr) (d : List UInt8) (dc : Nat) (ka : Option Addr) (ks : List It) (kc deep : Nat) (w : World) (hdeep : deep ≤ 12) (ht : tagB t = true) (hdl : d.length ≤ 140737488355328) (hkl : ks.length ≤ 140737488355328) (hd : 0 < d.length) :
    Calls Tryd.prog 33 #[.agg #[.int .i64 t, .int .i64 1, .int .i64 n, .slice da d.length dc, .slice ka ks.length kc], .int .i64 deep] w fun e w' => RightAs w false 1 e w' := by
  have hd2 : (0 : Int) < d.length := by omega
  have hd3 : ¬ d.length = 0 := by omega
  obtain ⟨⟨c0, c1, c2, c3, c4⟩, oA⟩ := boxed w (.int .i64 t) (.int .i64 1) (.int .i64 n) (.slice da d.length dc) (.slice ka ks.length kc)
  have HO := hide oA
  have hdp : ¬ (deep : Int) > 12 := by omega
  have hdp2 : (deep : Int) ≤ 12 := by omega
  have HTg := hide (fun W => tagOk_any t W)
  rw [ht] at HTg
  clear oA ht hdeep
  go_enter Tryd.func33, Tryd.ntmps33
  go_wp2_with fail
  refine (unhide HTg _).mono ?_
  rintro e w1 ⟨rfl, hw1⟩
  subst hw1
  go_wp2
  go_ret2
  exact ⟨⟨0, by omega, rfl, by simp⟩, unhide HO⟩

set_option maxHeartbeats 2000000 in
set_option maxRecDepth 100000 in
theorem right_data_x (t y n : Int) (da : Option Addr) (d : List UInt8) (dc : Nat) (ka : Option Addr) (ks : List It) (kc deep : Nat) (w : World) (hdeep : deep ≤ 12) (ht : tagB t = true) (hdl : d.length ≤ 140737488355328) (hkl : ks.length ≤ 140737488355328) (hk : ks.length = 0) (hd : 0 < d.length) (h1 : (y == 1) = false) (h2 : (y == 2) = false) (h3 : (y == 3) = false) (h4 : (y == 4) = false) (h5 : (y == 5) = false) (h6 : (y == 6) = false) (h7 : (y == 7) = false) (h8 : (y == 8) = false) (h9 : (y == 9) = false) (h10 : (y == 10) = false) :
    Calls Tryd.prog 33 #[.agg #[.int .i64 t, .int .i64 y, .int .i64 n, .slice da d.length dc, .slice ka ks.length kc], .int .i64 deep] w fun e w' => RightAs w false 1 e w' := by
  have h1b : (y != 1) = true := by simpa [bne] using h1
  have hd2 : (0 : Int) < d.length := by omega
  have hd3 : ¬ d.length = 0 := by omega
  rw [hk]
  obtain ⟨⟨c0, c1, c2, c3, c4⟩, oA⟩ := boxed w (.int .i64 t) (.int .i64 y) (.int .i64 n) (.slice da d.length dc) (.slice ka 0 kc)
  have HO := hide oA
  have hdp : ¬ (deep : Int) > 12 := by omega
  have hdp2 : (deep : Int) ≤ 12 := by omega
  have HTg := hide (fun W => tagOk_any t W)
  rw [ht] at HTg
  clear oA ht hdeep
  go_enter Tryd.func33, Tryd.ntmps33
  go_wp2_with fail
  refine (unhide HTg _).mono ?_
  rintro e w1 ⟨rfl, hw1⟩
  subst hw1
  go_wp2
  go_ret2
  exact ⟨⟨0, by omega, rfl, by simp⟩, unhide HO⟩

set_option maxHeartbeats 2000000 in
set_option maxRecDepth 100000 in
theorem right_else_x (t y n : Int) (da : Option Addr) (d : List UInt8) (dc : Nat) (ka : Option Addr) (ks : List It) (kc deep : Nat) (w : World) (hdeep : deep ≤ 12) (ht : tagB t = true) (hdl : d.length ≤ 140737488355328) (hkl : ks.length ≤ 140737488355328) (hk : ks.length = 0) (hd : d.length = 0) (h1 : (y == 1) = false) (h2 : (y == 2) = false) (h3 : (y == 3) = false) (h4 : (y == 4) = false) (h5 : (y == 5) = false) (h6 : (y == 6) = false) (h7 : (y == 7) = false) (h8 : (y == 8) = false) (h9 : (y == 9) = false) (h10 : (y == 10) = false) :
    Calls Tryd.prog 33 #[.agg #[.int .i64 t, .int .i64 y, .int .i64 n, .slice da d.length dc, .slice ka ks.length kc], .int .i64 deep] w fun e w' => RightAs w false 1 e w' := by
  have h1b : (y != 1) = true := by simpa [bne] using h1
  rw [hk, hd]
  obtain ⟨⟨c0, c1, c2, c3, c4⟩, oA⟩ := boxed w (.int .i64 t) (.int .i64 y) (.int .i64 n) (.slice da 0 dc) (.slice ka 0 kc)
  have HO := hide oA
  have hdp : ¬ (deep : Int) > 12 := by omega
  have hdp2 : (deep : Int) ≤ 12 := by omega
  have HTg := hide (fun W => tagOk_any t W)
  rw [ht] at HTg
  clear oA ht hdeep
  go_enter Tryd.func33, Tryd.ntmps33
  go_wp2_with fail
  refine (unhide HTg _).mono ?_
  rintro e w1 ⟨rfl, hw1⟩
  subst hw1
  go_wp2
  go_ret2
  exact ⟨⟨1, by omega, rfl, by simp⟩, unhide HO⟩

set_option maxHeartbeats 2000000 in
set_option maxRecDepth 100000 in
theorem right_int_4 (t n : Int) (da : Option Addr) (d : List UInt8) (dc : Nat) (ka : Option Addr) (ks : List It) (kc deep : Nat) (w : World) (hdeep : deep ≤ 12) (ht : tagB t = true) (hdl : d.length ≤ 140737488355328) (hkl : ks.length ≤ 140737488355328) (hk : ks.length = 0) (hn : ¬ n = 0) :
    Calls Tryd.prog 33 #[.agg #[.int .i64 t, .int .i64 4, .int .i64 n, .slice da d.length dc, .slice ka ks.length kc], .int .i64 deep] w fun e w' => RightAs w false 1 e w' := by
  have hn2 : (n == 0) = false := by simp [hn]
  rw [hk]
  obtain ⟨⟨c0, c1, c2, c3, c4⟩, oA⟩ := boxed w (.int .i64 t) (.int .i64 4) (.int .i64 n) (.slice da d.length dc) (.slice ka 0 kc)
  have HO := hide oA
  have hdp : ¬ (deep : Int) > 12 := by omega
  have hdp2 : (deep : Int) ≤ 12 := by omega
  have HTg := hide (fun W => tagOk_any t W)
  rw [ht] at HTg
  clear oA ht hdeep
  go_enter Tryd.func33, Tryd.ntmps33
  go_wp2_with fail
  refine (unhide HTg _).mono ?_
  rintro e w1 ⟨rfl, hw1⟩
  subst hw1
  go_wp2
  go_ret2
  exact ⟨⟨0, by omega, rfl, by simp⟩, unhide HO⟩

set_option maxHeartbeats 2000000 in
set_option maxRecDepth 100000 in
theorem right_int_7 (t n : Int) (da : Option Addr) (d : List UInt8) (dc : Nat) (ka : Option Addr) (ks : List It) (kc deep : Nat) (w : World) (hdeep : deep ≤ 12) (ht : tagB t = true) (hdl : d.length ≤ 140737488355328) (hkl : ks.length ≤ 140737488355328) (hk : ks.length = 0) (hn : ¬ n = 0) :
    Calls Tryd.prog 33 #[.agg #[.int .i64 t, .int .i64 7, .int .i64 n, .slice da d.length dc, .slice ka ks.length kc], .int .i64 deep] w fun e w' => RightAs w false 1 e w' := by
  have hn2 : (n == 0) = false := by simp [hn]
  rw [hk]
  obtain ⟨⟨c0, c1, c2, c3, c4⟩, oA⟩ := boxed w (.int .i64 t) (.int .i64 7) (.int .i64 n) (.slice da d.length dc) (.slice ka 0 kc)
  have HO := hide oA
  have hdp : ¬ (deep : Int) > 12 := by omega
  have hdp2 : (deep : Int) ≤ 12 := by omega
  have HTg := hide (fun W => tagOk_any t W)
  rw [ht] at HTg
  clear oA ht hdeep
  go_enter Tryd.func33, Tryd.ntmps33
  go_wp2_with fail
  refine (unhide HTg _).mono ?_
  rintro e w1 ⟨rfl, hw1⟩
  subst hw1
  go_wp2
  go_ret2
  exact ⟨⟨0, by omega, rfl, by simp⟩, unhide HO⟩

set_option maxHeartbeats 2000000 in
set_option maxRecDepth 100000 in
theorem right_int_8 (t n : Int) (da : Option Addr) (d : List UInt8) (dc : Nat) (ka : Option Addr) (ks : List It) (kc deep : Nat) (w : World) (hdeep : deep ≤ 12) (ht : tagB t = true) (hdl : d.length ≤ 140737488355328) (hkl : ks.length ≤ 140737488355328) (hk : ks.length = 0) (hn : ¬ n = 0) :
    Calls Tryd.prog 33 #[.agg #[.int .i64 t, .int .i64 8, .int .i64 n, .slice da d.length dc, .slice ka ks.length kc], .int .i64 deep] w fun e w' => RightAs w false 1 e w' := by
  have hn2 : (n == 0) = false := by simp [hn]
  rw [hk]
  obtain ⟨⟨c0, c1, c2, c3, c4⟩, oA⟩ := boxed w (.int .i64 t) (.int .i64 8) (.int .i64 n) (.slice da d.length dc) (.slice ka 0 kc)
  have HO := hide oA
  have hdp : ¬ (deep : Int) > 12 := by omega
  have hdp2 : (deep : Int) ≤ 12 := by omega
  have HTg := hide (fun W => tagOk_any t W)
  rw [ht] at HTg
  clear oA ht hdeep
  go_enter Tryd.func33, Tryd.ntmps33
  go_wp2_with fail
  refine (unhide HTg _).mono ?_
  rintro e w1 ⟨rfl, hw1⟩
  subst hw1
  go_wp2
  go_ret2
  exact ⟨⟨0, by omega, rfl, by simp⟩, unhide HO⟩

set_option maxHeartbeats 2000000 in
set_option maxRecDepth 100000 in
theorem right_int_1 (t n : Int) (da : Option Addr) (d : List UInt8) (dc : Nat) (ka : Option Addr) (ks : List It) (kc deep : Nat) (w : World) (hdeep : deep ≤ 12) (ht : tagB t = true) (hdl : d.length ≤ 140737488355328) (hkl : ks.length ≤ 140737488355328) (hd : d.length = 0) (hn : ¬ n = 0) :
    Calls Tryd.prog 33 #[.agg #[.int .i64 t, .int .i64 1, .int .i64 n, .slice da d.length dc, .slice ka ks.length kc], .int .i64 deep] w fun e w' => RightAs w false 1 e w' := by
  have hn2 : (n == 0) = false := by simp [hn]
  rw [hd]
  obtain ⟨⟨c0, c1, c2, c3, c4⟩, oA⟩ := boxed w (.int .i64 t) (.int .i64 1) (.int .i64 n) (.slice da 0 dc) (.slice ka ks.length kc)
  have HO := hide oA
  have hdp : ¬ (deep : Int) > 12 := by omega
  have hdp2 : (deep : Int) ≤ 12 := by omega
  have HTg := hide (fun W => tagOk_any t W)
  rw [ht] at HTg
  clear oA ht hdeep
  go_enter Tryd.func33, Tryd.ntmps33
  go_wp2_with fail
  refine (unhide HTg _).mono ?_
  rintro e w1 ⟨rfl, hw1⟩
  subst hw1
  go_wp2
  go_ret2
  exact ⟨⟨0, by omega, rfl, by simp⟩, unhide HO⟩

set_option maxHeartbeats 2000000 in
set_option maxRecDepth 100000 in
theorem right_2_lo (t n : Int) (da : Option Addr) (d : List UInt8) (dc : Nat) (ka : Option Addr) (ks : List It) (kc deep : Nat) (w : World) (hdeep : deep ≤ 12) (ht : tagB t = true) (hdl : d.length ≤ 140737488355328) (hkl : ks.length ≤ 140737488355328) (hk : ks.length = 0) (hd : d.length = 0) (hn : ¬ -2147483648 ≤ n) :
    Calls Tryd.prog 33 #[.agg #[.int .i64 t, .int .i64 2, .int .i64 n, .slice da d.length dc, .slice ka ks.length kc], .int .i64 deep] w fun e w' => RightAs w false 1 e w' := by
  rw [hk, hd]
  obtain ⟨⟨c0, c1, c2, c3, c4⟩, oA⟩ := boxed w (.int .i64 t) (.int .i64 2) (.int .i64 n) (.slice da 0 dc) (.slice ka 0 kc)
  have HO := hide oA
  have hdp : ¬ (deep : Int) > 12 := by omega
  have hdp2 : (deep : Int) ≤ 12 := by omega
  have HTg := hide (fun W => tagOk_any t W)
  rw [ht] at HTg
  clear oA ht hdeep
  go_enter Tryd.func33, Tryd.ntmps33
  go_wp2_with fail
  refine (unhide HTg _).mono ?_
  rintro e w1 ⟨rfl, hw1⟩
  subst hw1
  go_wp2
  go_ret2
  exact ⟨⟨1, by omega, rfl, by simp⟩, unhide HO⟩

set_option maxHeartbeats 2000000 in
set_option maxRecDepth 100000 in
theorem right_2_hi (t n : Int) (da : Option Addr) (d : List UInt8) (dc : Nat) (ka : Option Addr) (ks : List It) (kc deep : Nat) (w : World) (hdeep : deep ≤ 12) (ht : tagB t = true) (hdl : d.length ≤ 140737488355328) (hkl : ks.length ≤ 140737488355328) (hk : ks.length = 0) (hd : d.length = 0) (hn : -2147483648 ≤ n) (hn2 : ¬ n ≤ 2147483647) :
    Calls Tryd.prog 33 #[.agg #[.int .i64 t, .int .i64 2, .int .i64 n, .slice da d.length dc, .slice ka ks.length kc], .int .i64 deep] w fun e w' => RightAs w false 1 e w' := by
  rw [hk, hd]
  have hn3 : decide (n ≤ 2147483647) = false := decide_eq_false hn2
  have hn4 : 2147483647 < n := by omega
  obtain ⟨⟨c0, c1, c2, c3, c4⟩, oA⟩ := boxed w (.int .i64 t) (.int .i64 2) (.int .i64 n) (.slice da 0 dc) (.slice ka 0 kc)
  have HO := hide oA
  have hdp : ¬ (deep : Int) > 12 := by omega
  have hdp2 : (deep : Int) ≤ 12 := by omega
  have HTg := hide (fun W => tagOk_any t W)
  rw [ht] at HTg
  clear oA ht hdeep
  go_enter Tryd.func33, Tryd.ntmps33
  go_wp2_with fail
  refine (unhide HTg _).mono ?_
  rintro e w1 ⟨rfl, hw1⟩
  subst hw1
  go_wp2
  go_ret2
  exact ⟨⟨1, by omega, rfl, by simp⟩, unhide HO⟩

set_option maxHeartbeats 2000000 in
set_option maxRecDepth 100000 in
theorem right_2_ok (t n : Int) (da : Option Addr) (d : List UInt8) (dc : Nat) (ka : Option Addr) (ks : List It) (kc deep : Nat) (w : World) (hdeep : deep ≤ 12) (ht : tagB t = true) (hdl : d.length ≤ 140737488355328) (hkl : ks.length ≤ 140737488355328) (hk : ks.length = 0) (hd : d.length = 0) (hn : -2147483648 ≤ n) (hn2 : n ≤ 2147483647) :
    Calls Tryd.prog 33 #[.agg #[.int .i64 t, .int .i64 2, .int .i64 n, .slice da d.length dc, .slice ka ks.length kc], .int .i64 deep] w fun e w' => RightAs w true 1 e w' := by
  rw [hk, hd]
  obtain ⟨⟨c0, c1, c2, c3, c4⟩, oA⟩ := boxed w (.int .i64 t) (.int .i64 2) (.int .i64 n) (.slice da 0 dc) (.slice ka 0 kc)
  have HO := hide oA
  have hdp : ¬ (deep : Int) > 12 := by omega
  have hdp2 : (deep : Int) ≤ 12 := by omega
  have HTg := hide (fun W => tagOk_any t W)
  rw [ht] at HTg
  clear oA ht hdeep
  go_enter Tryd.func33, Tryd.ntmps33
  go_wp2_with fail
  refine (unhide HTg _).mono ?_
  rintro e w1 ⟨rfl, hw1⟩
  subst hw1
  go_wp2
  go_ret2
  exact ⟨⟨1, by omega, rfl, fun _ => rfl⟩, unhide HO⟩

set_option maxHeartbeats 2000000 in
set_option maxRecDepth 100000 in
theorem right_5_lo (t n : Int) (da : Option Addr) (d : List UInt8) (dc : Nat) (ka : Option Addr) (ks : List It) (kc deep : Nat) (w : World) (hdeep : deep ≤ 12) (ht : tagB t = true) (hdl : d.length ≤ 140737488355328) (hkl : ks.length ≤ 140737488355328) (hk : ks.length = 0) (hd : d.length = 0) (hn : ¬ 0 ≤ n) :
    Calls Tryd.prog 33 #[.agg #[.int .i64 t, .int .i64 5, .int .i64 n, .slice da d.length dc, .slice ka ks.length kc], .int .i64 deep] w fun e w' => RightAs w false 1 e w' := by
  rw [hk, hd]
  obtain ⟨⟨c0, c1, c2, c3, c4⟩, oA⟩ := boxed w (.int .i64 t) (.int .i64 5) (.int .i64 n) (.slice da 0 dc) (.slice ka 0 kc)
  have HO := hide oA
  have hdp : ¬ (deep : Int) > 12 := by omega
  have hdp2 : (deep : Int) ≤ 12 := by omega
  have HTg := hide (fun W => tagOk_any t W)
  rw [ht] at HTg
  clear oA ht hdeep
  go_enter Tryd.func33, Tryd.ntmps33
  go_wp2_with fail
  refine (unhide HTg _).mono ?_
  rintro e w1 ⟨rfl, hw1⟩
  subst hw1
  go_wp2
  go_ret2
  exact ⟨⟨1, by omega, rfl, by simp⟩, unhide HO⟩

set_option maxHeartbeats 2000000 in
set_option maxRecDepth 100000 in
theorem right_5_hi (t n : Int) (da : Option Addr) (d : List UInt8) (dc : Nat) (ka : Option Addr) (ks : List It) (kc deep : Nat) (w : World) (hdeep : deep ≤ 12) (ht : tagB t = true) (hdl : d.length ≤ 140737488355328) (hkl : ks.length ≤ 140737488355328) (hk : ks.length = 0) (hd : d.length = 0) (hn : 0 ≤ n) (hn2 : ¬ n ≤ 4294967295) :
    Calls Tryd.prog 33 #[.agg #[.int .i64 t, .int .i64 5, .int .i64 n, .slice da d.length dc, .slice ka ks.length kc], .int .i64 deep] w fun e w' => RightAs w false 1 e w' := by
  rw [hk, hd]
  have hn3 : decide (n ≤ 4294967295) = false := decide_eq_false hn2
  have hn4 : 4294967295 < n := by omega
  obtain ⟨⟨c0, c1, c2, c3, c4⟩, oA⟩ := boxed w (.int .i64 t) (.int .i64 5) (.int .i64 n) (.slice da 0 dc) (.slice ka 0 kc)
  have HO := hide oA
  have hdp : ¬ (deep : Int) > 12 := by omega
  have hdp2 : (deep : Int) ≤ 12 := by omega
  have HTg := hide (fun W => tagOk_any t W)
  rw [ht] at HTg
  clear oA ht hdeep
  go_enter Tryd.func33, Tryd.ntmps33
  go_wp2_with fail
  refine (unhide HTg _).mono ?_
  rintro e w1 ⟨rfl, hw1⟩
  subst hw1
  go_wp2
  go_ret2
  exact ⟨⟨1, by omega, rfl, by simp⟩, unhide HO⟩

set_option maxHeartbeats 2000000 in
set_option maxRecDepth 100000 in
theorem right_5_ok (t n : Int) (da : Option Addr) (d : List UInt8) (dc : Nat) (ka : Option Addr) (ks : List It) (kc deep : Nat) (w : World) (hdeep : deep ≤ 12) (ht : tagB t = true) (hdl : d.length ≤ 140737488355328) (hkl : ks.length ≤ 140737488355328) (hk : ks.length = 0) (hd : d.length = 0) (hn : 0 ≤ n) (hn2 : n ≤ 4294967295) :
    Calls Tryd.prog 33 #[.agg #[.int .i64 t, .int .i64 5, .int .i64 n, .slice da d.length dc, .slice ka ks.length kc], .int .i64 deep] w fun e w' => RightAs w true 1 e w' := by
  rw [hk, hd]
  obtain ⟨⟨c0, c1, c2, c3, c4⟩, oA⟩ := boxed w (.int .i64 t) (.int .i64 5) (.int .i64 n) (.slice da 0 dc) (.slice ka 0 kc)
  have HO := hide oA
  have hdp : ¬ (deep : Int) > 12 := by omega
  have hdp2 : (deep : Int) ≤ 12 := by omega
  have HTg := hide (fun W => tagOk_any t W)
  rw [ht] at HTg
  clear oA ht hdeep
  go_enter Tryd.func33, Tryd.ntmps33
  go_wp2_with fail
  refine (unhide HTg _).mono ?_
  rintro e w1 ⟨rfl, hw1⟩
  subst hw1
  go_wp2
  go_ret2
  exact ⟨⟨1, by omega, rfl, fun _ => rfl⟩, unhide HO⟩

set_option maxHeartbeats 2000000 in
set_option maxRecDepth 100000 in
theorem right_10_lo (t n : Int) (da : Option Addr) (d : List UInt8) (dc : Nat) (ka : Option Addr) (ks : List It) (kc deep : Nat) (w : World) (hdeep : deep ≤ 12) (ht : tagB t = true) (hdl : d.length ≤ 140737488355328) (hkl : ks.length ≤ 140737488355328) (hk : ks.length = 0) (hd : d.length = 0) (hn : ¬ 0 ≤ n) :
    Calls Tryd.prog 33 #[.agg #[.int .i64 t, .int .i64 10, .int .i64 n, .slice da d.length dc, .slice ka ks.length kc], .int .i64 deep] w fun e w' => RightAs w false 1 e w' := by
  rw [hk, hd]
  obtain ⟨⟨c0, c1, c2, c3, c4⟩, oA⟩ := boxed w (.int .i64 t) (.int .i64 10) (.int .i64 n) (.slice da 0 dc) (.slice ka 0 kc)
  have HO := hide oA
  have hdp : ¬ (deep : Int) > 12 := by omega
  have hdp2 : (deep : Int) ≤ 12 := by omega
  have HTg := hide (fun W => tagOk_any t W)
  rw [ht] at HTg
  clear oA ht hdeep
  go_enter Tryd.func33, Tryd.ntmps33
  go_wp2_with fail
  refine (unhide HTg _).mono ?_
  rintro e w1 ⟨rfl, hw1⟩
  subst hw1
  go_wp2
  go_ret2
  exact ⟨⟨1, by omega, rfl, by simp⟩, unhide HO⟩

set_option maxHeartbeats 2000000 in
set_option maxRecDepth 100000 in
theorem right_10_hi (t n : Int) (da : Option Addr) (d : List UInt8) (dc : Nat) (ka : Option Addr) (ks : List It) (kc deep : Nat) (w : World) (hdeep : deep ≤ 12) (ht : tagB t = true) (hdl : d.length ≤ 140737488355328) (hkl : ks.length ≤ 140737488355328) (hk : ks.length = 0) (hd : d.length = 0) (hn : 0 ≤ n) (hn2 : ¬ n ≤ 4294967295) :
    Calls Tryd.prog 33 #[.agg #[.int .i64 t, .int .i64 10, .int .i64 n, .slice da d.length dc, .slice ka ks.length kc], .int .i64 deep] w fun e w' => RightAs w false 1 e w' := by
  rw [hk, hd]
  have hn3 : decide (n ≤ 4294967295) = false := decide_eq_false hn2
  have hn4 : 4294967295 < n := by omega
  obtain ⟨⟨c0, c1, c2, c3, c4⟩, oA⟩ := boxed w (.int .i64 t) (.int .i64 10) (.int .i64 n) (.slice da 0 dc) (.slice ka 0 kc)
  have HO := hide oA
  have hdp : ¬ (deep : Int) > 12 := by omega
  have hdp2 : (deep : Int) ≤ 12 := by omega
  have HTg := hide (fun W => tagOk_any t W)
  rw [ht] at HTg
  clear oA ht hdeep
  go_enter Tryd.func33, Tryd.ntmps33
  go_wp2_with fail
  refine (unhide HTg _).mono ?_
  rintro e w1 ⟨rfl, hw1⟩
  subst hw1
  go_wp2
  go_ret2
  exact ⟨⟨1, by omega, rfl, by simp⟩, unhide HO⟩

set_option maxHeartbeats 2000000 in
set_option maxRecDepth 100000 in
theorem right_10_ok (t n : Int) (da : Option Addr) (d : List UInt8) (dc : Nat) (ka : Option Addr) (ks : List It) (kc deep : Nat) (w : World) (hdeep : deep ≤ 12) (ht : tagB t = true) (hdl : d.length ≤ 140737488355328) (hkl : ks.length ≤ 140737488355328) (hk : ks.length = 0) (hd : d.length = 0) (hn : 0 ≤ n) (hn2 : n ≤ 4294967295) :
    Calls Tryd.prog 33 #[.agg #[.int .i64 t, .int .i64 10, .int .i64 n, .slice da d.length dc, .slice ka ks.length kc], .int .i64 deep] w fun e w' => RightAs w true 1 e w' := by
  rw [hk, hd]
  obtain ⟨⟨c0, c1, c2, c3, c4⟩, oA⟩ := boxed w (.int .i64 t) (.int .i64 10) (.int .i64 n) (.slice da 0 dc) (.slice ka 0 kc)
  have HO := hide oA
  have hdp : ¬ (deep : Int) > 12 := by omega
  have hdp2 : (deep : Int) ≤ 12 := by omega
  have HTg := hide (fun W => tagOk_any t W)
  rw [ht] at HTg
  clear oA ht hdeep
  go_enter Tryd.func33, Tryd.ntmps33
  go_wp2_with fail
  refine (unhide HTg _).mono ?_
  rintro e w1 ⟨rfl, hw1⟩
  subst hw1
  go_wp2
  go_ret2
  exact ⟨⟨1, by omega, rfl, fun _ => rfl⟩, unhide HO⟩

set_option maxHeartbeats 2000000 in
set_option maxRecDepth 100000 in
theorem right_6_0 (t n : Int) (da : Option Addr) (d : List UInt8) (dc : Nat) (ka : Option Addr) (ks : List It) (kc deep : Nat) (w : World) (hdeep : deep ≤ 12) (ht : tagB t = true) (hdl : d.length ≤ 140737488355328) (hkl : ks.length ≤ 140737488355328) (hk : ks.length = 0) (hd : d.length = 0) (hn : n = 0) :
    Calls Tryd.prog 33 #[.agg #[.int .i64 t, .int .i64 6, .int .i64 n, .slice da d.length dc, .slice ka ks.length kc], .int .i64 deep] w fun e w' => RightAs w true 1 e w' := by
  rw [hk, hd]
  subst hn
  obtain ⟨⟨c0, c1, c2, c3, c4⟩, oA⟩ := boxed w (.int .i64 t) (.int .i64 6) (.int .i64 0) (.slice da 0 dc) (.slice ka 0 kc)
  have HO := hide oA
  have hdp : ¬ (deep : Int) > 12 := by omega
  have hdp2 : (deep : Int) ≤ 12 := by omega
  have HTg := hide (fun W => tagOk_any t W)
  rw [ht] at HTg
  clear oA ht hdeep
  go_enter Tryd.func33, Tryd.ntmps33
  go_wp2_with fail
  refine (unhide HTg _).mono ?_
  rintro e w1 ⟨rfl, hw1⟩
  subst hw1
  go_wp2
  go_ret2
  exact ⟨⟨1, by omega, rfl, fun _ => rfl⟩, unhide HO⟩

set_option maxHeartbeats 2000000 in
set_option maxRecDepth 100000 in
theorem right_6_1 (t n : Int) (da : Option Addr) (d : List UInt8) (dc : Nat) (ka : Option Addr) (ks : List It) (kc deep : Nat) (w : World) (hdeep : deep ≤ 12) (ht : tagB t = true) (hdl : d.length ≤ 140737488355328) (hkl : ks.length ≤ 140737488355328) (hk : ks.length = 0) (hd : d.length = 0) (hn : n = 1) :
    Calls Tryd.prog 33 #[.agg #[.int .i64 t, .int .i64 6, .int .i64 n, .slice da d.length dc, .slice ka ks.length kc], .int .i64 deep] w fun e w' => RightAs w true 1 e w' := by
  rw [hk, hd]
  subst hn
  obtain ⟨⟨c0, c1, c2, c3, c4⟩, oA⟩ := boxed w (.int .i64 t) (.int .i64 6) (.int .i64 1) (.slice da 0 dc) (.slice ka 0 kc)
  have HO := hide oA
  have hdp : ¬ (deep : Int) > 12 := by omega
  have hdp2 : (deep : Int) ≤ 12 := by omega
  have HTg := hide (fun W => tagOk_any t W)
  rw [ht] at HTg
  clear oA ht hdeep
  go_enter Tryd.func33, Tryd.ntmps33
  go_wp2_with fail
  refine (unhide HTg _).mono ?_
  rintro e w1 ⟨rfl, hw1⟩
  subst hw1
  go_wp2
  go_ret2
  exact ⟨⟨1, by omega, rfl, fun _ => rfl⟩, unhide HO⟩

set_option maxHeartbeats 2000000 in
set_option maxRecDepth 100000 in
theorem right_6_x (t n : Int) (da : Option Addr) (d : List UInt8) (dc : Nat) (ka : Option Addr) (ks : List It) (kc deep : Nat) (w : World) (hdeep : deep ≤ 12) (ht : tagB t = true) (hdl : d.length ≤ 140737488355328) (hkl : ks.length ≤ 140737488355328) (hk : ks.length = 0) (hd : d.length = 0) (hn : (n == 0) = false) (hn2 : (n == 1) = false) :
    Calls Tryd.prog 33 #[.agg #[.int .i64 t, .int .i64 6, .int .i64 n, .slice da d.length dc, .slice ka ks.length kc], .int .i64 deep] w fun e w' => RightAs w false 1 e w' := by
  rw [hk, hd]
  obtain ⟨⟨c0, c1, c2, c3, c4⟩, oA⟩ := boxed w (.int .i64 t) (.int .i64 6) (.int .i64 n) (.slice da 0 dc) (.slice ka 0 kc)
  have HO := hide oA
  have hdp : ¬ (deep : Int) > 12 := by omega
  have hdp2 : (deep : Int) ≤ 12 := by omega
  have HTg := hide (fun W => tagOk_any t W)
  rw [ht] at HTg
  clear oA ht hdeep
  go_enter Tryd.func33, Tryd.ntmps33
  go_wp2_with fail
  refine (unhide HTg _).mono ?_
  rintro e w1 ⟨rfl, hw1⟩
  subst hw1
  go_wp2
  go_ret2
  exact ⟨⟨1, by omega, rfl, by simp⟩, unhide HO⟩

set_option maxHeartbeats 2000000 in
set_option maxRecDepth 100000 in
theorem right_3 (t n : Int) (da : Option Addr) (d : List UInt8) (dc : Nat) (ka : Option Addr) (ks : List It) (kc deep : Nat) (w : World) (hdeep : deep ≤ 12) (ht : tagB t = true) (hdl : d.length ≤ 140737488355328) (hkl : ks.length ≤ 140737488355328) (hk : ks.length = 0) (hd : d.length = 0) :
    Calls Tryd.prog 33 #[.agg #[.int .i64 t, .int .i64 3, .int .i64 n, .slice da d.length dc, .slice ka ks.length kc], .int .i64 deep] w fun e w' => RightAs w true 1 e w' := by
  rw [hk, hd]
  obtain ⟨⟨c0, c1, c2, c3, c4⟩, oA⟩ := boxed w (.int .i64 t) (.int .i64 3) (.int .i64 n) (.slice da 0 dc) (.slice ka 0 kc)
  have HO := hide oA
  have hdp : ¬ (deep : Int) > 12 := by omega
  have hdp2 : (deep : Int) ≤ 12 := by omega
  have HTg := hide (fun W => tagOk_any t W)
  rw [ht] at HTg
  clear oA ht hdeep
  go_enter Tryd.func33, Tryd.ntmps33
  go_wp2_with fail
  refine (unhide HTg _).mono ?_
  rintro e w1 ⟨rfl, hw1⟩
  subst hw1
  go_wp2
  go_ret2
  exact ⟨⟨1, by omega, rfl, fun _ => rfl⟩, unhide HO⟩

set_option maxHeartbeats 2000000 in
set_option maxRecDepth 100000 in
theorem right_9 (t n : Int) (da : Option Addr) (d : List UInt8) (dc : Nat) (ka : Option Addr) (ks : List It) (kc deep : Nat) (w : World) (hdeep : deep ≤ 12) (ht : tagB t = true) (hdl : d.length ≤ 140737488355328) (hkl : ks.length ≤ 140737488355328) (hk : ks.length = 0) (hd : d.length = 0) :
    Calls Tryd.prog 33 #[.agg #[.int .i64 t, .int .i64 9, .int .i64 n, .slice da d.length dc, .slice ka ks.length kc], .int .i64 deep] w fun e w' => RightAs w true 1 e w' := by
  rw [hk, hd]
  obtain ⟨⟨c0, c1, c2, c3, c4⟩, oA⟩ := boxed w (.int .i64 t) (.int .i64 9) (.int .i64 n) (.slice da 0 dc) (.slice ka 0 kc)
  have HO := hide oA
  have hdp : ¬ (deep : Int) > 12 := by omega
  have hdp2 : (deep : Int) ≤ 12 := by omega
  have HTg := hide (fun W => tagOk_any t W)
  rw [ht] at HTg
  clear oA ht hdeep
  go_enter Tryd.func33, Tryd.ntmps33
  go_wp2_with fail
  refine (unhide HTg _).mono ?_
  rintro e w1 ⟨rfl, hw1⟩
  subst hw1
  go_wp2
  go_ret2
  exact ⟨⟨1, by omega, rfl, fun _ => rfl⟩, unhide HO⟩

set_option maxHeartbeats 2000000 in
set_option maxRecDepth 100000 in
theorem right_8 (t n : Int) (da : Option Addr) (d : List UInt8) (dc : Nat) (ka : Option Addr) (ks : List It) (kc deep : Nat) (w : World) (hdeep : deep ≤ 12) (ht : tagB t = true) (hdl : d.length ≤ 140737488355328) (hkl : ks.length ≤ 140737488355328) (hk : ks.length = 0) (hn : n = 0) :
    Calls Tryd.prog 33 #[.agg #[.int .i64 t, .int .i64 8, .int .i64 n, .slice da d.length dc, .slice ka ks.length kc], .int .i64 deep] w fun e w' => RightAs w true 1 e w' := by
  rw [hk]
  subst hn
  obtain ⟨⟨c0, c1, c2, c3, c4⟩, oA⟩ := boxed w (.int .i64 t) (.int .i64 8) (.int .i64 0) (.slice da d.length dc) (.slice ka 0 kc)
  have HO := hide oA
  have hdp : ¬ (deep : Int) > 12 := by omega
  have hdp2 : (deep : Int) ≤ 12 := by omega
  have HTg := hide (fun W => tagOk_any t W)
  rw [ht] at HTg
  clear oA ht hdeep
  go_enter Tryd.func33, Tryd.ntmps33
  go_wp2_with fail
  refine (unhide HTg _).mono ?_
  rintro e w1 ⟨rfl, hw1⟩
  subst hw1
  go_wp2
  go_ret2
  exact ⟨⟨1, by omega, rfl, fun _ => rfl⟩, unhide HO⟩

set_option maxHeartbeats 2000000 in
set_option maxRecDepth 100000 in
theorem right_4_0 (t n : Int) (da : Option Addr) (d : List UInt8) (dc : Nat) (ka : Option Addr) (ks : List It) (kc deep : Nat) (w : World) (hdeep : deep ≤ 12) (ht : tagB t = true) (hdl : d.length ≤ 140737488355328) (hkl : ks.length ≤ 140737488355328) (hk : ks.length = 0) (hn : n = 0) (hd : d.length = 0) :
    Calls Tryd.prog 33 #[.agg #[.int .i64 t, .int .i64 4, .int .i64 n, .slice da d.length dc, .slice ka ks.length kc], .int .i64 deep] w fun e w' => RightAs w false 1 e w' := by
  rw [hk, hd]
  subst hn
  obtain ⟨⟨c0, c1, c2, c3, c4⟩, oA⟩ := boxed w (.int .i64 t) (.int .i64 4) (.int .i64 0) (.slice da 0 dc) (.slice ka 0 kc)
  have HO := hide oA
  have hdp : ¬ (deep : Int) > 12 := by omega
  have hdp2 : (deep : Int) ≤ 12 := by omega
  have HTg := hide (fun W => tagOk_any t W)
  rw [ht] at HTg
  clear oA ht hdeep
  go_enter Tryd.func33, Tryd.ntmps33
  go_wp2_with fail
  refine (unhide HTg _).mono ?_
  rintro e w1 ⟨rfl, hw1⟩
  subst hw1
  go_wp2
  go_ret2
  exact ⟨⟨1, by omega, rfl, by simp⟩, unhide HO⟩

set_option maxHeartbeats 2000000 in
set_option maxRecDepth 100000 in
theorem right_4_x (t n : Int) (da : Option Addr) (d : List UInt8) (dc : Nat) (ka : Option Addr) (ks : List It) (kc deep : Nat) (w : World) (hdeep : deep ≤ 12) (ht : tagB t = true) (hdl : d.length ≤ 140737488355328) (hkl : ks.length ≤ 140737488355328) (hk : ks.length = 0) (hn : n = 0) (hd : 0 < d.length) (hm : ¬ d.length % 8 = 0) :
    Calls Tryd.prog 33 #[.agg #[.int .i64 t, .int .i64 4, .int .i64 n, .slice da d.length dc, .slice ka ks.length kc], .int .i64 deep] w fun e w' => RightAs w false 1 e w' := by
  have hd2 : (0 : Int) < d.length := by omega
  have hm2 : ((d.length : Int).tmod 8 == 0) = false := by rw [Int.tmod_eq_emod_of_nonneg (by omega), beq_eq_false_iff_ne]; omega
  have hm3 : ((d.length : Int) % 8 == 0) = false := by rw [beq_eq_false_iff_ne]; omega
  rw [hk]
  subst hn
  clear hm
  obtain ⟨⟨c0, c1, c2, c3, c4⟩, oA⟩ := boxed w (.int .i64 t) (.int .i64 4) (.int .i64 0) (.slice da d.length dc) (.slice ka 0 kc)
  have HO := hide oA
  have hdp : ¬ (deep : Int) > 12 := by omega
  have hdp2 : (deep : Int) ≤ 12 := by omega
  have HTg := hide (fun W => tagOk_any t W)
  rw [ht] at HTg
  clear oA ht hdeep
  go_enter Tryd.func33, Tryd.ntmps33
  go_wp2_with fail
  refine (unhide HTg _).mono ?_
  rintro e w1 ⟨rfl, hw1⟩
  subst hw1
  go_wp2
  go_ret2
  exact ⟨⟨1, by omega, rfl, by simp⟩, unhide HO⟩

set_option maxHeartbeats 2000000 in
set_option maxRecDepth 100000 in
theorem right_4_ok (t n : Int) (da : Option Addr) (d : List UInt8) (dc : Nat) (ka : Option Addr) (ks : List It) (kc deep : Nat) (w : World) (hdeep : deep ≤ 12) (ht : tagB t = true) (hdl : d.length ≤ 140737488355328) (hkl : ks.length ≤ 140737488355328) (hk : ks.length = 0) (hn : n = 0) (hd : 0 < d.length) (hm : d.length % 8 = 0) :
    Calls Tryd.prog 33 #[.agg #[.int .i64 t, .int .i64 4, .int .i64 n, .slice da d.length dc, .slice ka ks.length kc], .int .i64 deep] w fun e w' => RightAs w true 1 e w' := by
  have hd2 : (0 : Int) < d.length := by omega
  have hm2 : ((d.length : Int).tmod 8 == 0) = true := by rw [Int.tmod_eq_emod_of_nonneg (by omega), beq_iff_eq]; omega
  have hm3 : ((d.length : Int) % 8 == 0) = true := by rw [beq_iff_eq]; omega
  rw [hk]
  subst hn
  clear hm
  obtain ⟨⟨c0, c1, c2, c3, c4⟩, oA⟩ := boxed w (.int .i64 t) (.int .i64 4) (.int .i64 0) (.slice da d.length dc) (.slice ka 0 kc)
  have HO := hide oA
  have hdp : ¬ (deep : Int) > 12 := by omega
  have hdp2 : (deep : Int) ≤ 12 := by omega
  have HTg := hide (fun W => tagOk_any t W)
  rw [ht] at HTg
  clear oA ht hdeep
  go_enter Tryd.func33, Tryd.ntmps33
  go_wp2_with fail
  refine (unhide HTg _).mono ?_
  rintro e w1 ⟨rfl, hw1⟩
  subst hw1
  go_wp2
  go_ret2
  exact ⟨⟨1, by omega, rfl, fun _ => rfl⟩, unhide HO⟩

end Tt
end Go.Proofs.YtedmfjnmclbkpaaDoor
