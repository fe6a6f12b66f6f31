/-
  object: its small questions.
-/
import Derived.Test.YtlcnckmbimmpjaaDoorObMem
import Derived.Test.YtlcnckmbimmpjaaDoorStr
import Derived.Test.YtlcnckmbimmpjaaDoorU8
namespace Go.Proofs.YtlcnckmbimmpjaaDoor
open Go.RowKit
set_option linter.unusedSimpArgs false
set_option linter.unusedVariables false
namespace Ob

theorem within_any (n lo hi : Int) (w : World) :
    Calls Tryd.prog 85 #[.int .i64 n, .int .i64 lo, .int .i64 hi] w fun e w' => e = .returned (.bool (within n lo hi)) ∧ w' = w := by
  go_enter Tryd.func85, Tryd.ntmps85
  go_wp2
  all_goals (go_ret; refine ⟨?_, rfl⟩; unfold within; first | (simp_all; done) | (simp_all; omega))

theorem within64_any (n lo hi : Int) (w : World) :
    Calls Tryd.prog 92 #[.int .i64 n, .int .i64 lo, .int .i64 hi] w fun e w' => e = .returned (.bool (within n lo hi)) ∧ w' = w := by
  go_enter Tryd.func92, Tryd.ntmps92
  go_wp2
  all_goals (go_ret; refine ⟨?_, rfl⟩; unfold within; first | (simp_all; done) | (simp_all; omega))

theorem typ_any (n : Int) (w : World) :
    Calls Tryd.prog 84 #[.int .i64 n] w fun e w' => e = .returned (.bool (typB n)) ∧ w' = w := by
  go_enter Tryd.func84, Tryd.ntmps84
  go_wp2
  all_goals (go_ret; refine ⟨?_, rfl⟩; unfold typB; simp_all)

theorem str_size (s : List UInt8) : (str s).size = s.length := by simp [str, ByteArray.size]

theorem msg_any (s : List UInt8) (w : World) (hs : s.length ≤ maxLen) (hT : Tabs w) :
    Calls Tryd.prog 30 #[.string (str s)] w fun e w' => e = .returned (.bool (isMsg s)) ∧ Only (fun _ => False) w w' := by
  have HV := hide (valid_any s w (by unfold maxLen at hs; omega) hT)
  have hz := str_size s
  rw [show (⟨s.toArray⟩ : ByteArray) = str s from rfl] at HV
  have HM : Hid (isMsg s = (decide (s.length ≤ 120) && Lib.validD s)) := rfl
  clear hT hs
  generalize str s = S at *
  generalize s.length = L at *
  generalize Lib.validD s = V at *
  go_enter Tryd.func30, Tryd.ntmps30
  by_cases hL : (L : Int) ≤ 120
  · have HD : Hid (isMsg s = V) := by show _ = _; rw [unhide HM, decide_eq_true (show L ≤ 120 by omega), Bool.true_and]
    go_wp2_with fail
    refine (unhide HV).mono ?_
    rintro e x ⟨rfl, o1⟩
    go_wp2
    go_ret
    exact ⟨by rw [unhide HD]; first | done | rfl, o1⟩
  · have HD : Hid (isMsg s = false) := by show _ = _; rw [unhide HM, decide_eq_false (show ¬ L ≤ 120 by omega), Bool.false_and]
    go_wp2
    go_ret
    exact ⟨by rw [unhide HD]; first | done | rfl, Only.refl _ _⟩

theorem text_any (s : List UInt8) (w : World) (hs : s.length ≤ maxLen) (hT : Tabs w) :
    Calls Tryd.prog 11 #[.string (str s)] w fun e w' => e = .returned (.bool (isText s)) ∧ Only (fun _ => False) w w' := by
  have HV := hide (msg_any s w hs hT)
  have hz := str_size s
  have HM : Hid (isText s = (decide (0 < s.length) && isMsg s)) := rfl
  clear hT hs
  generalize str s = S at *
  generalize s.length = L at *
  generalize isMsg s = V at *
  go_enter Tryd.func11, Tryd.ntmps11
  by_cases hL : 0 < (L : Int)
  · have hL2 : 0 < L := by omega
    have HD : Hid (isText s = V) := by show _ = _; rw [unhide HM, decide_eq_true (show 0 < L by omega), Bool.true_and]
    go_wp2_with fail
    refine (unhide HV).mono ?_
    rintro e x ⟨rfl, o1⟩
    go_wp2
    go_ret
    exact ⟨by rw [unhide HD]; first | done | rfl, o1⟩
  · have hL2 : L = 0 := by omega
    have HD : Hid (isText s = false) := by show _ = _; rw [unhide HM, decide_eq_false (show ¬ 0 < L by omega), Bool.false_and]
    go_wp2
    go_ret
    exact ⟨by rw [unhide HD]; first | done | rfl, Only.refl _ _⟩

theorem pre_take (s : List UInt8) : (str s).extract 0 2 = str (s.take 2) := by
  apply ByteArray.ext
  simp [str, ByteArray.data_extract]

theorem prefix_any (s : List UInt8) (w : World) :
    Calls Tryd.prog 80 #[.string (str s), .string (str [120, 45])] w fun e w' => e = .returned (.bool (decide (s.take 2 = [120, 45]))) ∧ w' = w := by
  have hz := str_size s
  have hz2 : (str [120, 45]).size = 2 := str_size [120, 45]
  have hp := pre_take s
  have hb := str_beq (s.take 2) [120, 45]
  have HM : s.length < 2 → Hid (decide (s.take 2 = [120, 45]) = false) := by
    intro h
    show _ = _
    rw [decide_eq_false_iff_not]
    intro e
    have := congrArg List.length e
    simp at this
    omega
  go_enter Tryd.func80, Tryd.ntmps80
  generalize str s = S at *
  generalize str (s.take 2) = T at *
  generalize str [120, 45] = X at *
  generalize decide (s.take 2 = [120, 45]) = V at *
  by_cases hL : 2 ≤ s.length
  · have hL2 : (2 : Int) ≤ (s.length : Int) := by omega
    clear HM
    generalize s.length = L at *
    go_wp2
    go_ret
    exact ⟨rfl, rfl⟩
  · have hL2 : (s.length : Int) < (2 : Int) := by omega
    have HD := HM (by omega)
    clear HM
    generalize s.length = L at *
    go_wp2
    go_ret
    exact ⟨by rw [unhide HD]; first | done | rfl, rfl⟩

theorem sprefix_any (s : List UInt8) (X : ByteArray) (hX : X = str [120, 45]) (w : World) :
    Calls Tryd.prog 31 #[.string (str s), .string X] w fun e w' => e = .returned (.bool (decide (s.take 2 = [120, 45]))) ∧ w' = w := by
  subst hX
  have HV := hide (prefix_any s w)
  generalize str s = S at *
  generalize str [120, 45] = X at *
  generalize decide (s.take 2 = [120, 45]) = V at *
  go_enter Tryd.func31, Tryd.ntmps31
  go_wp2_with fail
  refine (unhide HV).mono ?_
  rintro e x ⟨rfl, rfl⟩
  go_wp2
  go_ret
  exact ⟨rfl, rfl⟩

theorem cust_any (s : List UInt8) (w : World) (hs : s.length ≤ maxLen) (hT : Tabs w) :
    Calls Tryd.prog 12 #[.string (str s)] w fun e w' => e = .returned (.bool (isCust s)) ∧ Only (fun _ => False) w w' := by
  have HV := hide (text_any s w hs hT)
  have HP := fun W => hide (sprefix_any s ⟨#[120, 45]⟩ rfl W)
  have HM : Hid (isCust s = (isText s && decide (s.take 2 = [120, 45]))) := rfl
  clear hT hs
  generalize str s = S at *
  generalize decide (s.take 2 = [120, 45]) = V at *
  go_enter Tryd.func12, Tryd.ntmps12
  cases hb : isText s with
  | true =>
    rw [hb] at HV HM
    clear hb
    go_wp2_with (first
      | (refine (unhide HV).mono ?_; rintro e x ⟨rfl, o1⟩)
      | (refine (unhide (HP _)).mono ?_; rintro e x ⟨rfl, hx⟩))
    go_ret
    subst hx
    exact ⟨by rw [unhide HM, Bool.true_and]; first | done | rfl, o1⟩
  | false =>
    rw [hb] at HV HM
    clear hb
    go_wp2_with fail
    refine (unhide HV).mono ?_
    rintro e x ⟨rfl, o1⟩
    go_wp2
    go_ret
    exact ⟨by rw [unhide HM, Bool.false_and]; first | done | rfl, o1⟩

/-- a date's value -/
def dval (d : Bool × Int) : Value := .agg #[.bool d.1, .int .i64 d.2]
theorem date_any (d : Bool × Int) (w : World) :
    Calls Tryd.prog 86 #[dval d] w fun e w' => e = .returned (.bool (dateB d)) ∧ Only (fun _ => False) w w' := by
  obtain ⟨b, n⟩ := d
  unfold dval
  obtain ⟨w1, k, e1, ek, hb, o1, hs⟩ := boxed w #[.bool b, .int .i64 n] 27
  have c0 := hb.cell 0 (.bool b) rfl
  have c1 := hb.cell 1 (.int .i64 n) rfl
  have O1 := hide o1
  clear hb hs o1
  cases b
  all_goals
    go_enter Tryd.func86, Tryd.ntmps86
    go_upto_region 1 with fail
    rw [← e1, ← ek]
    clear e1 ek
    go_wp2_with (refine (within64_any _ _ _ _).mono ?_; rintro e x ⟨rfl, hx⟩)
    go_ret
  · refine ⟨?_, unhide O1⟩
    unfold dateB
    simp
    rw [Bool.eq_iff_iff]
    simp
  · exact ⟨rfl, unhide O1⟩

def kval (k : Int × List UInt8) : Value := .agg #[.int .i64 k.1, .string (str k.2)]
def cval (c : List UInt8 × List UInt8) : Value := .agg #[.string (str c.1), .string (str c.2)]

theorem link_any (k : Int × List UInt8) (w : World) (hs : k.2.length ≤ maxLen) (hT : Tabs w) :
    Calls Tryd.prog 89 #[kval k] w fun e w' => e = .returned (.bool (linkB k)) ∧ Only (fun _ => False) w w' := by
  obtain ⟨n, s⟩ := k
  unfold kval
  obtain ⟨w1, b, e1, eb, hb, o1, hz⟩ := boxed w #[.int .i64 n, .string (str s)] 51
  have c0 := hb.cell 0 (.int .i64 n) rfl
  have c1 := hb.cell 1 (.string (str s)) rfl
  have HV := hide (text_any s w1 hs (hT.same o1))
  have HM : Hid (linkB (n, s) = (within n 101 110 && isText s)) := rfl
  have O1 := hide o1
  clear hb hz o1 hT hs
  generalize str s = S at *
  cases hw : within n 101 110 with
  | true =>
    rw [hw] at HM
    have HW := fun W => hide (within_any n 101 110 W)
    rw [hw] at HW
    clear hw
    go_enter Tryd.func89, Tryd.ntmps89
    go_upto_region 1 with fail
    rw [← e1, ← eb]
    clear e1 eb
    go_wp2_with (first
      | (refine (unhide (HW _)).mono ?_; rintro e x ⟨rfl, rfl⟩)
      | (refine (unhide HV).mono ?_; rintro e x ⟨rfl, o2⟩))
    go_ret
    exact ⟨by rw [unhide HM, Bool.true_and]; first | done | rfl, (unhide O1).trans o2 (fun _ _ e => e)⟩
  | false =>
    rw [hw] at HM
    have HW := fun W => hide (within_any n 101 110 W)
    rw [hw] at HW
    clear hw
    go_enter Tryd.func89, Tryd.ntmps89
    go_upto_region 1 with fail
    rw [← e1, ← eb]
    clear e1 eb
    go_wp2_with (refine (unhide (HW _)).mono ?_; rintro e x ⟨rfl, rfl⟩)
    go_ret
    exact ⟨by rw [unhide HM, Bool.false_and]; first | done | rfl, unhide O1⟩

theorem custom_any (k : List UInt8 × List UInt8) (w : World) (hs : k.1.length ≤ maxLen) (hs2 : k.2.length ≤ maxLen) (hT : Tabs w) :
    Calls Tryd.prog 91 #[cval k] w fun e w' => e = .returned (.bool (custB k)) ∧ Only (fun _ => False) w w' := by
  obtain ⟨n, s⟩ := k
  unfold cval
  obtain ⟨w1, b, e1, eb, hb, o1, hz⟩ := boxed w #[.string (str n), .string (str s)] 53
  have c0 := hb.cell 0 (.string (str n)) rfl
  have c1 := hb.cell 1 (.string (str s)) rfl
  have HU := hide (cust_any n w1 hs (hT.same o1))
  have HV := hide (fun W (o : Only (fun _ => False) w1 W) => text_any s W hs2 ((hT.same o1).same o))
  have HM : Hid (custB (n, s) = (isCust n && isText s)) := rfl
  have O1 := hide o1
  clear hb hz o1 hT hs hs2
  generalize str s = S at *
  generalize str n = N at *
  cases hw : isCust n with
  | true =>
    rw [hw] at HM HU
    clear hw
    go_enter Tryd.func91, Tryd.ntmps91
    go_upto_region 1 with fail
    rw [← e1, ← eb]
    clear e1 eb
    go_wp2_with (first
      | (refine (unhide HU).mono ?_; rintro e x ⟨rfl, o2⟩; have d1 := o2.cell c1 (fun e => e); have O2 := hide o2; clear o2)
      | (refine (unhide HV _ (unhide O2)).mono ?_; rintro e x2 ⟨rfl, o3⟩))
    go_ret
    exact ⟨by rw [unhide HM, Bool.true_and]; first | done | rfl, ((unhide O1).trans (unhide O2) (fun _ _ e => e)).trans o3 (fun _ _ e => e)⟩
  | false =>
    rw [hw] at HM HU
    clear hw
    go_enter Tryd.func91, Tryd.ntmps91
    go_upto_region 1 with fail
    rw [← e1, ← eb]
    clear e1 eb
    go_wp2_with (refine (unhide HU).mono ?_; rintro e x ⟨rfl, o2⟩)
    go_ret
    exact ⟨by rw [unhide HM, Bool.false_and]; first | done | rfl, (unhide O1).trans o2 (fun _ _ e => e)⟩
end Ob
end Go.Proofs.YtlcnckmbimmpjaaDoor
