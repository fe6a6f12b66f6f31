/-
  The reference's texts.
-/
import Derived.Test.YtlcnckmbimmpjaaDoorObR1
namespace Go.Proofs.YtlcnckmbimmpjaaDoor
open Go.RowKit
set_option linter.unusedSimpArgs false
set_option linter.unusedVariables false
namespace Ob

theorem xtext_any (s : List UInt8) (w : World) (hs : s.length ≤ maxLen) (hT : Tabs w) :
    Calls Tryd.prog 22 #[.string (str s)] w fun e w' => e = .returned (.bool (isText s)) ∧ Only (fun _ => False) w w' := by
  have HV := hide (valid_any s w (by unfold maxLen at hs; omega) hT)
  have hz := str_size s
  rw [show (⟨s.toArray⟩ : ByteArray) = str s from rfl] at HV
  have HM : Hid (isText s = (decide (0 < s.length) && (decide (s.length ≤ 120) && Lib.validD s))) := rfl
  clear hT hs
  generalize str s = S at *
  generalize s.length = L at *
  generalize Lib.validD s = V at *
  by_cases h1 : 1 ≤ L
  · have h1i : (1 : Int) ≤ (L : Int) := by omega
    by_cases h2 : L ≤ 120
    · have h2i : (L : Int) ≤ 120 := by omega
      have HD : Hid (isText s = V) := by show _ = _; rw [unhide HM, decide_eq_true (show 0 < L by omega), decide_eq_true h2, Bool.true_and, Bool.true_and]
      clear h1 h2
      go_enter Tryd.func22, Tryd.ntmps22
      go_wp2_with (refine (unhide HV).mono ?_; rintro e x ⟨rfl, o1⟩)
      go_ret
      exact ⟨by rw [unhide HD]; first | done | rfl, o1⟩
    · have h2i : (120 : Int) < (L : Int) := by omega
      have HD : Hid (isText s = false) := by show _ = _; rw [unhide HM, decide_eq_false h2, Bool.false_and, Bool.and_false]
      clear h1 h2
      go_enter Tryd.func22, Tryd.ntmps22
      go_wp2
      go_ret
      exact ⟨by rw [unhide HD]; first | done | rfl, Only.refl _ _⟩
  · have h1i : (L : Int) < 1 := by omega
    have HD : Hid (isText s = false) := by show _ = _; rw [unhide HM, decide_eq_false (show ¬ 0 < L by omega), Bool.false_and]
    clear h1
    go_enter Tryd.func22, Tryd.ntmps22
    go_wp2
    go_ret
    exact ⟨by rw [unhide HD]; first | done | rfl, Only.refl _ _⟩

theorem xcust_any (s : List UInt8) (w : World) (hs : s.length ≤ maxLen) (hT : Tabs w) :
    Calls Tryd.prog 23 #[.string (str s)] w fun e w' => e = .returned (.bool (isCust s)) ∧ Only (fun _ => False) w w' := by
  have HV := hide (xtext_any s w hs hT)
  have hz := str_size s
  have hp := pre_take s
  have hb : ((str (s.take 2)).toList == [120, 45]) = decide (s.take 2 = [120, 45]) := by have h := str_beq (s.take 2) [120, 45]; rw [str_toList [120, 45]] at h; exact h
  have HM : Hid (isCust s = (isText s && decide (s.take 2 = [120, 45]))) := rfl
  have HX : s.length < 2 → Hid (decide (s.take 2 = [120, 45]) = false) := by
    intro h
    show _ = _
    rw [decide_eq_false_iff_not]
    intro e
    have := congrArg List.length e
    simp at this
    omega
  clear hT hs
  generalize str s = S at *
  generalize str (s.take 2) = T at *
  generalize decide (s.take 2 = [120, 45]) = V at *
  generalize s.length = L at *
  cases hb : isText s with
  | false =>
    rw [hb] at HV HM
    have HD : Hid (isCust s = false) := by show _ = _; rw [unhide HM, Bool.false_and]
    clear hb HX
    go_enter Tryd.func23, Tryd.ntmps23
    go_wp2_with (refine (unhide HV).mono ?_; rintro e x ⟨rfl, o1⟩)
    go_ret
    exact ⟨by rw [unhide HD]; first | done | rfl, o1⟩
  | true =>
    rw [hb] at HV HM
    by_cases h2 : 2 ≤ L
    · have h2i : (2 : Int) ≤ (L : Int) := by omega
      have HD : Hid (isCust s = V) := by show _ = _; rw [unhide HM, Bool.true_and]
      clear hb HX
      go_enter Tryd.func23, Tryd.ntmps23
      go_wp2_with (refine (unhide HV).mono ?_; rintro e x ⟨rfl, o1⟩)
      go_ret
      exact ⟨by rw [unhide HD]; first | done | rfl, o1⟩
    · have h2i : (L : Int) < (2 : Int) := by omega
      have HD : Hid (isCust s = false) := by show _ = _; rw [unhide HM, unhide (HX (by omega)), Bool.and_false]
      clear hb HX
      go_enter Tryd.func23, Tryd.ntmps23
      go_wp2_with (refine (unhide HV).mono ?_; rintro e x ⟨rfl, o1⟩)
      go_ret
      exact ⟨by rw [unhide HD]; first | done | rfl, o1⟩
end Ob
end Go.Proofs.YtlcnckmbimmpjaaDoor
