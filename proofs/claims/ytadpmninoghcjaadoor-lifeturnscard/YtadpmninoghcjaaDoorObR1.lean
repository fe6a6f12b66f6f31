/-
  object: its small questions.
-/
import Derived.Test.YtadpmninoghcjaaDoorObLite
import Derived.Test.YtadpmninoghcjaaDoorStr
import Derived.Test.YtadpmninoghcjaaDoorU8
namespace Go.Proofs.YtadpmninoghcjaaDoor
open Go.RowKit
set_option linter.unusedSimpArgs false
set_option linter.unusedVariables false
namespace Ob

theorem str_size (s : List UInt8) : (str s).size = s.length := by simp [str, ByteArray.size]

theorem msg_any (s : List UInt8) (w : World) (hs : s.length ≤ maxLen) (hT : Tabs w) :
    Calls Tryd.prog 56 #[.string (str s)] w fun e w' => e = .returned (.bool (isMsg s)) ∧ Only (fun _ => False) w w' := by
  have HV := hide (valid_any s w (by unfold maxLen at hs; omega) hT)
  have hz := str_size s
  rw [show (⟨s.toArray⟩ : ByteArray) = str s from rfl] at HV
  have HM : Hid (isMsg s = (decide (s.length ≤ 120) && Lib.validD s)) := rfl
  clear hT hs
  generalize str s = S at *
  generalize s.length = L at *
  generalize Lib.validD s = V at *
  go_enter Tryd.func56, Tryd.ntmps56
  by_cases hL : (L : Int) ≤ 120
  · have HD : Hid (isMsg s = V) := by show _ = _; rw [unhide HM, decide_eq_true (show L ≤ 120 by omega), Bool.true_and]
    go_wp2_with fail
    refine (unhide HV).mono ?_
    rintro e x ⟨rfl, o1⟩
    go_wp2
    go_ret
    exact ⟨by rw [unhide HD]; first | done | rfl, o1⟩
  · have HD : Hid (isMsg s = false) := by show _ = _; rw [unhide HM, decide_eq_false (show ¬ L ≤ 120 by omega), Bool.false_and]
    go_wp2
    go_ret
    exact ⟨by rw [unhide HD]; first | done | rfl, Only.refl _ _⟩

theorem text_any (s : List UInt8) (w : World) (hs : s.length ≤ maxLen) (hT : Tabs w) :
    Calls Tryd.prog 53 #[.string (str s)] w fun e w' => e = .returned (.bool (isText s)) ∧ Only (fun _ => False) w w' := by
  have HV := hide (msg_any s w hs hT)
  have hz := str_size s
  have HM : Hid (isText s = (decide (0 < s.length) && isMsg s)) := rfl
  clear hT hs
  generalize str s = S at *
  generalize s.length = L at *
  generalize isMsg s = V at *
  go_enter Tryd.func53, Tryd.ntmps53
  by_cases hL : 0 < (L : Int)
  · have hL2 : 0 < L := by omega
    have HD : Hid (isText s = V) := by show _ = _; rw [unhide HM, decide_eq_true (show 0 < L by omega), Bool.true_and]
    go_wp2_with fail
    refine (unhide HV).mono ?_
    rintro e x ⟨rfl, o1⟩
    go_wp2
    go_ret
    exact ⟨by rw [unhide HD]; first | done | rfl, o1⟩
  · have hL2 : L = 0 := by omega
    have HD : Hid (isText s = false) := by show _ = _; rw [unhide HM, decide_eq_false (show ¬ 0 < L by omega), Bool.false_and]
    go_wp2
    go_ret
    exact ⟨by rw [unhide HD]; first | done | rfl, Only.refl _ _⟩

theorem pre_take (s : List UInt8) : (str s).extract 0 2 = str (s.take 2) := by
  apply ByteArray.ext
  simp [str, ByteArray.data_extract]

/-- a date's value -/
def dval (d : Bool × Int) : Value := .agg #[.bool d.1, .int .i64 d.2]
def kval (k : Int × List UInt8) : Value := .agg #[.int .i64 k.1, .string (str k.2)]
def cval (c : List UInt8 × List UInt8) : Value := .agg #[.string (str c.1), .string (str c.2)]

end Ob
end Go.Proofs.YtadpmninoghcjaaDoor
