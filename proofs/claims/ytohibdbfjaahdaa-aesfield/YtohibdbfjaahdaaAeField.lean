/-
  The field's law.
-/
import Derived.Test.YtohibdbfjaahdaaAeF
namespace Go.Proofs.Ytohibdbfjaahdaa
open Go.RowKit
set_option linter.unusedSimpArgs false
set_option linter.unusedVariables false
namespace Ae

theorem eq_self (x : UInt8) : (((x.toNat : Int)) == (x.toNat : Int)) = true := by simp

set_option maxHeartbeats 4000000 in
/-- 8.1: whatever a, b, c -/
theorem field_any (a b c : UInt8) (w : World) :
    Calls Try.prog 4 #[.int .u8 (a.toNat : Int), .int .u8 (b.toNat : Int), .int .u8 (c.toNat : Int)] w fun e w' => e = .returned (.bool true) ∧ w' = w := by
  have kn := hide (known_any w)
  have h1 := hide (times_any a b w)
  have h2 := hide (rtimes_any a b w)
  have h3 := hide (box_any a w)
  have h4 := hide (rbox_any a w)
  have h5 := hide (unbox_any (box a) w)
  have h6 := hide (unbox_any b w)
  have h7 := hide (box_any (unbox b) w)
  have h8 := hide (times_any b a w)
  have h9 := hide (times_any b c w)
  have h10 := hide (times_any a (mul b c) w)
  have h11 := hide (times_any (mul a b) c w)
  have h12 := hide (times_any a (b ^^^ c) w)
  have h13 := hide (times_any a c w)
  have h14 := hide (times_any a 1 w)
  rw [unbox_box] at h5
  rw [box_unbox] at h7
  rw [mul_comm b a] at h8
  rw [← mul_assoc] at h11
  rw [mul_xor] at h12
  rw [mul_one] at h14
  have hx := xor_bv b c
  have hy := xor_bv (mul a b) (mul a c)
  have h14' : Hid (Calls Try.prog 11 #[.int .u8 (a.toNat : Int), .int .u8 1] w fun e w' => e = .returned (.int .u8 (a.toNat : Int)) ∧ w' = w) := h14
  clear h14
  generalize mul a (mul b c) = abc at *
  generalize mul a b ^^^ mul a c = abac at *
  generalize mul a b = ab at *
  generalize mul b c = bc at *
  generalize mul a c = ac at *
  generalize b ^^^ c = bxc at *
  generalize unbox b = ub at *
  generalize box a = ba at *
  go_enter Try.func4, Try.ntmps4
  go_wp2_with (first
    | (go_at_call 8; with_reducible refine (unhide kn).mono ?_; rintro e w1 ⟨rfl, rfl⟩)
    | (go_at_call 12; with_reducible refine (unhide h2).mono ?_; rintro e w1 ⟨rfl, rfl⟩)
    | (go_at_call 14; with_reducible refine (unhide h4).mono ?_; rintro e w1 ⟨rfl, rfl⟩)
    | (go_at_call 13; with_reducible refine (unhide h3).mono ?_; rintro e w1 ⟨rfl, rfl⟩)
    | (go_at_call 13; with_reducible refine (unhide h7).mono ?_; rintro e w1 ⟨rfl, rfl⟩)
    | (go_at_call 15; with_reducible refine (unhide h5).mono ?_; rintro e w1 ⟨rfl, rfl⟩)
    | (go_at_call 15; with_reducible refine (unhide h6).mono ?_; rintro e w1 ⟨rfl, rfl⟩)
    | (go_at_call 11; with_reducible refine (unhide h1).mono ?_; rintro e w1 ⟨rfl, rfl⟩)
    | (go_at_call 11; with_reducible refine (unhide h8).mono ?_; rintro e w1 ⟨rfl, rfl⟩)
    | (go_at_call 11; with_reducible refine (unhide h9).mono ?_; rintro e w1 ⟨rfl, rfl⟩)
    | (go_at_call 11; with_reducible refine (unhide h10).mono ?_; rintro e w1 ⟨rfl, rfl⟩)
    | (go_at_call 11; with_reducible refine (unhide h11).mono ?_; rintro e w1 ⟨rfl, rfl⟩)
    | (go_at_call 11; with_reducible refine (unhide h12).mono ?_; rintro e w1 ⟨rfl, rfl⟩)
    | (go_at_call 11; with_reducible refine (unhide h13).mono ?_; rintro e w1 ⟨rfl, rfl⟩)
    | (go_at_call 11; with_reducible refine (unhide h14').mono ?_; rintro e w1 ⟨rfl, rfl⟩))
  go_ret
  exact ⟨rfl, rfl⟩

end Ae
end Go.Proofs.Ytohibdbfjaahdaa
