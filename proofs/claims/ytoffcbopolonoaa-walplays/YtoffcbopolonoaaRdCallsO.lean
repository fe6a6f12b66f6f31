/-
  The calls of a Reader over its number: package octet.
-/
import Derived.Test.YtoffcbopolonoaaRdO
namespace Go.Proofs.Ytoffcbopolonoaa
open Go.RowKit
set_option linter.unusedSimpArgs false
set_option linter.unusedVariables false
namespace RO

theorem u32_any (b : Nat) (v : Value) (lack : Bool) (rest : List UInt8) (w : World) (h : Rdr 126 w b v lack rest) (hr : rest.length ≤ 140737488355328) :
    Calls Try.prog 87 #[.pointer (some ⟨b, 0, none⟩)] w fun e w' => e = .returned (.int .i64 (de (rdBytes lack rest 4))) ∧ ∃ v', ReadTo 126 w b v w' v' (rdLack lack rest 4) (rdRest lack rest 4) := by
  have HW := hide (number_any b v lack rest 4 w h (by decide) (by decide) )
  have hb := de_rd lack rest 4 4294967296 (by decide)
  go_enter Try.func87, Try.ntmps87
  go_wp2_with fail
  refine (unhide HW).mono ?_
  rintro e w1 ⟨rfl, v', hrd⟩
  have HRD := hide hrd
  clear hrd HW
  have hb' : de (rdBytes lack rest (4 : Nat)) < 4294967296 := hb
  generalize hd : de (rdBytes lack rest (4 : Nat)) = d at *
  have HD := hide hd
  clear hd hb
  go_wp2
  go_ret
  have e1 : d = de (rdBytes lack rest 4) := (unhide HD).symm
  rw [← e1]
  exact ⟨rfl, v', unhide HRD⟩

theorem u64_any (b : Nat) (v : Value) (lack : Bool) (rest : List UInt8) (w : World) (h : Rdr 126 w b v lack rest) (hr : rest.length ≤ 140737488355328) :
    Calls Try.prog 86 #[.pointer (some ⟨b, 0, none⟩)] w fun e w' => e = .returned (.int .u64 (de (rdBytes lack rest 8))) ∧ ∃ v', ReadTo 126 w b v w' v' (rdLack lack rest 8) (rdRest lack rest 8) := by
  have HW := hide (number_any b v lack rest 8 w h (by decide) (by decide) )
  go_enter Try.func86, Try.ntmps86
  go_wp2_with fail
  refine (unhide HW).mono ?_
  rintro e w1 ⟨rfl, v', hrd⟩
  have HRD := hide hrd
  clear hrd HW
  go_wp2
  go_ret
  exact ⟨rfl, v', unhide HRD⟩

end RO
end Go.Proofs.Ytoffcbopolonoaa
