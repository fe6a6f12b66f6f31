/-
  The calls of a Reader over its number: package octet.
-/
import Derived.Test.YtlcnckmbimmpjaaDoorRdO
namespace Go.Proofs.YtlcnckmbimmpjaaDoor
open Go.RowKit
set_option linter.unusedSimpArgs false
set_option linter.unusedVariables false
namespace RO

theorem u8_any (b : Nat) (v : Value) (lack : Bool) (rest : List UInt8) (w : World) (h : Rdr 110 w b v lack rest) (hr : rest.length ≤ 140737488355328) :
    Calls Tryd.prog 69 #[.pointer (some ⟨b, 0, none⟩)] w fun e w' => e = .returned (.int .i64 (de (rdBytes lack rest 1))) ∧ ∃ v', ReadTo 110 w b v w' v' (rdLack lack rest 1) (rdRest lack rest 1) := by
  have HW := hide (number_any b v lack rest 1 w h (by decide) (by decide) )
  have hb := de_rd lack rest 1 256 (by decide)
  go_enter Tryd.func69, Tryd.ntmps69
  go_wp2_with fail
  refine (unhide HW).mono ?_
  rintro e w1 ⟨rfl, v', hrd⟩
  have HRD := hide hrd
  clear hrd HW
  have hb' : de (rdBytes lack rest (1 : Nat)) < 256 := hb
  generalize hd : de (rdBytes lack rest (1 : Nat)) = d at *
  have HD := hide hd
  clear hd hb
  go_wp2
  go_ret
  have e1 : d = de (rdBytes lack rest 1) := (unhide HD).symm
  rw [← e1]
  exact ⟨rfl, v', unhide HRD⟩

theorem u16_any (b : Nat) (v : Value) (lack : Bool) (rest : List UInt8) (w : World) (h : Rdr 110 w b v lack rest) (hr : rest.length ≤ 140737488355328) :
    Calls Tryd.prog 100 #[.pointer (some ⟨b, 0, none⟩)] w fun e w' => e = .returned (.int .i64 (de (rdBytes lack rest 2))) ∧ ∃ v', ReadTo 110 w b v w' v' (rdLack lack rest 2) (rdRest lack rest 2) := by
  have HW := hide (number_any b v lack rest 2 w h (by decide) (by decide) )
  have hb := de_rd lack rest 2 65536 (by decide)
  go_enter Tryd.func100, Tryd.ntmps100
  go_wp2_with fail
  refine (unhide HW).mono ?_
  rintro e w1 ⟨rfl, v', hrd⟩
  have HRD := hide hrd
  clear hrd HW
  have hb' : de (rdBytes lack rest (2 : Nat)) < 65536 := hb
  generalize hd : de (rdBytes lack rest (2 : Nat)) = d at *
  have HD := hide hd
  clear hd hb
  go_wp2
  go_ret
  have e1 : d = de (rdBytes lack rest 2) := (unhide HD).symm
  rw [← e1]
  exact ⟨rfl, v', unhide HRD⟩

theorem u32_any (b : Nat) (v : Value) (lack : Bool) (rest : List UInt8) (w : World) (h : Rdr 110 w b v lack rest) (hr : rest.length ≤ 140737488355328) :
    Calls Tryd.prog 70 #[.pointer (some ⟨b, 0, none⟩)] w fun e w' => e = .returned (.int .i64 (de (rdBytes lack rest 4))) ∧ ∃ v', ReadTo 110 w b v w' v' (rdLack lack rest 4) (rdRest lack rest 4) := by
  have HW := hide (number_any b v lack rest 4 w h (by decide) (by decide) )
  have hb := de_rd lack rest 4 4294967296 (by decide)
  go_enter Tryd.func70, Tryd.ntmps70
  go_wp2_with fail
  refine (unhide HW).mono ?_
  rintro e w1 ⟨rfl, v', hrd⟩
  have HRD := hide hrd
  clear hrd HW
  have hb' : de (rdBytes lack rest (4 : Nat)) < 4294967296 := hb
  generalize hd : de (rdBytes lack rest (4 : Nat)) = d at *
  have HD := hide hd
  clear hd hb
  go_wp2
  go_ret
  have e1 : d = de (rdBytes lack rest 4) := (unhide HD).symm
  rw [← e1]
  exact ⟨rfl, v', unhide HRD⟩

theorem u64_any (b : Nat) (v : Value) (lack : Bool) (rest : List UInt8) (w : World) (h : Rdr 110 w b v lack rest) (hr : rest.length ≤ 140737488355328) :
    Calls Tryd.prog 101 #[.pointer (some ⟨b, 0, none⟩)] w fun e w' => e = .returned (.int .u64 (de (rdBytes lack rest 8))) ∧ ∃ v', ReadTo 110 w b v w' v' (rdLack lack rest 8) (rdRest lack rest 8) := by
  have HW := hide (number_any b v lack rest 8 w h (by decide) (by decide) )
  go_enter Tryd.func101, Tryd.ntmps101
  go_wp2_with fail
  refine (unhide HW).mono ?_
  rintro e w1 ⟨rfl, v', hrd⟩
  have HRD := hide hrd
  clear hrd HW
  go_wp2
  go_ret
  exact ⟨rfl, v', unhide HRD⟩

theorem short_any (b : Nat) (v : Value) (lack : Bool) (rest : List UInt8) (w : World) (h : Rdr 110 w b v lack rest) (hr : rest.length ≤ 140737488355328) :
    Calls Tryd.prog 71 #[.pointer (some ⟨b, 0, none⟩)] w fun e w' => ∃ u, e = .returned u ∧ Owns w.heap.size w' u (shBytes lack rest) ∧ ∃ v', ReadTo 110 w b v w' v' (shLack lack rest) (shRest lack rest) := by
  have HW := hide (u16_any b v lack rest w h hr)
  go_enter Tryd.func71, Tryd.ntmps71
  go_wp2_with fail
  refine (unhide HW).mono ?_
  rintro e w1 ⟨rfl, v1, hrd⟩
  have HW2 := hide (raw_any b v1 _ _ (de (rdBytes lack rest 2)) w1 hrd.now (Nat.le_trans (rdRest_le _ _ _) hr))
  have HRD := hide hrd
  clear hrd HW
  go_wp2_with fail
  refine (unhide HW2).mono ?_
  rintro e w2 ⟨u, rfl, own, v2, hrd2⟩
  have R := (unhide HRD).trans hrd2
  have O : Owns w.heap.size w2 u (shBytes lack rest) := ownsRow_base own (unhide HRD).only.size
  have HO := hide O
  have HR := hide R
  clear R O own hrd2 HW2
  go_wp2
  go_ret
  exact ⟨u, rfl, unhide HO, v2, unhide HR⟩

end RO
end Go.Proofs.YtlcnckmbimmpjaaDoor
