/-
  The calls of a Writer that lie over its number: package octet.
-/
import Derived.Test.YtedmfjnmclbkpaaDoorNumO
namespace Go.Proofs.YtedmfjnmclbkpaaDoor
open Go.RowKit
set_option linter.unusedSimpArgs false
set_option linter.unusedVariables false

namespace WO

theorem conv_u64 (n : Int) : (toU64 n : Int) = IntKind.u64.wrap n := by unfold toU64; rw [IntKind.wrap_u64]; omega

theorem u64_lt (n : Int) : toU64 n < 18446744073709551616 := by unfold toU64; rw [IntKind.wrap_u64]; omega

theorem u8_any (b : Nat) (v : Value) (bs : List UInt8) (n : Int) (w : World) (h : WrAt 91 w b v bs) (hr : bs.length + 9 ≤ 140737488355328) :
    Calls Tryd.prog 51 #[.pointer (some ⟨b, 0, none⟩), .int .i64 n] w fun e w' => e = .returned (.tuple #[]) ∧ ∃ v', Wrote 91 w b v w' v' (bs ++ be 1 (toU64 n)) := by
  have hw := number_any b v bs (toU64 n) 1 w (u64_lt n) (by decide) h hr
  rw [conv_u64] at hw
  have HW := hide hw
  clear hw
  go_enter Tryd.func51, Tryd.ntmps51
  go_wp2_with fail
  refine (unhide HW).mono ?_
  rintro e w' ⟨rfl, v', hv⟩
  go_wp2
  go_end0
  exact ⟨rfl, v', hv⟩

theorem u16_any (b : Nat) (v : Value) (bs : List UInt8) (n : Int) (w : World) (h : WrAt 91 w b v bs) (hr : bs.length + 9 ≤ 140737488355328) :
    Calls Tryd.prog 52 #[.pointer (some ⟨b, 0, none⟩), .int .i64 n] w fun e w' => e = .returned (.tuple #[]) ∧ ∃ v', Wrote 91 w b v w' v' (bs ++ be 2 (toU64 n)) := by
  have hw := number_any b v bs (toU64 n) 2 w (u64_lt n) (by decide) h hr
  rw [conv_u64] at hw
  have HW := hide hw
  clear hw
  go_enter Tryd.func52, Tryd.ntmps52
  go_wp2_with fail
  refine (unhide HW).mono ?_
  rintro e w' ⟨rfl, v', hv⟩
  go_wp2
  go_end0
  exact ⟨rfl, v', hv⟩

theorem u32_any (b : Nat) (v : Value) (bs : List UInt8) (n : Int) (w : World) (h : WrAt 91 w b v bs) (hr : bs.length + 9 ≤ 140737488355328) :
    Calls Tryd.prog 53 #[.pointer (some ⟨b, 0, none⟩), .int .i64 n] w fun e w' => e = .returned (.tuple #[]) ∧ ∃ v', Wrote 91 w b v w' v' (bs ++ be 4 (toU64 n)) := by
  have hw := number_any b v bs (toU64 n) 4 w (u64_lt n) (by decide) h hr
  rw [conv_u64] at hw
  have HW := hide hw
  clear hw
  go_enter Tryd.func53, Tryd.ntmps53
  go_wp2_with fail
  refine (unhide HW).mono ?_
  rintro e w' ⟨rfl, v', hv⟩
  go_wp2
  go_end0
  exact ⟨rfl, v', hv⟩

theorem u64_any (b : Nat) (v : Value) (bs : List UInt8) (n : Nat) (w : World) (hn : n < 18446744073709551616) (h : WrAt 91 w b v bs) (hr : bs.length + 9 ≤ 140737488355328) :
    Calls Tryd.prog 87 #[.pointer (some ⟨b, 0, none⟩), .int .u64 n] w fun e w' => e = .returned (.tuple #[]) ∧ ∃ v', Wrote 91 w b v w' v' (bs ++ be 8 n) := by
  have HW := hide (number_any b v bs n 8 w hn (by decide) h hr)
  go_enter Tryd.func87, Tryd.ntmps87
  go_wp2_with fail
  refine (unhide HW).mono ?_
  rintro e w' ⟨rfl, v', hv⟩
  go_wp2
  go_end0
  exact ⟨rfl, v', hv⟩

theorem raw_any (b : Nat) (v : Value) (bs : List UInt8) (xv : Value) (us : List UInt8) (w : World) (hx : Has w xv us) (h : WrAt 91 w b v bs) (hr : bs.length + us.length ≤ 140737488355328) :
    Calls Tryd.prog 58 #[.pointer (some ⟨b, 0, none⟩), xv] w fun e w' => e = .returned (.tuple #[]) ∧ ∃ v', Wrote 91 w b v w' v' (bs ++ us) := by
  have hc : w.cell? ⟨b, 0, none⟩ = some v := cell_of_one h.blk
  have hone := ownsRow_one h.own
  obtain ⟨xo, xc, rfl, _⟩ := hx.shape
  go_enter Tryd.func58, Tryd.ntmps58
  go_wp2_with (at_builtin; refine wpList_push rfl (.tmp 8) (.tmp 9) rfl 91 b v bs _ us (by decide) rfl rfl hx h hr ?_; intro ao2 cap2 w2 hc2 hf2 hb2 own2 gr2 at2)
  go_end0
  exact ⟨rfl, _, h.stored (by decide) hb2.out own2 gr2 at2⟩

/-- the length and the bytes -/
def short (us : List UInt8) : List UInt8 := be 2 (toU64 us.length) ++ us

end WO
end Go.Proofs.YtedmfjnmclbkpaaDoor
