/-
  The calls of a Writer that lie over its number: package locksmithref1.
-/
import Derived.Test.YtedmfjnmclbkpaaDoorNumR
namespace Go.Proofs.YtedmfjnmclbkpaaDoor
open Go.RowKit
set_option linter.unusedSimpArgs false
set_option linter.unusedVariables false

namespace WR

theorem conv_u64 (n : Int) : (toU64 n : Int) = IntKind.u64.wrap n := by unfold toU64; rw [IntKind.wrap_u64]; omega

theorem u64_lt (n : Int) : toU64 n < 18446744073709551616 := by unfold toU64; rw [IntKind.wrap_u64]; omega

theorem u8_any (b : Nat) (v : Value) (bs : List UInt8) (n : Int) (w : World) (h : WrAt 66 w b v bs) (hr : bs.length + 9 ≤ 140737488355328) :
    Calls Tryd.prog 62 #[.pointer (some ⟨b, 0, none⟩), .int .i64 n] w fun e w' => e = .returned (.tuple #[]) ∧ ∃ v', Wrote 66 w b v w' v' (bs ++ be 1 (toU64 n)) := by
  have hw := number_any b v bs (toU64 n) 1 w (u64_lt n) (by decide) h hr
  rw [conv_u64] at hw
  have HW := hide hw
  clear hw
  go_enter Tryd.func62, Tryd.ntmps62
  go_wp2_with fail
  refine (unhide HW).mono ?_
  rintro e w' ⟨rfl, v', hv⟩
  go_wp2
  go_end0
  exact ⟨rfl, v', hv⟩

theorem u16_any (b : Nat) (v : Value) (bs : List UInt8) (n : Int) (w : World) (h : WrAt 66 w b v bs) (hr : bs.length + 9 ≤ 140737488355328) :
    Calls Tryd.prog 63 #[.pointer (some ⟨b, 0, none⟩), .int .i64 n] w fun e w' => e = .returned (.tuple #[]) ∧ ∃ v', Wrote 66 w b v w' v' (bs ++ be 2 (toU64 n)) := by
  have hw := number_any b v bs (toU64 n) 2 w (u64_lt n) (by decide) h hr
  rw [conv_u64] at hw
  have HW := hide hw
  clear hw
  go_enter Tryd.func63, Tryd.ntmps63
  go_wp2_with fail
  refine (unhide HW).mono ?_
  rintro e w' ⟨rfl, v', hv⟩
  go_wp2
  go_end0
  exact ⟨rfl, v', hv⟩

theorem u32_any (b : Nat) (v : Value) (bs : List UInt8) (n : Int) (w : World) (h : WrAt 66 w b v bs) (hr : bs.length + 9 ≤ 140737488355328) :
    Calls Tryd.prog 64 #[.pointer (some ⟨b, 0, none⟩), .int .i64 n] w fun e w' => e = .returned (.tuple #[]) ∧ ∃ v', Wrote 66 w b v w' v' (bs ++ be 4 (toU64 n)) := by
  have hw := number_any b v bs (toU64 n) 4 w (u64_lt n) (by decide) h hr
  rw [conv_u64] at hw
  have HW := hide hw
  clear hw
  go_enter Tryd.func64, Tryd.ntmps64
  go_wp2_with fail
  refine (unhide HW).mono ?_
  rintro e w' ⟨rfl, v', hv⟩
  go_wp2
  go_end0
  exact ⟨rfl, v', hv⟩

theorem u64_any (b : Nat) (v : Value) (bs : List UInt8) (n : Nat) (w : World) (hn : n < 18446744073709551616) (h : WrAt 66 w b v bs) (hr : bs.length + 9 ≤ 140737488355328) :
    Calls Tryd.prog 66 #[.pointer (some ⟨b, 0, none⟩), .int .u64 n] w fun e w' => e = .returned (.tuple #[]) ∧ ∃ v', Wrote 66 w b v w' v' (bs ++ be 8 n) := by
  have HW := hide (number_any b v bs n 8 w hn (by decide) h hr)
  go_enter Tryd.func66, Tryd.ntmps66
  go_wp2_with fail
  refine (unhide HW).mono ?_
  rintro e w' ⟨rfl, v', hv⟩
  go_wp2
  go_end0
  exact ⟨rfl, v', hv⟩

theorem raw_any (b : Nat) (v : Value) (bs : List UInt8) (xv : Value) (us : List UInt8) (w : World) (hx : Has w xv us) (h : WrAt 66 w b v bs) (hr : bs.length + us.length ≤ 140737488355328) :
    Calls Tryd.prog 65 #[.pointer (some ⟨b, 0, none⟩), xv] w fun e w' => e = .returned (.tuple #[]) ∧ ∃ v', Wrote 66 w b v w' v' (bs ++ us) := by
  have hc : w.cell? ⟨b, 0, none⟩ = some v := cell_of_one h.blk
  have hone := ownsRow_one h.own
  obtain ⟨xo, xc, rfl, _⟩ := hx.shape
  go_enter Tryd.func65, Tryd.ntmps65
  go_wp2_with (at_builtin; refine wpList_push rfl (.tmp 8) (.tmp 9) rfl 66 b v bs _ us (by decide) rfl rfl hx h hr ?_; intro ao2 cap2 w2 hc2 hf2 hb2 own2 gr2 at2)
  go_end0
  exact ⟨rfl, _, h.stored (by decide) hb2.out own2 gr2 at2⟩

/-- the length and the bytes -/
def short (us : List UInt8) : List UInt8 := be 2 (toU64 us.length) ++ us

end WR
end Go.Proofs.YtedmfjnmclbkpaaDoor
