/-
  The calls of a Writer that lie over its number: package octet.
-/
import Derived.Test.YtlcnckmbimmpjaaDoorNumO
namespace Go.Proofs.YtlcnckmbimmpjaaDoor
open Go.RowKit
set_option linter.unusedSimpArgs false
set_option linter.unusedVariables false

namespace WO

theorem conv_u64 (n : Int) : (toU64 n : Int) = IntKind.u64.wrap n := by unfold toU64; rw [IntKind.wrap_u64]; omega

theorem u64_lt (n : Int) : toU64 n < 18446744073709551616 := by unfold toU64; rw [IntKind.wrap_u64]; omega

theorem u8_any (b : Nat) (v : Value) (bs : List UInt8) (n : Int) (w : World) (h : WrAt 99 w b v bs) (hr : bs.length + 9 ≤ 140737488355328) :
    Calls Tryd.prog 56 #[.pointer (some ⟨b, 0, none⟩), .int .i64 n] w fun e w' => e = .returned (.tuple #[]) ∧ ∃ v', Wrote 99 w b v w' v' (bs ++ be 1 (toU64 n)) := by
  have hw := number_any b v bs (toU64 n) 1 w (u64_lt n) (by decide) h hr
  rw [conv_u64] at hw
  have HW := hide hw
  clear hw
  go_enter Tryd.func56, Tryd.ntmps56
  go_wp2_with fail
  refine (unhide HW).mono ?_
  rintro e w' ⟨rfl, v', hv⟩
  go_wp2
  go_end0
  exact ⟨rfl, v', hv⟩

theorem u16_any (b : Nat) (v : Value) (bs : List UInt8) (n : Int) (w : World) (h : WrAt 99 w b v bs) (hr : bs.length + 9 ≤ 140737488355328) :
    Calls Tryd.prog 95 #[.pointer (some ⟨b, 0, none⟩), .int .i64 n] w fun e w' => e = .returned (.tuple #[]) ∧ ∃ v', Wrote 99 w b v w' v' (bs ++ be 2 (toU64 n)) := by
  have hw := number_any b v bs (toU64 n) 2 w (u64_lt n) (by decide) h hr
  rw [conv_u64] at hw
  have HW := hide hw
  clear hw
  go_enter Tryd.func95, Tryd.ntmps95
  go_wp2_with fail
  refine (unhide HW).mono ?_
  rintro e w' ⟨rfl, v', hv⟩
  go_wp2
  go_end0
  exact ⟨rfl, v', hv⟩

theorem u32_any (b : Nat) (v : Value) (bs : List UInt8) (n : Int) (w : World) (h : WrAt 99 w b v bs) (hr : bs.length + 9 ≤ 140737488355328) :
    Calls Tryd.prog 57 #[.pointer (some ⟨b, 0, none⟩), .int .i64 n] w fun e w' => e = .returned (.tuple #[]) ∧ ∃ v', Wrote 99 w b v w' v' (bs ++ be 4 (toU64 n)) := by
  have hw := number_any b v bs (toU64 n) 4 w (u64_lt n) (by decide) h hr
  rw [conv_u64] at hw
  have HW := hide hw
  clear hw
  go_enter Tryd.func57, Tryd.ntmps57
  go_wp2_with fail
  refine (unhide HW).mono ?_
  rintro e w' ⟨rfl, v', hv⟩
  go_wp2
  go_end0
  exact ⟨rfl, v', hv⟩

theorem u64_any (b : Nat) (v : Value) (bs : List UInt8) (n : Nat) (w : World) (hn : n < 18446744073709551616) (h : WrAt 99 w b v bs) (hr : bs.length + 9 ≤ 140737488355328) :
    Calls Tryd.prog 97 #[.pointer (some ⟨b, 0, none⟩), .int .u64 n] w fun e w' => e = .returned (.tuple #[]) ∧ ∃ v', Wrote 99 w b v w' v' (bs ++ be 8 n) := by
  have HW := hide (number_any b v bs n 8 w hn (by decide) h hr)
  go_enter Tryd.func97, Tryd.ntmps97
  go_wp2_with fail
  refine (unhide HW).mono ?_
  rintro e w' ⟨rfl, v', hv⟩
  go_wp2
  go_end0
  exact ⟨rfl, v', hv⟩

theorem raw_any (b : Nat) (v : Value) (bs : List UInt8) (xv : Value) (us : List UInt8) (w : World) (hx : Has w xv us) (h : WrAt 99 w b v bs) (hr : bs.length + us.length ≤ 140737488355328) :
    Calls Tryd.prog 96 #[.pointer (some ⟨b, 0, none⟩), xv] w fun e w' => e = .returned (.tuple #[]) ∧ ∃ v', Wrote 99 w b v w' v' (bs ++ us) := by
  have hc : w.cell? ⟨b, 0, none⟩ = some v := cell_of_one h.blk
  have hone := ownsRow_one h.own
  obtain ⟨xo, xc, rfl, _⟩ := hx.shape
  go_enter Tryd.func96, Tryd.ntmps96
  go_wp2_with (at_builtin; refine wpList_push rfl (.tmp 8) (.tmp 9) rfl 99 b v bs _ us (by decide) rfl rfl hx h hr ?_; intro ao2 cap2 w2 hc2 hf2 hb2 own2 gr2 at2)
  go_end0
  exact ⟨rfl, _, h.stored (by decide) hb2.out own2 gr2 at2⟩

/-- the length and the bytes -/
def short (us : List UInt8) : List UInt8 := be 2 (toU64 us.length) ++ us

theorem short_yes (b : Nat) (v : Value) (bs : List UInt8) (xv : Value) (us : List UInt8) (w : World) (hx : Has w xv us) (h : WrAt 99 w b v bs) (hr : bs.length + us.length + 9 ≤ 140737488355328)
    (hl : us.length ≤ 65535) (hsep : us ≠ [] → ∀ k, blk xv = some k → k ≠ b ∧ v.ownBlock ≠ some k) :
    Calls Tryd.prog 58 #[.pointer (some ⟨b, 0, none⟩), xv] w fun e w' => e = .returned (.bool true) ∧ ∃ v', Wrote 99 w b v w' v' (bs ++ short us) := by
  obtain ⟨xo, xc, rfl, _⟩ := hx.shape
  have HW := hide (u16_any b v bs us.length w h (by omega))
  have hl' : ¬ (65535 : Int) < us.length := by omega
  go_enter Tryd.func58, Tryd.ntmps58
  go_wp2_with fail
  refine (unhide HW).mono ?_
  rintro e w1 ⟨rfl, v1, hv1⟩
  have hx1 := hx.only hv1.only (fun hne k hk e => by have := hsep hne k hk; rcases e with e | e; exact this.1 e; exact this.2 e)
  have HW2 := hide (raw_any b v1 _ _ us w1 hx1 hv1.now (by simp [be_length]; omega))
  go_wp2_with fail
  refine (unhide HW2).mono ?_
  rintro e w2 ⟨rfl, v2, hv2⟩
  have R := hv1.trans hv2
  rw [List.append_assoc] at R
  go_wp2
  go_ret
  exact ⟨rfl, v2, R⟩

theorem short_no (b : Nat) (xv : Value) (us : List UInt8) (w : World) (hx : Has w xv us) (hl : 65535 < us.length) :
    Calls Tryd.prog 58 #[.pointer (some ⟨b, 0, none⟩), xv] w fun e w' => e = .returned (.bool false) ∧ w' = w := by
  obtain ⟨xo, xc, rfl, _⟩ := hx.shape
  have hl' : (65535 : Int) < us.length := by omega
  go_enter Tryd.func58, Tryd.ntmps58
  go_wp2
  go_ret
  exact ⟨rfl, rfl⟩

end WO
end Go.Proofs.YtlcnckmbimmpjaaDoor
