/-
  octet's fresh, Bytes, Len, NewWriter.
-/
import Derived.Test.YtlcnckmbimmpjaaDoorWr
namespace Go.Proofs.YtlcnckmbimmpjaaDoor
open Go.RowKit
set_option linter.unusedSimpArgs false
set_option linter.unusedVariables false

theorem fresh_any (xv : Value) (us : List UInt8) (w : World) (hx : Has w xv us) (hr : us.length ≤ 281474976710656) :
    Calls Tryd.prog 67 #[xv] w fun e w' => ∃ v, e = .returned v ∧ Made w w' v us := by
  obtain ⟨i0, hi, hz0, hz1, hz2⟩ := info_parts Tryd.info5
  obtain ⟨xo, xc, hxv, _⟩ := hx.shape
  subst hxv
  go_enter Tryd.func67, Tryd.ntmps67
  go_wp2_with (first
    | (at_make; refine wpList_make_full _ rfl (.tmp 5) (.tmp 5) 22 rfl w.heap.size 5 i0 (.int .u8 0) 1 Tryd.underlying22 hi hz0 hz1 .i64 .i64 us.length us.length us.length rfl rfl rfl rfl (by rw [hz2]; omega) (by unfold maxLen; omega) (Nat.le_refl _) ?_; intro w1 own1 gr1; have ho1 : Only (fun _ => False) w w1 := (Only.refl _ _).grown gr1 (fun k h => by cases h))
    | (refine wpList_copy_has rfl (.tmp 7) (.tmp 8) 22 rfl w.heap.size 5 Tryd.underlying22 Tryd.size5 w.heap.size us.length rfl _ us rfl (hx.only ho1 (fun _ _ _ h => h)) rfl _ own1 ?_; intro w2 own2 gr2))
  go_ret
  exact ⟨_, rfl, rfl, own2, ho1.grown gr2 (fun k hk hl => by simp at hk; omega)⟩

theorem bytes_any (b : Nat) (v : Value) (bs : List UInt8) (w : World) (h : WrAt 99 w b v bs) (hr : bs.length ≤ 281474976710656) :
    Calls Tryd.prog 26 #[.pointer (some ⟨b, 0, none⟩)] w fun e w' => ∃ u, e = .returned u ∧ Made w w' u bs := by
  have hc : w.cell? ⟨b, 0, none⟩ = some v := cell_of_one h.blk
  have hone := ownsRow_one h.own
  have HW := hide (fresh_any v bs w (Has.ofOwns h.own) hr)
  go_enter Tryd.func26, Tryd.ntmps26
  go_wp2_with fail
  refine (unhide HW).mono ?_
  rintro e w' ⟨u, rfl, hu⟩
  go_wp2
  go_ret
  exact ⟨_, rfl, hu⟩

theorem newWriter_any (w : World) :
    Calls Tryd.prog 24 #[] w fun e w' => e = .returned (.pointer (some ⟨w.heap.size, 0, none⟩)) ∧ WrAt 99 w' w.heap.size (.slice none 0 0) [] ∧ Only (fun _ => False) w w' := by
  go_enter Tryd.func24, Tryd.ntmps24
  go_wp2
  go_ret
  exact ⟨rfl, ⟨heap_alloc_new _ _, World.ownsRow_nil _ _ _ _⟩, (Only.refl _ _).alloc _⟩

end Go.Proofs.YtlcnckmbimmpjaaDoor
