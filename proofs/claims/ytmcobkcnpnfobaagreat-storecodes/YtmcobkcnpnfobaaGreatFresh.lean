/-
  octet's fresh, Bytes, Len, NewWriter.
-/
import Derived.Test.YtmcobkcnpnfobaaGreatWr
namespace Go.Proofs.YtmcobkcnpnfobaaGreat
open Go.RowKit
set_option linter.unusedSimpArgs false
set_option linter.unusedVariables false

theorem fresh_any (xv : Value) (us : List UInt8) (w : World) (hx : Has w xv us) (hr : us.length ≤ 281474976710656) :
    Calls Tryz.prog 38 #[xv] w fun e w' => ∃ v, e = .returned v ∧ Made w w' v us := by
  obtain ⟨i0, hi, hz0, hz1, hz2⟩ := info_parts Tryz.info5
  obtain ⟨xo, xc, hxv, _⟩ := hx.shape
  subst hxv
  go_enter Tryz.func38, Tryz.ntmps38
  go_wp2_with (first
    | (at_make; refine wpList_make_full _ rfl (.tmp 5) (.tmp 5) 24 rfl w.heap.size 5 i0 (.int .u8 0) 1 Tryz.underlying24 hi hz0 hz1 .i64 .i64 us.length us.length us.length rfl rfl rfl rfl (by rw [hz2]; omega) (by unfold maxLen; omega) (Nat.le_refl _) ?_; intro w1 own1 gr1; have ho1 : Only (fun _ => False) w w1 := (Only.refl _ _).grown gr1 (fun k h => by cases h))
    | (refine wpList_copy_has rfl (.tmp 7) (.tmp 8) 24 rfl w.heap.size 5 Tryz.underlying24 Tryz.size5 w.heap.size us.length rfl _ us rfl (hx.only ho1 (fun _ _ _ h => h)) rfl _ own1 ?_; intro w2 own2 gr2))
  go_ret
  exact ⟨_, rfl, rfl, own2, ho1.grown gr2 (fun k hk hl => by simp at hk; omega)⟩

theorem bytes_any (b : Nat) (v : Value) (bs : List UInt8) (w : World) (h : WrAt 73 w b v bs) (hr : bs.length ≤ 281474976710656) :
    Calls Tryz.prog 18 #[.pointer (some ⟨b, 0, none⟩)] w fun e w' => ∃ u, e = .returned u ∧ Made w w' u bs := by
  have hc : w.cell? ⟨b, 0, none⟩ = some v := cell_of_one h.blk
  have hone := ownsRow_one h.own
  have HW := hide (fresh_any v bs w (Has.ofOwns h.own) hr)
  go_enter Tryz.func18, Tryz.ntmps18
  go_wp2_with fail
  refine (unhide HW).mono ?_
  rintro e w' ⟨u, rfl, hu⟩
  go_wp2
  go_ret
  exact ⟨_, rfl, hu⟩

theorem len_any (b : Nat) (v : Value) (bs : List UInt8) (w : World) (h : WrAt 73 w b v bs) :
    Calls Tryz.prog 84 #[.pointer (some ⟨b, 0, none⟩)] w fun e w' => e = .returned (.int .i64 bs.length) ∧ w' = w := by
  obtain ⟨ao, cap, rfl⟩ := ownsRow_shape h.own
  have hc : w.cell? ⟨b, 0, none⟩ = some _ := cell_of_one h.blk
  go_enter Tryz.func84, Tryz.ntmps84
  go_wp2
  go_ret
  exact ⟨rfl, rfl⟩

theorem newWriter_any (w : World) :
    Calls Tryz.prog 14 #[] w fun e w' => e = .returned (.pointer (some ⟨w.heap.size, 0, none⟩)) ∧ WrAt 73 w' w.heap.size (.slice none 0 0) [] ∧ Only (fun _ => False) w w' := by
  go_enter Tryz.func14, Tryz.ntmps14
  go_wp2
  go_ret
  exact ⟨rfl, ⟨heap_alloc_new _ _, World.ownsRow_nil _ _ _ _⟩, (Only.refl _ _).alloc _⟩

end Go.Proofs.YtmcobkcnpnfobaaGreat
