/-
  locksmithhand's Few.
-/
import Derived.Test.YtdmcnblnoiahcaaHandPick
namespace Go.Proofs.Ytdmcnblnoiahcaa
open Go.RowKit
set_option linter.unusedSimpArgs false
set_option linter.unusedVariables false

set_option maxRecDepth 100000 in
theorem few_any (xv : Value) (us : List UInt8) (n : Nat) (w : World) (hx : Has w xv us) (hr : us.length ≤ 140737488355328 ∨ n ≤ 140737488355328) :
    Calls Try.prog 28 #[xv, .int .i64 n] w fun e w' => ∃ u, e = .returned u ∧ Owns w.heap.size w' u (us.take n) ∧ Only (fun _ => False) w w' := by
  obtain ⟨i0, hi, hz0, hz1, hz2⟩ := info_parts Try.info5
  obtain ⟨xo, xc, hxv, hlc, hm⟩ := hx.shape
  subst hxv
  have key : ∀ k, k ≤ us.length → us.take n = us.take k → ∃ fs, fs.length = k ∧ Hid (us.take n = fs) ∧ Has (w.alloc (.cells #[] 5)) (.slice xo k xc) fs := fun k hk he =>
    ⟨us.take k, by simp; omega, he, (hx.front hk).only ((Only.refl (fun _ => False) w).alloc (.cells #[] 5)) (fun _ _ _ h => h)⟩
  have hown : (w.alloc (.cells #[] 5)).ownsRow w.heap.size 5 1 (.slice (some ⟨w.heap.size, 0, none⟩) 0 0) 0 [] := World.ownsRow_lit w #[] 0 (Nat.le_refl _) (Nat.zero_le _) rfl
  by_cases hle : n < us.length
  · obtain ⟨fs, hlen, HF, hhas⟩ := key n (by omega) rfl
    have hkc : (n : Int) ≤ xc := by omega
    clear key hx
    go_enter Try.func28, Try.ntmps28
    go_wp2_with (at_builtin; refine wpList_append_has rfl (.tmp 5) (.tmp 11) 22 rfl w.heap.size 5 i0 Try.underlying22 hi hz0 hz1 hz2 _ 0 [] rfl hown _ fs rfl hhas (by omega) (by simp) ?_; intro ao2 cap2 w2 own2 gr2 at2)
    go_ret
    refine ⟨.slice ao2 n cap2, rfl, ?_, ((Only.refl _ _).alloc _).grown gr2 (fun k hk hl => by have hk2 : some w.heap.size = some k := hk; simp at hk2; omega)⟩
    rw [HF.out]
    unfold Owns
    simpa [hlen] using own2
  · obtain ⟨fs, hlen, HF, hhas⟩ := key us.length (Nat.le_refl _) (by rw [List.take_of_length_le (by omega), List.take_of_length_le (by omega)])
    have hkc : (us.length : Int) ≤ xc := by omega
    clear key hx
    go_enter Try.func28, Try.ntmps28
    go_wp2_with (at_builtin; refine wpList_append_has rfl (.tmp 5) (.tmp 11) 22 rfl w.heap.size 5 i0 Try.underlying22 hi hz0 hz1 hz2 _ 0 [] rfl hown _ fs rfl hhas (by omega) (by simp) ?_; intro ao2 cap2 w2 own2 gr2 at2)
    go_ret
    refine ⟨.slice ao2 us.length cap2, rfl, ?_, ((Only.refl _ _).alloc _).grown gr2 (fun k hk hl => by have hk2 : some w.heap.size = some k := hk; simp at hk2; omega)⟩
    rw [HF.out]
    unfold Owns
    simpa [hlen] using own2

end Go.Proofs.Ytdmcnblnoiahcaa
