/-
  locksmithhand's Pick and Few.
-/
import Derived.Test.YtghcdfdcphmkcaaMem
namespace Go.Proofs.Ytghcdfdcphmkcaa
open Go.RowKit
set_option linter.unusedSimpArgs false
set_option linter.unusedVariables false

theorem emod_tmod (n m : Int) (hm : 0 < m) : n % m = if n.tmod m < 0 then n.tmod m + m else n.tmod m := by
  have h1 := Int.emod_nonneg n (by omega : m ≠ 0)
  have h2 := Int.emod_lt_of_pos n hm
  rw [Int.tmod_eq_emod]
  split <;> split <;> omega

theorem pick_any (n m : Int) (w : World) (h0 : 0 < m) (hm : m ≤ 4611686018427387904) :
    Calls Try.prog 11 #[.int .i64 n, .int .i64 m] w fun e w' => e = .returned (.int .i64 (n % m)) ∧ w' = w := by
  have he := emod_tmod n m h0
  have hb : -m ≤ n.tmod m ∧ n.tmod m < m := by
    have k1 := Int.emod_nonneg n (by omega : m ≠ 0)
    have k2 := Int.emod_lt_of_pos n h0
    rw [he] at k1 k2
    by_cases hh : n.tmod m < 0
    · rw [if_pos hh] at k1 k2; omega
    · rw [if_neg hh] at k1 k2; omega
  obtain ⟨h2, h1⟩ := hb
  have hne : ¬ m = 0 := by omega
  have hz : (m == 0) = false := by simp [hne]
  by_cases hneg : n.tmod m < 0
  · rw [if_pos hneg] at he
    have HE := hide he
    clear he
    go_enter Try.func11, Try.ntmps11
    go_wp2
    go_ret
    rw [unhide HE]
    exact ⟨rfl, rfl⟩
  · rw [if_neg hneg] at he
    have HE := hide he
    clear he
    go_enter Try.func11, Try.ntmps11
    go_wp2
    go_ret
    rw [unhide HE]
    exact ⟨rfl, rfl⟩

theorem few_any (xv : Value) (us : List UInt8) (n : Nat) (w : World) (hx : Has w xv us) (hr : us.length ≤ 140737488355328 ∨ n ≤ 140737488355328) :
    Calls Try.prog 14 #[xv, .int .i64 n] w fun e w' => ∃ u, e = .returned u ∧ Owns w.heap.size w' u (us.take n) ∧ Only (fun _ => False) w w' := by
  obtain ⟨i0, hi, hz0, hz1, hz2⟩ := info_parts Try.info5
  obtain ⟨xo, xc, hxv, hlc, hm⟩ := hx.shape
  subst hxv
  have key : ∀ k, k ≤ us.length → us.take n = us.take k → ∃ fs, fs.length = k ∧ Hid (us.take n = fs) ∧ Has (w.alloc (.cells #[] 5)) (.slice xo k xc) fs := fun k hk he =>
    ⟨us.take k, by simp; omega, he, (hx.front hk).only ((Only.refl (fun _ => False) w).alloc (.cells #[] 5)) (fun _ _ _ h => h)⟩
  have hown : (w.alloc (.cells #[] 5)).ownsRow w.heap.size 5 1 (.slice (some ⟨w.heap.size, 0, none⟩) 0 0) 0 [] := World.ownsRow_lit w #[] 0 (Nat.le_refl _) (Nat.zero_le _) rfl
  by_cases hle : n < us.length
  · obtain ⟨fs, hlen, HF, hhas⟩ := key n (by omega) rfl
    have hkc : (n : Int) ≤ xc := by omega
    clear key hx
    go_enter Try.func14, Try.ntmps14
    go_wp2_with (at_builtin; refine wpList_append_has rfl (.tmp 5) (.tmp 11) 25 rfl w.heap.size 5 i0 Try.underlying25 hi hz0 hz1 hz2 _ 0 [] rfl hown _ fs rfl hhas (by omega) (by simp) ?_; intro ao2 cap2 w2 own2 gr2 at2)
    go_ret
    refine ⟨.slice ao2 n cap2, rfl, ?_, ((Only.refl _ _).alloc _).grown gr2 (fun k hk hl => by have hk2 : some w.heap.size = some k := hk; simp at hk2; omega)⟩
    rw [HF.out]
    unfold Owns
    simpa [hlen] using own2
  · obtain ⟨fs, hlen, HF, hhas⟩ := key us.length (Nat.le_refl _) (by rw [List.take_of_length_le (by omega), List.take_of_length_le (by omega)])
    have hkc : (us.length : Int) ≤ xc := by omega
    clear key hx
    go_enter Try.func14, Try.ntmps14
    go_wp2_with (at_builtin; refine wpList_append_has rfl (.tmp 5) (.tmp 11) 25 rfl w.heap.size 5 i0 Try.underlying25 hi hz0 hz1 hz2 _ 0 [] rfl hown _ fs rfl hhas (by omega) (by simp) ?_; intro ao2 cap2 w2 own2 gr2 at2)
    go_ret
    refine ⟨.slice ao2 us.length cap2, rfl, ?_, ((Only.refl _ _).alloc _).grown gr2 (fun k hk hl => by have hk2 : some w.heap.size = some k := hk; simp at hk2; omega)⟩
    rw [HF.out]
    unfold Owns
    simpa [hlen] using own2

end Go.Proofs.Ytghcdfdcphmkcaa
