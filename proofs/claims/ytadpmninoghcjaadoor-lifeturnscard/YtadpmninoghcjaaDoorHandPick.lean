/-
  locksmithhand's Pick.
-/
import Derived.Test.YtadpmninoghcjaaDoorMem
namespace Go.Proofs.YtadpmninoghcjaaDoor
open Go.RowKit
set_option linter.unusedSimpArgs false
set_option linter.unusedVariables false

theorem emod_tmod (n m : Int) (hm : 0 < m) : n % m = if n.tmod m < 0 then n.tmod m + m else n.tmod m := by
  have h1 := Int.emod_nonneg n (by omega : m ≠ 0)
  have h2 := Int.emod_lt_of_pos n hm
  rw [Int.tmod_eq_emod]
  split <;> split <;> omega

set_option maxRecDepth 100000 in
theorem pick_any (n m : Int) (w : World) (h0 : 0 < m) (hm : m ≤ 4611686018427387904) :
    Calls Tryd.prog 16 #[.int .i64 n, .int .i64 m] w fun e w' => e = .returned (.int .i64 (n % m)) ∧ w' = w := by
  have he := emod_tmod n m h0
  have hb : -m ≤ n.tmod m ∧ n.tmod m < m := by
    have k1 := Int.emod_nonneg n (by omega : m ≠ 0)
    have k2 := Int.emod_lt_of_pos n h0
    rw [he] at k1 k2
    by_cases hh : n.tmod m < 0
    · rw [if_pos hh] at k1 k2; omega
    · rw [if_neg hh] at k1 k2; omega
  obtain ⟨h2, h1⟩ := hb
  have hne : ¬ m = 0 := by omega
  have hz : (m == 0) = false := by simp [hne]
  by_cases hneg : n.tmod m < 0
  · rw [if_pos hneg] at he
    have HE := hide he
    clear he
    go_enter Tryd.func16, Tryd.ntmps16
    go_wp2
    go_ret
    rw [unhide HE]
    exact ⟨rfl, rfl⟩
  · rw [if_neg hneg] at he
    have HE := hide he
    clear he
    go_enter Tryd.func16, Tryd.ntmps16
    go_wp2
    go_ret
    rw [unhide HE]
    exact ⟨rfl, rfl⟩

end Go.Proofs.YtadpmninoghcjaaDoor
