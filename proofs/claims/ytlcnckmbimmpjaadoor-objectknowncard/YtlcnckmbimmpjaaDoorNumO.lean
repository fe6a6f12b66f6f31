/-
  The Writer's number: package octet.
-/
import Derived.Test.YtlcnckmbimmpjaaDoorWr
namespace Go.Proofs.YtlcnckmbimmpjaaDoor
open Go.RowKit
set_option linter.unusedSimpArgs false
set_option linter.unusedVariables false

namespace WO

set_option maxHeartbeats 400000 in
theorem number_any (b : Nat) (v : Value) (bs : List UInt8) (n : Nat) (width : Nat) (w : World) (hn : n < 18446744073709551616) (hw8 : width ≤ 8)
    (h : WrAt 99 w b v bs) (hr : bs.length + 9 ≤ 140737488355328) :
    Calls Tryd.prog 94 #[.pointer (some ⟨b, 0, none⟩), .int .u64 n, .int .i64 width] w fun e w' => e = .returned (.tuple #[]) ∧ ∃ v', Wrote 99 w b v w' v' (bs ++ be width n) := by
  go_enter Tryd.func94, Tryd.ntmps94
  go_wp2
  go_loopg [6] width (fun k p wr => k ≤ width ∧ p = .int .i64 ((k : Int) - 1) ∧ ∃ v', Wrote 99 w b v wr v' (bs ++ (be width n).take (width - k)))
  case atStart => exact ⟨Nat.le_refl _, rfl, v, by simpa using h.wrote⟩
  case round =>
    obtain ⟨hk, rfl, v', hwrt⟩ := hrel
    by_cases hlt : 0 < gk
    · obtain ⟨m, rfl⟩ : ∃ m, gk = m + 1 := ⟨gk - 1, by omega⟩
      have hlen : (bs ++ (be width n).take (width - (m + 1))).length ≤ bs.length + 8 := by simp [be_length]; omega
      obtain ⟨ys, hys⟩ : ∃ ys, ys = bs ++ (be width n).take (width - (m + 1)) := ⟨_, rfl⟩
      rw [← hys] at hwrt hlen
      obtain ⟨q, hq⟩ : ∃ q, q = n / 2 ^ (8 * m) := ⟨_, rfl⟩
      have hend : ys ++ [UInt8.ofNat q] = bs ++ (be width n).take (width - m) := by
        rw [hys, hq, show width - m = width - (m + 1) + 1 by omega, be_take _ _ _ (by omega), show width - 1 - (width - (m + 1)) = m by omega, List.append_assoc]
      have Hend : Hid (ys ++ [UInt8.ofNat q] = bs ++ (be width n).take (width - m)) := hend
      have hsh := shr_be n m (by omega)
      rw [← hq] at hsh
      clear hq hend hys
      have hwr := hwrt.now
      have hc : wr.cell? ⟨b, 0, none⟩ = some v' := cell_of_one hwr.blk
      have hca : ∀ o, (wr.alloc o).cell? ⟨b, 0, none⟩ = some v' := fun o => by rw [World.cell?_alloc_past _ _ _ (Array.getElem?_eq_some_iff.1 hwr.blk).1]; exact hc
      have hone := ownsRow_one hwr.own
      go_wp2
      go_region_law (refine step_push rfl (.tmp 17) (.tmp 23) rfl 99 b v' ys (.slice (some ⟨wr.heap.size, 0, none⟩) 1 1) [UInt8.ofNat q] (by decide) (by simp [Act.eval, Act.put]) (by simp [Act.eval, Act.put]) (has_one (by simp [bv_wrap])) (hwr.push rfl) (by simp; omega) ?_; intro ao2 cap2 w2 hc2 hf2 hb2 own2 gr2 at2)
      all_goals go_wp2
      all_goals
        have R := (hwrt.trans (hwr.pushed _ rfl)).trans ((hwr.push rfl).stored (by decide) hb2.out own2 gr2 at2)
        rw [Hend.out] at R
        go_roundg m
        case measure => omega
        case rel => exact ⟨by omega, rfl, _, R⟩
    · obtain rfl : gk = 0 := by omega
      go_wp2
      go_end0
      refine ⟨rfl, v', ?_⟩
      rwa [Nat.sub_zero, List.take_of_length_le (by rw [be_length]; exact Nat.le_refl _)] at hwrt

end WO
end Go.Proofs.YtlcnckmbimmpjaaDoor
