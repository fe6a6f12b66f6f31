/-
  The state's calls: mixed, unmixed.
-/
import Derived.Test.YtdmcnblnoiahcaaAeS2
namespace Go.Proofs.Ytdmcnblnoiahcaa
open Go.RowKit
set_option linter.unusedSimpArgs false
set_option linter.unusedVariables false
namespace Ae

def mixed (s : List UInt8) : List UInt8 := times s [2, 3, 1, 1]
def unmixed (s : List UInt8) : List UInt8 := times s [14, 11, 13, 9]

set_option maxRecDepth 100000 in
theorem mixed_any (s : List UInt8) (w : World) (hs : s.length = 16) :
    Calls Try.prog 59 #[.agg (s.map bv).toArray] w fun e w' => e = .returned (.agg ((mixed s).map bv).toArray) ∧ Only (fun _ => False) w w' := by
  have hal : (mixed s).length = 16 := times_length s [2, 3, 1, 1]
  have HT : Hid (∀ W : World, Calls Try.prog 73 #[.agg (s.map bv).toArray, .agg #[.int .u8 2, .int .u8 3, .int .u8 1, .int .u8 1]] W fun e w' => e = .returned (.agg ((mixed s).map bv).toArray) ∧ Only (fun _ => False) W w') := fun W => times_st_any s [2, 3, 1, 1] W hs rfl
  generalize hl : mixed s = l at *
  have HLE := hide hl
  clear hl
  obtain ⟨w3, b1, b3, e3, eb3, eb1, a1, a3, o3, n13, hb⟩ := two w s zero16 64 64
  go_enter Try.func59, Try.ntmps59
  go_upto_region 1 with fail
  rw [zeros_eq, ← e3, ← eb3, ← eb1]
  clear e3 eb3 eb1
  have hr := a1.range
  have A3 := hide a3
  have O3 := hide o3
  have HB := hide hb
  clear a1 a3 o3 hb
  go_wp2_with (refine wpList_load_mid rfl 64 (.tmp 1) rfl b1 0 rfl (s.map bv) _ hr Try.underSt rfl (by rw [Try.sizeState]; simp [hs]) ?_)
  refine (unhide HT w3).mono ?_
  rintro e w4 ⟨rfl, o4⟩
  have HA3 := hide ((unhide A3).only o4 (fun e => e))
  have ht3 := (unhide HA3).there 16 rfl
  have O4 := hide o4
  clear o4
  go_wp2_with (refine wpList_store_mid rfl 64 (.tmp 2) (.tmp 5) rfl b3 0 (l.map bv).toArray rfl rfl (by simpa [hal] using ht3) (by rw [Try.sizeState]; simp [hal]) (ag_one _) ?_)
  refine bodyPost_ret (results_cell_row rfl _ _ b3 64 _ _ _ rfl ((unhide HA3).stored _ (by rw [hal]; rfl)).out Try.underSt rfl (by rw [Try.sizeState]; simp [hal])) rfl ?_
  exact ⟨by rw [← unhide HLE], done13 (b1 := b3) (unhide O3) ((unhide O4).mono (fun _ _ e => e.elim)) (fun j hj => ⟨((unhide HB) j hj).2, ((unhide HB) j hj).2⟩)⟩

set_option maxRecDepth 100000 in
theorem unmixed_any (s : List UInt8) (w : World) (hs : s.length = 16) :
    Calls Try.prog 64 #[.agg (s.map bv).toArray] w fun e w' => e = .returned (.agg ((unmixed s).map bv).toArray) ∧ Only (fun _ => False) w w' := by
  have hal : (unmixed s).length = 16 := times_length s [14, 11, 13, 9]
  have HT : Hid (∀ W : World, Calls Try.prog 73 #[.agg (s.map bv).toArray, .agg #[.int .u8 14, .int .u8 11, .int .u8 13, .int .u8 9]] W fun e w' => e = .returned (.agg ((unmixed s).map bv).toArray) ∧ Only (fun _ => False) W w') := fun W => times_st_any s [14, 11, 13, 9] W hs rfl
  generalize hl : unmixed s = l at *
  have HLE := hide hl
  clear hl
  obtain ⟨w3, b1, b3, e3, eb3, eb1, a1, a3, o3, n13, hb⟩ := two w s zero16 64 64
  go_enter Try.func64, Try.ntmps64
  go_upto_region 1 with fail
  rw [zeros_eq, ← e3, ← eb3, ← eb1]
  clear e3 eb3 eb1
  have hr := a1.range
  have A3 := hide a3
  have O3 := hide o3
  have HB := hide hb
  clear a1 a3 o3 hb
  go_wp2_with (refine wpList_load_mid rfl 64 (.tmp 1) rfl b1 0 rfl (s.map bv) _ hr Try.underSt rfl (by rw [Try.sizeState]; simp [hs]) ?_)
  refine (unhide HT w3).mono ?_
  rintro e w4 ⟨rfl, o4⟩
  have HA3 := hide ((unhide A3).only o4 (fun e => e))
  have ht3 := (unhide HA3).there 16 rfl
  have O4 := hide o4
  clear o4
  go_wp2_with (refine wpList_store_mid rfl 64 (.tmp 2) (.tmp 5) rfl b3 0 (l.map bv).toArray rfl rfl (by simpa [hal] using ht3) (by rw [Try.sizeState]; simp [hal]) (ag_one _) ?_)
  refine bodyPost_ret (results_cell_row rfl _ _ b3 64 _ _ _ rfl ((unhide HA3).stored _ (by rw [hal]; rfl)).out Try.underSt rfl (by rw [Try.sizeState]; simp [hal])) rfl ?_
  exact ⟨by rw [← unhide HLE], done13 (b1 := b3) (unhide O3) ((unhide O4).mono (fun _ _ e => e.elim)) (fun j hj => ⟨((unhide HB) j hj).2, ((unhide HB) j hj).2⟩)⟩

end Ae
end Go.Proofs.Ytdmcnblnoiahcaa
