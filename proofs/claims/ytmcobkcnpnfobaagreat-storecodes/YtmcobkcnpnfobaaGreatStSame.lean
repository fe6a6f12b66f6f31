/-
  locksmithlaw5's same, where both are the same changes.
-/
import Derived.Test.YtmcobkcnpnfobaaGreatStText
import Derived.Test.YtmcobkcnpnfobaaGreatStr
import Derived.Test.YtmcobkcnpnfobaaGreatWalAt
import Derived.Deep.QuietTactic
import Derived.BigQuiet
namespace Go.Proofs.YtmcobkcnpnfobaaGreat
open Go.RowKit
set_option linter.unusedSimpArgs false
set_option linter.unusedVariables false

namespace St

set_option maxHeartbeats 2000000 in
set_option maxRecDepth 100000 in
theorem same_any {Q R : Nat → Prop} {w : World} {av bv : Value} {cs : List Chg} (ha : HasC Q w av cs) (hb : HasC R w bv cs) (hcs : cs.length ≤ 140737488355328) :
    Calls Tryz.prog 12 #[av, bv] w fun e w' => e = .returned (.bool true) ∧ Only (fun _ => False) w w' := by
  have HA := hide ha
  have HB := hide hb
  obtain ⟨ao, ac, hav, hal, ham⟩ := ha.shape
  obtain ⟨bo, bc, hbv, hbl, hbm⟩ := hb.shape
  subst hav
  subst hbv
  clear ha hb
  obtain ⟨n, hn⟩ : ∃ n, n = cs.length := ⟨_, rfl⟩
  have HN := hide hn
  rw [← hn] at HA HB hal hbl hcs ⊢
  clear hn
  go_enter Tryz.func12, Tryz.ntmps12
  go_wp2
  go_loopw [5] (fun i wr => ∃ k : Nat, k ≤ n ∧ i = .int .i64 k ∧ Only (fun _ => False) w wr) (fun i _ => n - (intOf i).toNat)
  case atStart => exact ⟨0, Nat.zero_le _, rfl, Only.refl _ _⟩
  case round =>
    obtain ⟨k, hk, rfl, ho⟩ := hrel
    have HO := hide ho
    clear ho
    by_cases hlt : k < n
    · have hku : k < cs.length := by have := unhide HN; omega
      have hlt' : (k : Int) < n := by omega
      obtain ⟨ab, aoff, x, hao, a0, a1, a2, hxh, _⟩ := ((unhide HA).same (unhide HO)).at k hku
      obtain ⟨bb, boff, y, hbo, b0, b1, b2, hyh, _⟩ := ((unhide HB).same (unhide HO)).at k hku
      subst hao
      subst hbo
      have hcx : ∀ q, (convert 24 9 x).run Tryz.prog (wr.drewN q) = .ok (.string (str cs[k].value)) (wr.drewN q) := fun q => str_conv (hxh.only (Only.drews q) (fun _ _ _ e => e))
      have hcy : ∀ q, (convert 24 9 y).run Tryz.prog (wr.drewN q) = .ok (.string (str cs[k].value)) (wr.drewN q) := fun q => str_conv (hyh.only (Only.drews q) (fun _ _ _ e => e))
      obtain ⟨xo, xc, hxs, _⟩ := hxh.shape
      obtain ⟨yo, yc, hys, _⟩ := hyh.shape
      generalize cs[k].key = key at *
      generalize cs[k].has = has at *
      generalize cs[k].value = val at *
      subst hxs
      subst hys
      clear hxh hyh
      go_wp2
      go_quiet (fail)
      go_wp2
      go_roundw
      case rel => exact ⟨k + 1, by omega, by go_num, (unhide HO).trans (Only.drews _) (fun _ _ e => e)⟩
      case measure => simp [intOf]; omega
    · obtain rfl : n = k := by omega
      go_wp2
      go_ret
      exact ⟨rfl, unhide HO⟩
end St
end Go.Proofs.YtmcobkcnpnfobaaGreat
