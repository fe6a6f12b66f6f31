/-
  locksmithref8: New, whatever the key; block, xor.
-/
import Derived.Test.YtbhidmeobeecmaaAeRN16
import Derived.Test.YtbhidmeobeecmaaAeRN24
import Derived.Test.YtbhidmeobeecmaaAeRN32
import Derived.Test.YtbhidmeobeecmaaAeROpen
import Derived.Test.YtbhidmeobeecmaaMdFine
import Derived.Test.YtbhidmeobeecmaaMdSome
import Derived.Test.YtbhidmeobeecmaaHeldL
namespace Go.Proofs.Ytbhidmeobeecmaa
open Go.RowKit
set_option linter.unusedSimpArgs false
set_option linter.unusedVariables false
namespace Md
open Ae (zero16 Arr ag_one range_only after exec_load_mid step_store_mid RCip added added_length added_at mixd mixd_zero mixd_all mixd_at mixd_set gt gt_some xor_bv done13 rseal_any ropen_any rnew_16 rnew_24 rnew_32 two)

theorem rnew_fine (key : List UInt8) (h : keyB key) (v : Value) (w : World) (hx : Has w v key) :
    Calls Try.prog 39 #[v] w fun e w' => ∃ cb, e = .returned (.tuple #[.pointer (some ⟨cb, 0, none⟩), .bool true]) ∧ RCip w' cb (mOf key) (kbOf key) ∧ Only (fun _ => False) w w' := by
  obtain ⟨b, o, cap, rfl⟩ := key_shape hx (keyB_pos h)
  unfold mOf kbOf
  rcases h with h | h | h <;> rw [h] at hx ⊢
  · exact rnew_16 b o cap key h w hx
  · exact rnew_24 b o cap key h w hx
  · exact rnew_32 b o cap key h w hx

set_option maxRecDepth 100000 in
set_option maxHeartbeats 1000000 in
theorem rnew_bad (ao : Option Addr) (l cap : Nat) (h1 : l ≠ 16) (h2 : l ≠ 24) (h3 : l ≠ 32) (w : World) :
    Calls Try.prog 39 #[.slice ao l cap] w fun e w' => e = .returned (.tuple #[.pointer none, .bool false]) ∧ w' = w := by
  have h1' : ((l : Int) == 16) = false := by simp; omega
  have h2' : ((l : Int) == 24) = false := by simp; omega
  have h3' : ((l : Int) == 32) = false := by simp; omega
  have g1 : ((l : Int) != 16) = true := by simp; omega
  have g2 : ((l : Int) != 24) = true := by simp; omega
  have g3 : ((l : Int) != 32) = true := by simp; omega
  go_enter Try.func39, Try.ntmps39
  go_wp2
  go_ret2
  exact ⟨rfl, rfl⟩
theorem rnew_not (key : List UInt8) (h : ¬ keyB key) (v : Value) (w : World) (hx : Has w v key) :
    Calls Try.prog 39 #[v] w fun e w' => e = .returned (.tuple #[.pointer none, .bool false]) ∧ w' = w := by
  obtain ⟨ao, cap, rfl, _⟩ := hx.shape
  exact rnew_bad ao key.length cap (fun e => h (Or.inl e)) (fun e => h (Or.inr (Or.inl e))) (fun e => h (Or.inr (Or.inr e))) w

theorem racts_seal (key : List UInt8) (h : keyB key) {w : World} {cb : Nat} (hc : RCip w cb (mOf key) (kbOf key)) : Acts w 41 cb (sealF key) := fun s W hs ho =>
  rseal_any cb (mOf key) (kbOf key) s hs (by unfold mOf; omega) (by unfold mOf; rcases h with h | h | h <;> omega) W (hc.new ho)
theorem racts_open (key : List UInt8) (h : keyB key) {w : World} {cb : Nat} (hc : RCip w cb (mOf key) (kbOf key)) : Acts w 43 cb (openF key) := fun s W hs ho =>
  ropen_any cb (mOf key) (kbOf key) s hs (by unfold mOf; omega) (by unfold mOf; rcases h with h | h | h <;> omega) W (hc.new ho)

end Md
end Go.Proofs.Ytbhidmeobeecmaa
