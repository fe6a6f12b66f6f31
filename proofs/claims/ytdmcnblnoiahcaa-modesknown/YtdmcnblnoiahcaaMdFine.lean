/-
  A key's cipher: what seals, what opens; modes.begin's answers in one.
-/
import Derived.Test.YtdmcnblnoiahcaaMdB
import Derived.Test.YtdmcnblnoiahcaaAeSeal
import Derived.Test.YtdmcnblnoiahcaaAeOpen
import Derived.Test.YtdmcnblnoiahcaaAeBackS
namespace Go.Proofs.Ytdmcnblnoiahcaa
open Go.RowKit
set_option linter.unusedSimpArgs false
set_option linter.unusedVariables false
namespace Md
open Ae (zero16 Arr Cip expd expd_length sealT openT sealT_length openT_length seal_any open_any new_any newBad_any MulAs GrowAs)

def keyB (key : List UInt8) : Prop := key.length = 16 ∨ key.length = 24 ∨ key.length = 32
instance (key : List UInt8) : Decidable (keyB key) := by unfold keyB; infer_instance
def mOf (key : List UInt8) : Nat := key.length / 4 + 7
def kbOf (key : List UInt8) : List UInt8 := (expd key.length key (3 * (key.length / 4) + 28)).1
def sealF (key s : List UInt8) : List UInt8 := sealT (kbOf key) (mOf key) s (mOf key)
def openF (key s : List UInt8) : List UInt8 := openT (kbOf key) (mOf key) s (mOf key)

theorem kb_length (key : List UInt8) (h : keyB key) : (kbOf key).length = 16 * mOf key := by
  unfold kbOf mOf
  rw [expd_length key.length key rfl]
  rcases h with h | h | h <;> rw [h]
theorem sealF_length (key : List UInt8) (h : keyB key) (s : List UInt8) (hs : s.length = 16) : (sealF key s).length = 16 := sealT_length _ _ (kb_length key h) s hs _ (Nat.le_refl _)
theorem openF_length (key : List UInt8) (h : keyB key) (s : List UInt8) (hs : s.length = 16) : (openF key s).length = 16 := openT_length _ _ (kb_length key h) s hs _ (Nat.le_refl _)
theorem open_sealF (key : List UInt8) (h : keyB key) (s : List UInt8) (hs : s.length = 16) : openF key (sealF key s) = s := by
  have h2 : 2 ≤ mOf key := by unfold mOf; omega
  have h1 := Ae.open_seal (kbOf key) (mOf key) h2 (kb_length key h) s hs (mOf key) (Nat.le_refl _)
  rw [Nat.sub_self] at h1
  exact h1

theorem key_num (key : List UInt8) (h : keyB key) : mOf key = (mOf key - 2) + 2 ∧ 1 ≤ mOf key - 2 ∧ mOf key - 2 ≤ 20 ∧ MulAs (mOf key - 2) ∧ GrowAs (mOf key) := by
  unfold mOf
  rcases h with h | h | h <;> rw [h]
  · exact ⟨rfl, by decide, by decide, Ae.mul_9, Ae.grow_11⟩
  · exact ⟨rfl, by decide, by decide, Ae.mul_11, Ae.grow_13⟩
  · exact ⟨rfl, by decide, by decide, Ae.mul_13, Ae.grow_15⟩

theorem acts_seal (key : List UInt8) (h : keyB key) {w : World} {cb : Nat} (hc : Cip w cb (mOf key) (kbOf key)) : Acts w 13 cb (sealF key) := fun s W hs ho => by
  obtain ⟨h1, h2, h3, h4, h5⟩ := key_num key h
  exact seal_any cb (mOf key) (mOf key - 2) (kbOf key) s h1 h2 h3 (hide h4) (hide h5) hs W (hc.new ho)
theorem acts_open (key : List UInt8) (h : keyB key) {w : World} {cb : Nat} (hc : Cip w cb (mOf key) (kbOf key)) : Acts w 22 cb (openF key) := fun s W hs ho => by
  obtain ⟨h1, h2, h3, h4, h5⟩ := key_num key h
  exact open_any cb (mOf key) (mOf key - 2) (kbOf key) s h1 h2 h3 (hide h4) (hide h5) hs W (hc.new ho)

theorem key_shape {w : World} {v : Value} {key : List UInt8} (hx : Has w v key) (h : 0 < key.length) : ∃ b o cap, v = .slice (some ⟨b, o, none⟩) key.length cap := by
  obtain ⟨ao, cap, rfl, _⟩ := hx.shape
  obtain ⟨b, o, rfl, _, _⟩ := hx.at h
  exact ⟨b, o, cap, rfl⟩
theorem keyB_pos {key : List UInt8} (h : keyB key) : 0 < key.length := by rcases h with h | h | h <;> omega

/-- aes.New of a key that is one -/
theorem new_fine (key : List UInt8) (h : keyB key) (v : Value) (w : World) (hx : Has w v key) :
    Calls Try.prog 12 #[v] w fun e w' => ∃ cb, e = .returned (.tuple #[.pointer (some ⟨cb, 0, none⟩), .int .i64 0]) ∧ Cip w' cb (mOf key) (kbOf key) ∧ Only (fun _ => False) w w' := by
  obtain ⟨b, o, cap, rfl⟩ := key_shape hx (keyB_pos h)
  exact new_any key.length (3 * (key.length / 4) + 28) (mOf key) h rfl (by unfold mOf; rcases h with h | h | h <;> omega) _ cap key rfl w hx
theorem new_not (key : List UInt8) (h : ¬ keyB key) (v : Value) (w : World) (hx : Has w v key) :
    Calls Try.prog 12 #[v] w fun e w' => e = .returned (.tuple #[.pointer none, .int .i64 1]) ∧ w' = w := by
  obtain ⟨ao, cap, rfl, _⟩ := hx.shape
  exact newBad_any ao key.length cap (fun e => h (Or.inl e)) (fun e => h (Or.inr (Or.inl e))) (fun e => h (Or.inr (Or.inr e))) w

theorem begin_fine (key iv : List UInt8) (h : keyB key) (hi : iv.length = 16) (v u : Value) (w : World) (hx : Has w v key) (hv : Has w u iv) :
    Calls Try.prog 19 #[v, u] w fun e w' => ∃ cb, e = .returned (.tuple #[.pointer (some ⟨cb, 0, none⟩), .agg (iv.map bv).toArray, .int .i64 0]) ∧ Cip w' cb (mOf key) (kbOf key) ∧ Only (fun _ => False) w w' := by
  obtain ⟨b, o, cap, rfl⟩ := key_shape hx (keyB_pos h)
  obtain ⟨b2, o2, cap2, rfl⟩ := key_shape hv (by omega)
  rw [hi] at hv ⊢
  exact begin_ok key.length (3 * (key.length / 4) + 28) (mOf key) h rfl (by unfold mOf; rcases h with h | h | h <;> omega) _ cap key rfl b2 o2 cap2 iv hi w hx hv
theorem begin_not (key iv : List UInt8) (h : ¬ (keyB key ∧ iv.length = 16)) (v u : Value) (w : World) (hx : Has w v key) (hv : Has w u iv) :
    Calls Try.prog 19 #[v, u] w fun e w' => e = .returned (.tuple #[.pointer none, .agg (zero16.map bv).toArray, .int .i64 1]) ∧ Only (fun _ => False) w w' := by
  by_cases hk : keyB key
  · obtain ⟨b, o, cap, rfl⟩ := key_shape hx (keyB_pos hk)
    obtain ⟨ao, cap2, rfl, _⟩ := hv.shape
    exact begin_badIv key.length (3 * (key.length / 4) + 28) (mOf key) hk rfl (by unfold mOf; rcases hk with h | h | h <;> omega) _ cap key rfl ao iv.length cap2 (fun e => h ⟨hk, e⟩) w hx
  · obtain ⟨ao, cap, rfl, _⟩ := hx.shape
    exact begin_badKey ao key.length cap (fun e => hk (Or.inl e)) (fun e => hk (Or.inr (Or.inl e))) (fun e => hk (Or.inr (Or.inr e))) u w

end Md
end Go.Proofs.Ytdmcnblnoiahcaa
