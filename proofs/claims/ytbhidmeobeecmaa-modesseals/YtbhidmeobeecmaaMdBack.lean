/-
  What is sealed is opened; locksmithlaw9.ModesBack.
-/
import Derived.Test.YtbhidmeobeecmaaMdOpen
import Derived.Test.YtbhidmeobeecmaaMdC
import Derived.Test.YtbhidmeobeecmaaMdA
import Derived.Test.YtbhidmeobeecmaaAeBackS
namespace Go.Proofs.Ytbhidmeobeecmaa
open Go.RowKit
set_option linter.unusedSimpArgs false
set_option linter.unusedVariables false
namespace Md
open Ae (zero16 Arr blkOf blkOf_length added added_length)

theorem chT_take (f : List UInt8 → List UInt8) (hf : ∀ s, s.length = 16 → (f s).length = 16) (iv bs : List UInt8) (hv : iv.length = 16) (m : Nat) (hb : bs.length = 16 * m) (k : Nat) (hk : k ≤ m) : (chT f iv bs m).take (16 * k) = chT f iv bs k := by
  obtain ⟨d, rfl⟩ : ∃ d, m = k + d := ⟨m - k, by omega⟩
  have hgen : ∀ d', d' ≤ d → (chT f iv bs (k + d')).take (16 * k) = chT f iv bs k := by
    intro d' hd
    induction d' with
    | zero => rw [Nat.add_zero, List.take_of_length_le (by rw [chT_length f hf iv bs hv _ hb k (by omega)]; exact Nat.le_refl _)]
    | succ d' ih =>
      show (chT f iv bs (k + d') ++ ch f iv bs (k + d' + 1)).take (16 * k) = _
      rw [List.take_append_of_le_length (by rw [chT_length f hf iv bs hv _ hb (k + d') (by omega)]; omega)]
      exact ih (by omega)
  exact hgen d (Nat.le_refl _)
theorem blkOf_chT (f : List UInt8 → List UInt8) (hf : ∀ s, s.length = 16 → (f s).length = 16) (iv bs : List UInt8) (hv : iv.length = 16) (m : Nat) (hb : bs.length = 16 * m) (i : Nat) (hi : i < m) : blkOf (chT f iv bs m) i = ch f iv bs (i + 1) := by
  have h := chT_take f hf iv bs hv m hb (i + 1) hi
  have hl := chT_length f hf iv bs hv m hb i (by omega)
  have hc := ch_length f hf iv bs hv m hb (i + 1) hi
  unfold blkOf
  rw [show 16 = 16 * (i + 1) - 16 * i by omega] 
  rw [show 16 * (i + 1) - 16 * i = 16 by omega]
  have e : ((chT f iv bs m).drop (16 * i)).take 16 = ((chT f iv bs m).take (16 * (i + 1))).drop (16 * i) := by
    rw [List.drop_take]
    congr 1
    omega
  rw [e, h]
  show (chT f iv bs i ++ ch f iv bs (i + 1)).drop (16 * i) = _
  rw [← hl, List.drop_left]

theorem added_twice (a b : List UInt8) (ha : a.length = 16) (hb : b.length = 16) : added (added a b) b = a := Ae.added_added a b (by omega)

theorem open_box (f g : List UInt8 → List UInt8) (hf : ∀ s, s.length = 16 → (f s).length = 16) (hg : ∀ s, s.length = 16 → g (f s) = s) (iv bs : List UInt8) (hv : iv.length = 16) (m : Nat) (hb : bs.length = 16 * m) (k : Nat) (hk : k ≤ m) : opT g iv (chT f iv bs m) k = bs.take (16 * k) := by
  induction k with
  | zero => rfl
  | succ k ih =>
    show opT g iv (chT f iv bs m) k ++ added (g (blkOf (chT f iv bs m) k)) (ah iv (chT f iv bs m) k) = _
    have hbk := blkOf_length bs m k hb (by omega)
    have hck := ch_length f hf iv bs hv m hb k (by omega)
    have ha : ah iv (chT f iv bs m) k = ch f iv bs k := by
      unfold ah
      by_cases h0 : k = 0
      · subst h0; rfl
      · rw [if_neg h0, blkOf_chT f hf iv bs hv m hb (k - 1) (by omega), show k - 1 + 1 = k by omega]
    rw [ih (by omega), ha, blkOf_chT f hf iv bs hv m hb k (by omega)]
    show bs.take (16 * k) ++ added (g (f (added (blkOf bs k) (ch f iv bs k)))) (ch f iv bs k) = _
    rw [hg _ (added_length hbk hck), added_twice _ _ hbk hck]
    unfold blkOf
    rw [show 16 * (k + 1) = 16 * k + 16 by omega, List.take_add]

theorem open_boxT (key iv t : List UInt8) (h : keyB key) (hi : iv.length = 16) : openE key iv (boxT key iv t) = 0 ∧ openU key iv (boxT key iv t) = t := by
  have hl := boxT_length key iv t h hi
  have hm : (boxT key iv t).length / 16 = mT t := by rw [hl]; omega
  have hfb : fillsB (boxT key iv t) = true := by unfold fillsB; rw [hl]; simp [mT]
  have ho : opT (openF key) iv (boxT key iv t) (mT t) = padT t := by
    unfold boxT
    rw [open_box (sealF key) (openF key) (fun s hs => sealF_length key h s hs) (fun s hs => open_sealF key h s hs) iv (padT t) hi (mT t) (padT_length t) (mT t) (Nat.le_refl _), List.take_of_length_le (by rw [padT_length]; exact Nat.le_refl _)]
  unfold openE openU
  rw [hfb, if_pos rfl, if_pos rfl, hm, ho, unpadE_pad, unpadU_pad]
  exact ⟨rfl, rfl⟩

set_option maxRecDepth 100000 in
set_option maxHeartbeats 2000000 in
theorem back_any (k iv t : List UInt8) (hk : k.length = 32) (n long : Int) (vv tv : Value) (w : World) (hv : Has w vv iv) (ht : Has w tv t) (hl : t.length ≤ 140737488351232) (h1 : -9223372036854775808 ≤ long) (h2 : long ≤ 9223372036854775807) :
    Calls Try.prog 7 #[.agg (k.map bv).toArray, .int .i64 n, vv, tv, .int .i64 long] w fun e w' => e = .returned (.bool true) ∧ Only (fun _ => False) w w' := by
  have A5 := Arr.new w 32 k _ rfl
  have O5 := (Only.refl (fun _ => False) w).alloc (.cells (k.map bv).toArray 32)
  have HS := hide (some_any k iv t hk n long vv tv _ (hv.only O5 (fun _ _ _ e => e)) (ht.only O5 (fun _ _ _ e => e)) h1 h2)
  have hr1 := A5.range
  have HO5 := hide O5
  have hts := tS_length t long hl
  have hkb := keyS_ok k hk n
  have hiv := ivS_length iv
  clear hv ht O5 A5 h1 h2 hl
  generalize keyS k n = key at *
  generalize ivS iv = iw at *
  generalize tS t long = tt at *
  have HE := hide (open_boxT key iw tt hkb hiv)
  have HBL := hide (boxT_length key iw tt hkb hiv)
  go_enter Try.func7, Try.ntmps7
  go_wp2_with (refine wpList_load_mid rfl 32 (.tmp 5) rfl w.heap.size 0 rfl (k.map bv) _ hr1 Ae.Try.under32 rfl (by rw [Ae.Try.size32]; simp [hk]) ?_)
  refine (unhide HS).mono ?_
  rintro e w1 ⟨ka, ia, ta, rfl, ha, hb, hc, o1⟩
  have HA := hide ha
  have HB := hide hb
  have HC := hide hc
  have O1 := hide ((unhide HO5).trans o1 (fun _ _ e => e))
  clear ha hb hc o1 HS hr1
  go_wp2_with fail
  refine (sealM_fine key iw tt hkb hiv hts ka ia ta w1 (unhide HA) (unhide HB) (unhide HC)).mono ?_
  rintro e w2 ⟨bb, rfl, hx, o2⟩
  have HX := hide (Has.ofOwns hx)
  have O12 := hide o2
  clear hx o2
  go_wp2_with fail
  refine (openM_fine key iw _ hkb hiv (by rw [unhide HBL]; unfold mT; omega) ka ia bb w2 ((unhide HA).only (unhide O12) (fun _ _ _ e => e)) ((unhide HB).only (unhide O12) (fun _ _ _ e => e)) (unhide HX)).mono ?_
  rintro e w3 ⟨pv, rfl, hp, o3⟩
  rw [(unhide HE).1]
  rw [(unhide HE).2] at hp
  have O3 := hide (((unhide O1).trans (unhide O12) (fun _ _ e => e)).trans o3 (fun _ _ e => e))
  have HX3 := (unhide HX).only o3 (fun _ _ _ e => e)
  have HC3 := ((unhide HC).only (unhide O12) (fun _ _ _ e => e)).only o3 (fun _ _ _ e => e)
  have HP := hide hp
  obtain ⟨xa, xc, hxs, _⟩ := HX3.shape
  subst hxs
  rw [unhide HBL]
  obtain ⟨ya, yc, hys, _⟩ := HC3.shape
  subst hys
  have HCY := hide HC3
  clear HX3 HC3 hp o3 HX HC HA HB
  go_wp2_with fail
  refine (known_any _).mono ?_
  rintro e w4 ⟨rfl, o4⟩
  have q1 := str_conv ((unhide HP).only o4 (fun _ _ _ e => e))
  have q2 := str_conv ((unhide HCY).only o4 (fun _ _ _ e => e))
  have O4 := hide ((unhide O3).trans o4 (fun _ _ e => e))
  have hd1 : (tt.length : Int).tdiv 16 = ((tt.length / 16 : Nat) : Int) := by rw [Int.tdiv_eq_ediv_of_nonneg (by omega)]; omega
  have hd2 : (tt.length : Int) / 16 = ((tt.length / 16 : Nat) : Int) := by omega
  have hd3 : (((tt.length / 16 : Nat) : Int) + 1) * 16 = ((16 * mT tt : Nat) : Int) := by unfold mT; omega
  have hd4 : tt.length / 16 ≤ 8796093022208 := by omega
  clear o4
  generalize str tt = X at *
  generalize 16 * mT tt = Y at *
  generalize tt.length / 16 = Z at *
  go_wp2
  go_ret
  exact ⟨rfl, unhide O4⟩

end Md
end Go.Proofs.Ytbhidmeobeecmaa
