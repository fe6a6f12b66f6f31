/-
  locksmithlaw9.ModesChains.
-/
import Derived.Test.YtbhidmeobeecmaaMdBack
import Derived.Test.YtbhidmeobeecmaaHeldL
import Derived.Test.YtbhidmeobeecmaaAeRSeal
namespace Go.Proofs.Ytbhidmeobeecmaa
open Go.RowKit
set_option linter.unusedSimpArgs false
set_option linter.unusedVariables false
namespace Md
open Ae (zero16 Arr ag_one range_only after exec_load_mid step_store_mid added added_length added_at blkOf blkOf_length blkOf_at mixd mixd_zero mixd_all mixd_at mixd_set gt gt_some xor_bv)

theorem ch_pre (f : List UInt8 → List UInt8) (iv a b : List UInt8) (i : Nat) (h : ∀ k, k < i → blkOf a k = blkOf b k) : ch f iv a i = ch f iv b i ∧ chT f iv a i = chT f iv b i := by
  induction i with
  | zero => exact ⟨rfl, rfl⟩
  | succ i ih =>
    have h1 := ih (fun k hk => h k (by omega))
    have h2 : ch f iv a (i + 1) = ch f iv b (i + 1) := by
      show f (added (blkOf a i) (ch f iv a i)) = f (added (blkOf b i) (ch f iv b i))
      rw [h1.1, h i (by omega)]
    exact ⟨h2, by show chT f iv a i ++ ch f iv a (i + 1) = chT f iv b i ++ ch f iv b (i + 1); rw [h1.2, h2]⟩
theorem blkOf_pre (t s : List UInt8) (k : Nat) (h : 16 * (k + 1) ≤ t.length) : blkOf (t ++ s) k = blkOf t k := by
  unfold blkOf
  rw [List.drop_append_of_le_length (by omega), List.take_append_of_le_length (by simp; omega)]
theorem box_pre (key iv t : List UInt8) (h : keyB key) (hi : iv.length = 16) (q : Nat) (hq : 16 * q ≤ t.length) : (boxT key iv (t.take (16 * q))).take (16 * q) = (boxT key iv t).take (16 * q) := by
  have hf : ∀ s, s.length = 16 → (sealF key s).length = 16 := fun s hs => sealF_length key h s hs
  have hl : (t.take (16 * q)).length = 16 * q := by rw [List.length_take]; omega
  unfold boxT
  rw [chT_take (sealF key) hf iv _ hi (mT (t.take (16 * q))) (padT_length _) q (by unfold mT; rw [hl]; omega), chT_take (sealF key) hf iv _ hi (mT t) (padT_length t) q (by unfold mT; omega)]
  refine (ch_pre (sealF key) iv _ _ q (fun k hk => ?_)).2
  unfold padT
  rw [blkOf_pre _ _ k (by rw [hl]; omega), blkOf_pre t _ k (by omega)]
  unfold blkOf
  rw [List.drop_take, List.take_take]
  congr 1
  omega

set_option maxRecDepth 100000 in
set_option maxHeartbeats 8000000 in
theorem chains_any (k iv : List UInt8) (hk : k.length = 32) (n long cut : Int) (vv : Value) (w : World) (hv : Has w vv iv) :
    Calls Try.prog 8 #[.agg (k.map bv).toArray, .int .i64 n, vv, .int .i64 long, .int .i64 cut] w fun e w' => e = .returned (.bool true) ∧ Only (fun _ => False) w w' := by
  have A5 := Arr.new w 32 k _ rfl
  have O5 := (Only.refl (fun _ => False) w).alloc (.cells (k.map bv).toArray 32)
  have h0 := Int.emod_nonneg long (show (1000 : Int) ≠ 0 by decide)
  have h3 := Int.emod_lt_of_pos long (show (0 : Int) < 1000 by decide)
  obtain ⟨r, hr⟩ : ∃ r : Nat, long % 1000 = (r : Int) := ⟨(long % 1000).toNat, by omega⟩
  have HP := hide (fun W => pick_any long 1000 W (by decide) (by decide))
  rw [hr] at HP
  have hr1000 : r < 1000 := by omega
  obtain ⟨l3, hl3⟩ : ∃ l3 : Nat, l3 = 3 * r := ⟨_, rfl⟩
  have M3 : Hid (IntKind.i64.wrap (3 * (r : Int)) = (l3 : Int)) := by show _ = _; rw [wrap_small _ (by omega) (by omega)]; omega
  have HS := hide (fun W (o : Only (fun _ => False) (w.alloc (.cells (k.map bv).toArray 32)) W) => some_any k iv [] hk n (l3 : Int) vv (.slice none 0 0) W ((hv.only O5 (fun _ _ _ e => e)).only o (fun _ _ _ e => e)) (Or.inl ⟨rfl, rfl⟩) (by omega) (by omega))
  have hr1 := A5.range
  have HO5 := hide O5
  have hts := tS_length [] (l3 : Int) (by simp)
  have hkb := keyS_ok k hk n
  have hiv := ivS_length iv
  clear hv O5 A5 h0 h3 hr
  generalize keyS k n = key at *
  generalize ivS iv = iw at *
  generalize tS [] (l3 : Int) = tt at *
  clear hl3
  obtain ⟨wA, hwA⟩ : ∃ wA, wA = w.alloc (.cells (k.map bv).toArray 32) := ⟨_, rfl⟩
  obtain ⟨bA, hbA⟩ : ∃ bA, bA = w.heap.size := ⟨_, rfl⟩
  rw [← hwA] at HS HO5 hr1
  rw [← hbA] at hr1
  have HRG := hide hr1
  have HKB := hide hkb
  have HTS := hide hts
  have HIV := hide hiv
  go_enter Try.func8, Try.ntmps8
  go_upto_region 1 with fail
  rw [← hwA, ← hbA]
  clear hwA hr1 hkb hts hiv hbA
  go_wp2_with fail
  refine wp_region_held_drew (S := (fun w' => Only (fun _ => False) wA w')) (by kernel_rfl) ((Only.refl _ _).drew) (fun hHeld => ?_)
  refine wpAnyH_take (i := 0) (v := ?v26) rfl (by kernel_rfl) (by kernel_rfl) (by kernel_rfl) (fun _ _ _ h => h) (Or.inl ⟨by rfl, ?hy26⟩) (by assumption) ?rest26
  case hy26 =>
    intro w hSw
    (refine exec_load_mid 32 (.tmp 5) ?_ bA 0 ?_ (k.map bv) _ (range_only (unhide HRG) hSw (fun e => e)) Ae.Try.under32 rfl (by rw [Ae.Try.size32]; simp [hk]) <;> rfl)
  try simp only [Act.put, List.setIfInBounds_toArray, List.set_cons_zero, List.set_cons_succ, List.getElem_toArray, List.getElem_cons_succ, List.getElem_cons_zero]
  refine wpAnyH_take (i := 1) (v := ?v27) rfl (by kernel_rfl) (by kernel_rfl) (by kernel_rfl) (fun _ _ _ h => h) (Or.inl ⟨by rfl, ?hy27⟩) (by assumption) ?rest27
  case hy27 =>
    intro w hSw
    go_simp
    try with_reducible rfl
  try simp only [Act.put, List.setIfInBounds_toArray, List.set_cons_zero, List.set_cons_succ, List.getElem_toArray, List.getElem_cons_succ, List.getElem_cons_zero]
  refine wpAnyH_take (i := 2) (v := ?v28) rfl (by kernel_rfl) (by kernel_rfl) (by kernel_rfl) (fun _ _ _ h => h) (Or.inl ⟨by rfl, ?hy28⟩) (by assumption) ?rest28
  case hy28 =>
    intro w hSw
    go_simp
    try with_reducible rfl
  try simp only [Act.put, List.setIfInBounds_toArray, List.set_cons_zero, List.set_cons_succ, List.getElem_toArray, List.getElem_cons_succ, List.getElem_cons_zero]
  refine wpAnyH_take (i := 3) (v := ?v29) rfl (by kernel_rfl) (by kernel_rfl) (by kernel_rfl) (fun _ _ _ h => h) (Or.inl ⟨by rfl, ?hy29⟩) (by assumption) ?rest29
  case hy29 =>
    intro w hSw
    go_simp
    try with_reducible rfl
  try simp only [Act.put, List.setIfInBounds_toArray, List.set_cons_zero, List.set_cons_succ, List.getElem_toArray, List.getElem_cons_succ, List.getElem_cons_zero]
  refine wpAnyH_ready (rs := [4]) (by kernel_rfl) (by simp) ?_
  refine AllReadyH.cons rfl (fun K hK => ?_) AllReadyH.nil
  go_simp
  go_wp2_with fail; refine (unhide HP _).mono ?_; rintro e wx ⟨rfl, hwx⟩; rw [hwx]; clear hwx wx
  refine hK.out _ _ ((Only.refl _ _).drew) (fun hHeld => ?_)
  clear hK K
  try simp only [Act.put, List.setIfInBounds_toArray, List.set_cons_zero, List.set_cons_succ, List.getElem_toArray, List.getElem_cons_succ, List.getElem_cons_zero]
  refine wpAnyH_take (i := 5) (v := ?v30) rfl (by kernel_rfl) (by kernel_rfl) (by kernel_rfl) (fun _ _ _ h => h) (Or.inl ⟨by rfl, ?hy30⟩) (by assumption) ?rest30
  case hy30 =>
    intro w hSw
    (go_simp; rw [unhide M3]; try with_reducible rfl)
  try simp only [Act.put, List.setIfInBounds_toArray, List.set_cons_zero, List.set_cons_succ, List.getElem_toArray, List.getElem_cons_succ, List.getElem_cons_zero]
  refine wpAnyH_ready (rs := [6]) (by kernel_rfl) (by simp) ?_
  refine AllReadyH.cons rfl (fun K hK => ?_) AllReadyH.nil
  go_simp
  go_wp2_with fail; refine (unhide HS _ ((Only.refl _ wA).drew)).mono ?_; rintro e w1 ⟨ka, ia, ta, rfl, ha, hb, hc, y1⟩; have HA := hide ha; have HB := hide hb; have HC := hide hc; have Q1 : Hid (Only (fun _ => False) wA w1) := ((Only.refl (fun _ => False) wA).drew).trans y1 (fun _ _ e => e); clear ha hb hc y1
  refine hK.out _ _ ((unhide Q1)) (fun hHeld => ?_)
  clear hK K
  try simp only [Act.put, List.setIfInBounds_toArray, List.set_cons_zero, List.set_cons_succ, List.getElem_toArray, List.getElem_cons_succ, List.getElem_cons_zero]
  refine wpAnyH_take (i := 7) (v := ?v31) rfl (by kernel_rfl) (by kernel_rfl) (by kernel_rfl) (fun _ _ _ h => h) (Or.inl ⟨by rfl, ?hy31⟩) (by assumption) ?rest31
  case hy31 =>
    intro w hSw
    go_simp
    try with_reducible rfl
  try simp only [Act.put, List.setIfInBounds_toArray, List.set_cons_zero, List.set_cons_succ, List.getElem_toArray, List.getElem_cons_succ, List.getElem_cons_zero]
  refine wpAnyH_take (i := 8) (v := ?v32) rfl (by kernel_rfl) (by kernel_rfl) (by kernel_rfl) (fun _ _ _ h => h) (Or.inl ⟨by rfl, ?hy32⟩) (by assumption) ?rest32
  case hy32 =>
    intro w hSw
    go_simp
    try with_reducible rfl
  try simp only [Act.put, List.setIfInBounds_toArray, List.set_cons_zero, List.set_cons_succ, List.getElem_toArray, List.getElem_cons_succ, List.getElem_cons_zero]
  refine wpAnyH_take (i := 9) (v := ?v33) rfl (by kernel_rfl) (by kernel_rfl) (by kernel_rfl) (fun _ _ _ h => h) (Or.inl ⟨by rfl, ?hy33⟩) (by assumption) ?rest33
  case hy33 =>
    intro w hSw
    go_simp
    try with_reducible rfl
  try simp only [Act.put, List.setIfInBounds_toArray, List.set_cons_zero, List.set_cons_succ, List.getElem_toArray, List.getElem_cons_succ, List.getElem_cons_zero]
  refine wpAnyH_take (i := 10) (v := ?v34) rfl (by kernel_rfl) (by kernel_rfl) (by kernel_rfl) (fun _ _ _ h => h) (Or.inl ⟨by rfl, ?hy34⟩) (by assumption) ?rest34
  case hy34 =>
    intro w hSw
    go_simp
    try with_reducible rfl
  try simp only [Act.put, List.setIfInBounds_toArray, List.set_cons_zero, List.set_cons_succ, List.getElem_toArray, List.getElem_cons_succ, List.getElem_cons_zero]
  refine wpAnyH_take (i := 11) (v := ?v35) rfl (by kernel_rfl) (by kernel_rfl) (by kernel_rfl) (fun _ _ _ h => h) (Or.inl ⟨by rfl, ?hy35⟩) (by assumption) ?rest35
  case hy35 =>
    intro w hSw
    go_simp
    try with_reducible rfl
  try simp only [Act.put, List.setIfInBounds_toArray, List.set_cons_zero, List.set_cons_succ, List.getElem_toArray, List.getElem_cons_succ, List.getElem_cons_zero]
  refine wpAnyH_take (i := 12) (v := ?v36) rfl (by kernel_rfl) (by kernel_rfl) (by kernel_rfl) (fun _ _ _ h => h) (Or.inl ⟨by rfl, ?hy36⟩) (by assumption) ?rest36
  case hy36 =>
    intro w hSw
    go_simp
    try with_reducible rfl
  try simp only [Act.put, List.setIfInBounds_toArray, List.set_cons_zero, List.set_cons_succ, List.getElem_toArray, List.getElem_cons_succ, List.getElem_cons_zero]
  refine wpAnyH_take (i := 13) (v := ?v37) rfl (by kernel_rfl) (by kernel_rfl) (by kernel_rfl) (fun _ _ _ h => h) (Or.inl ⟨by rfl, ?hy37⟩) (by assumption) ?rest37
  case hy37 =>
    intro w hSw
    go_simp
    try with_reducible rfl
  try simp only [Act.put, List.setIfInBounds_toArray, List.set_cons_zero, List.set_cons_succ, List.getElem_toArray, List.getElem_cons_succ, List.getElem_cons_zero]
  refine wpAnyH_done (by kernel_rfl) ?_ _
  have O1 := hide ((unhide HO5).trans (unhide Q1) (fun _ _ e => e))
  clear HS HP Q1 HO5 HRG
  obtain ⟨lb0, lo0, lc0, rfl⟩ := key_shape (unhide HB) (by have := unhide HIV; omega)
  rw [unhide HIV] at HB ⊢
  go_wp2_with fail
  refine (new_fine key (unhide HKB) ka w1 (unhide HA)).mono ?_
  rintro e w2 ⟨cb, rfl, hc, o2⟩
  have HAC := hide (acts_seal key (unhide HKB) hc)
  have HA2 := hide ((unhide HA).only o2 (fun _ _ _ e => e))
  have HB2 := hide ((unhide HB).only o2 (fun _ _ _ e => e))
  have HC2 := hide ((unhide HC).only o2 (fun _ _ _ e => e))
  have O2 := hide ((unhide O1).trans o2 (fun _ _ e => e))
  clear hc o2 HA HB HC O1
  go_wp2_with fail
  refine (sealM_fine key iw tt (unhide HKB) (unhide HIV) (unhide HTS) ka _ ta w2 (unhide HA2) (unhide HB2) (unhide HC2)).mono ?_
  rintro e w3 ⟨xv, rfl, hx, o3⟩
  have HBL : Hid ((boxT key iw tt).length = 16 * mT tt) := boxT_length key iw tt (unhide HKB) (unhide HIV)
  have hxh := Has.ofOwns hx
  obtain ⟨xb, xo, xc, rfl⟩ := key_shape hxh (by rw [unhide HBL]; unfold mT; omega)
  have HX := hide hxh
  have HA3 := hide ((unhide HA2).only o3 (fun _ _ _ e => e))
  have HB3 := hide ((unhide HB2).only o3 (fun _ _ _ e => e))
  have HC3 := hide ((unhide HC2).only o3 (fun _ _ _ e => e))
  have O3 := hide ((unhide O2).trans o3 (fun _ _ e => e))
  have HAC3 := hide ((unhide HAC).new o3)
  clear hx hxh o3 HA2 HB2 HC2 O2 HAC
  obtain ⟨ca, cc, hcs, hcc, _⟩ := (unhide HC3).shape
  subst hcs
  rw [unhide HBL]
  have hM1 : 1 ≤ mT tt := by unfold mT; omega
  have hMb : mT tt ≤ 8796093022208 := by have := unhide HTS; unfold mT; omega
  have HPL : Hid ((padT tt).length = 16 * mT tt) := padT_length tt
  have hMd : tt.length / 16 + 1 = mT tt := rfl
  have HMD := hide hMd
  have HBX : Hid (boxT key iw tt = chT (sealF key) iw (padT tt) (mT tt)) := rfl
  have HFF : Hid (∀ s, s.length = 16 → (sealF key s).length = 16) := fun s hs => sealF_length key (unhide HKB) s hs
  clear hMd
  generalize mT tt = M at *
  have hm1 : (16 * (M : Int)).tmod 16 = 0 := by rw [Int.tmod_eq_emod_of_nonneg (by omega)]; omega
  have hm2 : (16 * (M : Int)) % 16 = 0 := by omega
  go_wp2_with fail
  refine (known_any _).mono ?_
  rintro e w4 ⟨rfl, o4⟩
  have HX4 := hide ((unhide HX).only o4 (fun _ _ _ e => e))
  have HA4 := hide ((unhide HA3).only o4 (fun _ _ _ e => e))
  have HB4 := hide ((unhide HB3).only o4 (fun _ _ _ e => e))
  have HC4 := hide ((unhide HC3).only o4 (fun _ _ _ e => e))
  have O4 := hide ((unhide O3).trans o4 (fun _ _ e => e))
  have HAC4 := hide ((unhide HAC3).new o4)
  clear o4 HX HA3 HB3 HC3 O3 HAC3
  go_wp2_with fail
  refine (pad_any _ tt w4 (unhide HC4) (unhide HTS)).mono ?_
  rintro e w5 ⟨pv, rfl, hp, o5⟩
  have hph := Has.ofOwns hp
  obtain ⟨pb, po, pc, rfl⟩ := key_shape hph (by rw [unhide HPL]; omega)
  rw [unhide HPL] at hph ⊢
  have HP5 := hide hph
  have HX5 := hide ((unhide HX4).only o5 (fun _ _ _ e => e))
  have HA5 := hide ((unhide HA4).only o5 (fun _ _ _ e => e))
  have HB5 := hide ((unhide HB4).only o5 (fun _ _ _ e => e))
  have HC5 := hide ((unhide HC4).only o5 (fun _ _ _ e => e))
  have O5 := hide ((unhide O4).trans o5 (fun _ _ e => e))
  have HAC5 := hide ((unhide HAC4).new o5)
  clear hp hph o5 HX4 HA4 HB4 HC4 O4 HAC4
  clear hm1 hm2
  have HMB := hide hMb
  have HM1 := hide hM1
  have hxc : 16 * M ≤ xc := by
    obtain ⟨_, _, e, h, _⟩ := (unhide HX5).shape
    simp only [Value.slice.injEq] at e
    have := unhide HBL
    omega
  have HXC := hide hxc
  clear hMb hM1 hxc
  obtain ⟨P, hP⟩ : ∃ P, P = padT tt := ⟨_, rfl⟩
  obtain ⟨f, hF⟩ : ∃ f, f = sealF key := ⟨_, rfl⟩
  obtain ⟨bx, hbx⟩ : ∃ bx, bx = boxT key iw tt := ⟨_, rfl⟩
  rw [← hP] at HP5 HPL HBX
  rw [← hF] at HFF HBX HAC5
  rw [← hbx] at HBX HX5 HBL
  have HPP := hide hP
  have HFE := hide hF
  have HBE := hide hbx
  clear hP hF hbx
  go_wp2
  go_loopw [19, 20, 21, 22, 23] (fun lv i _ _ _ wr => ∃ j : Nat, j ≤ M ∧ i = .int .i64 (16 * (j : Int)) ∧ (∃ lb lo lc, lv = .slice (some ⟨lb, lo, none⟩) 16 lc ∧ Hid (Has wr (.slice (some ⟨lb, lo, none⟩) 16 lc) (ch f iw P j))) ∧ Hid (Only (fun _ => False) w5 wr)) (fun _ i _ _ _ _ => 16 * M - (intOf i).toNat)
  case atStart => exact ⟨0, Nat.zero_le _, rfl, ⟨_, _, _, rfl, HB5⟩, Only.refl _ _⟩
  case round =>
    rename World => wr
    obtain ⟨j, hj, rfl, ⟨lb, lo, lc, rfl, hlast⟩, hor⟩ := hrel
    by_cases hlt : j < M
    · obtain ⟨C, hC⟩ : ∃ C, C = ch f iw P j := ⟨_, rfl⟩
      have hCl : C.length = 16 := by rw [hC]; exact ch_length f (unhide HFF) iw P (unhide HIV) M (unhide HPL) j hj
      obtain ⟨B, hB⟩ : ∃ B, B = blkOf P j := ⟨_, rfl⟩
      have hBl : B.length = 16 := by rw [hB]; exact blkOf_length P M j (unhide HPL) hlt
      rw [← hC] at hlast
      obtain ⟨X, hX⟩ : ∃ X, X = added B C := ⟨_, rfl⟩
      have hXl : X.length = 16 := by rw [hX]; exact added_length hBl hCl
      have hN1 : Hid (ch f iw P (j + 1) = f X) := by rw [hX, hB, hC]; rfl
      have hfl := unhide HFF X hXl
      obtain ⟨ii, hii⟩ : ∃ ii, ii = 16 * j := ⟨_, rfl⟩
      have hmb := unhide HMB
      have hpx := unhide HXC
      have M1 : Hid ((16 * (j : Int)) = (ii : Int)) := by show _ = _; omega
      have hXn : ∀ n, n < 16 → X[n]? = some (gt P (ii + n) ^^^ gt C n) := fun n hn => by
        rw [hX, added_at B C n (by omega) (by omega)]
        congr 2
        have h1 := gt_some B n (by omega)
        rw [hB, blkOf_at P j n hn, gt_some P (16 * j + n) (by rw [unhide HPL]; omega), Option.some.injEq] at h1
        rw [hii, h1, hB]
      have HXN := hide hXn
      obtain ⟨e, he⟩ : ∃ e, e = ii + 16 := ⟨_, rfl⟩
      have M5 : Hid (IntKind.i64.wrap ((ii : Int) + 16) = (e : Int)) := by show _ = _; rw [wrap_small _ (by omega) (by omega)]; omega
      have hci : (ii : Int) + 16 ≤ 16 * (M : Int) := by omega
      have hib : ii ≤ 140737488355328 := by omega
      have hsub : e - ii = 16 := by omega
      have hpq : ii ≤ e := by omega
      have hqk : (e : Int) ≤ (xc : Int) := by omega
      have hqk2 : e ≤ xc := by omega
      have hnep : ¬ xc = ii := by omega
      have hbk : blkOf bx j = f X := by rw [unhide HBX, blkOf_chT f (unhide HFF) iw P (unhide HIV) M (unhide HPL) j hlt]; exact unhide hN1
      have hxr : Has wr (.slice (some ⟨xb, xo + ii, none⟩) 16 (xc - ii)) (f X) := by
        have h0 := (unhide HX5).only (unhide hor) (fun _ _ _ e => e)
        have h1 := Has.mid h0 (n := 16) ii (by rw [unhide HBL]; omega) (by decide)
        rw [← hbk]
        unfold blkOf
        rw [← hii]
        exact h1
      have HXR := hide hxr
      have HII := hide hii
      have HE := hide he
      have HFL := hide hfl
      have HXL := hide hXl
      have HCL := hide hCl
      have hjM : j < M := hlt
      clear hC hB hX hCl hBl hXl hfl hXn hii he hbk hxr hpx
      rw [unhide M1]
      go_upto_region 12 with fail
      obtain ⟨wq0, b21, eq0, eb21, a21, oq0⟩ := Ae.fresh16 wr
      rw [Ae.zeros_eq, ← eq0, ← eb21]
      have A21 := hide a21
      have OQ0 := hide oq0
      have hb21 : wr.heap.size ≤ b21 := by omega
      clear eq0 eb21 a21 oq0
      go_wp2
      go_loopw [22] (fun i wq => ∃ n : Nat, n ≤ 16 ∧ i = .int .i64 n ∧ Hid (Arr wq b21 41 (mixd X zero16 n)) ∧ Hid (Only (fun x => x = b21) wq0 wq)) (fun i _ => 16 - (intOf i).toNat)
      case atStart => exact ⟨0, Nat.zero_le _, rfl, by rw [mixd_zero]; exact A21, Only.refl _ _⟩
      case round =>
        rename World => wq
        obtain ⟨n', hn', rfl, hat, hot⟩ := hrel
        have ORQ : Hid (Only (fun _ => False) wr wq) := (unhide OQ0).trans (unhide hot) (fun x hx e => by omega)
        by_cases hnt : n' < 16
        · have hm0 := mixd_at X zero16 16 n' (unhide HXL) rfl hnt
          rw [Ae.zero16_at' n' hnt] at hm0
          have HC8 := hide ((unhide hat).cell n' _ hm0)
          have hf8 := (unhide hat).free n'
          have hw2 := (unhide hat).set n' (gt P (ii + n') ^^^ gt C n')
          rw [mixd_set _ _ 16 n' (unhide HXL) rfl hnt _ (unhide HXN n' hnt)] at hw2
          have HWn := hide hw2
          have HOn := hide ((unhide hot).here n' (.int .u8 ((gt P (ii + n') ^^^ gt C n').toNat : Int)))
          have hx := xor_bv (gt P (ii + n')) (gt C n')
          obtain ⟨s, hs⟩ : ∃ s, s = ii + n' := ⟨_, rfl⟩
          have M4 : Hid (IntKind.i64.wrap ((ii : Int) + (n' : Int)) = (s : Int)) := by show _ = _; rw [wrap_small _ (by omega) (by omega)]; omega
          have hsM : s < 16 * M := by have := unhide HII; omega
          have hsI : (s : Int) < 16 * (M : Int) := by omega
          have HPC : Hid (wq.cell? ⟨pb, po + s, none⟩ = some (.int .u8 ((gt P s).toNat : Int))) := by
            have h0 := ((unhide HP5).only (unhide hor) (fun _ _ _ e => e)).only (unhide ORQ) (fun _ _ _ e => e)
            obtain ⟨bb, off, e1, _, hc⟩ := h0.at (by omega)
            simp only [Option.some.injEq, Addr.mk.injEq, and_true] at e1
            obtain ⟨rfl, rfl⟩ := e1
            have hl : s < P.length := by rw [unhide HPL]; exact hsM
            have h2 := gt_some P s hl
            rw [List.getElem?_eq_getElem hl, Option.some.injEq] at h2
            show _ = _
            rw [hc s hl, h2]
            rfl
          have HLC : Hid (wq.cell? ⟨lb, lo + n', none⟩ = some (.int .u8 ((gt C n').toNat : Int))) := by
            have h0 := (unhide hlast).only (unhide ORQ) (fun _ _ _ e => e)
            obtain ⟨bb, off, e1, _, hc⟩ := h0.at (by decide)
            simp only [Option.some.injEq, Addr.mk.injEq, and_true] at e1
            obtain ⟨rfl, rfl⟩ := e1
            have hl : n' < C.length := by rw [unhide HCL]; exact hnt
            have h2 := gt_some C n' hl
            rw [List.getElem?_eq_getElem hl, Option.some.injEq] at h2
            show _ = _
            rw [hc n' hl, h2]
            rfl
          rw [← hs] at HWn HOn hx
          clear hm0 hat hot hw2 hs ORQ
          generalize gt P s ^^^ gt C n' = z at *
          generalize gt P s = y1 at *
          generalize gt C n' = y2 at *
          have hn15 : (n' : Int) < 16 := by omega
          go_wp2_with fail
          refine wp_region_last_drew (S := (fun w' => Only (fun _ => False) wq w')) 13 (by kernel_rfl) ((Only.refl _ _).drew) (fun hHeld => ?_)
          refine wpAnyL_take (i := 0) (v := ?v38) rfl (by kernel_rfl) (by kernel_rfl) (by kernel_rfl) (by kernel_rfl) (fun _ _ _ h => h) (Or.inl ⟨by rfl, ?hy38⟩) (by assumption) ?rest38
          case hy38 =>
            intro w hSw
            go_simp
            try with_reducible rfl
          try simp only [Act.put, List.setIfInBounds_toArray, List.set_cons_zero, List.set_cons_succ, List.getElem_toArray, List.getElem_cons_succ, List.getElem_cons_zero]
          refine wpAnyL_take (i := 1) (v := ?v39) rfl (by kernel_rfl) (by kernel_rfl) (by kernel_rfl) (by kernel_rfl) (fun _ _ _ h => h) (Or.inl ⟨by rfl, ?hy39⟩) (by assumption) ?rest39
          case hy39 =>
            intro w hSw
            go_simp
            try with_reducible rfl
          try simp only [Act.put, List.setIfInBounds_toArray, List.set_cons_zero, List.set_cons_succ, List.getElem_toArray, List.getElem_cons_succ, List.getElem_cons_zero]
          refine wpAnyL_take (i := 2) (v := ?v40) rfl (by kernel_rfl) (by kernel_rfl) (by kernel_rfl) (by kernel_rfl) (fun _ _ _ h => h) (Or.inl ⟨by rfl, ?hy40⟩) (by assumption) ?rest40
          case hy40 =>
            intro w hSw
            go_simp
            try with_reducible rfl
          try simp only [Act.put, List.setIfInBounds_toArray, List.set_cons_zero, List.set_cons_succ, List.getElem_toArray, List.getElem_cons_succ, List.getElem_cons_zero]
          refine wpAnyL_take (i := 3) (v := ?v41) rfl (by kernel_rfl) (by kernel_rfl) (by kernel_rfl) (by kernel_rfl) (fun _ _ _ h => h) (Or.inl ⟨by rfl, ?hy41⟩) (by assumption) ?rest41
          case hy41 =>
            intro w hSw
            go_simp
            try with_reducible rfl
          try simp only [Act.put, List.setIfInBounds_toArray, List.set_cons_zero, List.set_cons_succ, List.getElem_toArray, List.getElem_cons_succ, List.getElem_cons_zero]
          refine wpAnyL_take (i := 4) (v := ?v42) rfl (by kernel_rfl) (by kernel_rfl) (by kernel_rfl) (by kernel_rfl) (fun _ _ _ h => h) (Or.inl ⟨by rfl, ?hy42⟩) (by assumption) ?rest42
          case hy42 =>
            intro w hSw
            (go_simp; rw [unhide M4]; try with_reducible rfl)
          try simp only [Act.put, List.setIfInBounds_toArray, List.set_cons_zero, List.set_cons_succ, List.getElem_toArray, List.getElem_cons_succ, List.getElem_cons_zero]
          refine wpAnyL_take (i := 5) (v := ?v43) rfl (by kernel_rfl) (by kernel_rfl) (by kernel_rfl) (by kernel_rfl) (fun _ _ _ h => h) (Or.inl ⟨by rfl, ?hy43⟩) (by assumption) ?rest43
          case hy43 =>
            intro w hSw
            go_simp
            try with_reducible rfl
          try simp only [Act.put, List.setIfInBounds_toArray, List.set_cons_zero, List.set_cons_succ, List.getElem_toArray, List.getElem_cons_succ, List.getElem_cons_zero]
          refine wpAnyL_take (i := 6) (v := ?v44) rfl (by kernel_rfl) (by kernel_rfl) (by kernel_rfl) (by kernel_rfl) (fun _ _ _ h => h) (Or.inl ⟨by rfl, ?hy44⟩) (by assumption) ?rest44
          case hy44 =>
            intro w hSw
            (have q := hSw.cell (unhide HPC) (fun e => e); go_simp; try with_reducible rfl)
          try simp only [Act.put, List.setIfInBounds_toArray, List.set_cons_zero, List.set_cons_succ, List.getElem_toArray, List.getElem_cons_succ, List.getElem_cons_zero]
          refine wpAnyL_take (i := 7) (v := ?v45) rfl (by kernel_rfl) (by kernel_rfl) (by kernel_rfl) (by kernel_rfl) (fun _ _ _ h => h) (Or.inl ⟨by rfl, ?hy45⟩) (by assumption) ?rest45
          case hy45 =>
            intro w hSw
            go_simp
            try with_reducible rfl
          try simp only [Act.put, List.setIfInBounds_toArray, List.set_cons_zero, List.set_cons_succ, List.getElem_toArray, List.getElem_cons_succ, List.getElem_cons_zero]
          refine wpAnyL_take (i := 8) (v := ?v46) rfl (by kernel_rfl) (by kernel_rfl) (by kernel_rfl) (by kernel_rfl) (fun _ _ _ h => h) (Or.inl ⟨by rfl, ?hy46⟩) (by assumption) ?rest46
          case hy46 =>
            intro w hSw
            go_simp
            try with_reducible rfl
          try simp only [Act.put, List.setIfInBounds_toArray, List.set_cons_zero, List.set_cons_succ, List.getElem_toArray, List.getElem_cons_succ, List.getElem_cons_zero]
          refine wpAnyL_take (i := 9) (v := ?v47) rfl (by kernel_rfl) (by kernel_rfl) (by kernel_rfl) (by kernel_rfl) (fun _ _ _ h => h) (Or.inl ⟨by rfl, ?hy47⟩) (by assumption) ?rest47
          case hy47 =>
            intro w hSw
            go_simp
            try with_reducible rfl
          try simp only [Act.put, List.setIfInBounds_toArray, List.set_cons_zero, List.set_cons_succ, List.getElem_toArray, List.getElem_cons_succ, List.getElem_cons_zero]
          refine wpAnyL_take (i := 10) (v := ?v48) rfl (by kernel_rfl) (by kernel_rfl) (by kernel_rfl) (by kernel_rfl) (fun _ _ _ h => h) (Or.inl ⟨by rfl, ?hy48⟩) (by assumption) ?rest48
          case hy48 =>
            intro w hSw
            (have q := hSw.cell (unhide HLC) (fun e => e); go_simp; try with_reducible rfl)
          try simp only [Act.put, List.setIfInBounds_toArray, List.set_cons_zero, List.set_cons_succ, List.getElem_toArray, List.getElem_cons_succ, List.getElem_cons_zero]
          refine wpAnyL_take (i := 11) (v := ?v49) rfl (by kernel_rfl) (by kernel_rfl) (by kernel_rfl) (by kernel_rfl) (fun _ _ _ h => h) (Or.inl ⟨by rfl, ?hy49⟩) (by assumption) ?rest49
          case hy49 =>
            intro w hSw
            go_simp
            try with_reducible rfl
          try simp only [Act.put, List.setIfInBounds_toArray, List.set_cons_zero, List.set_cons_succ, List.getElem_toArray, List.getElem_cons_succ, List.getElem_cons_zero]
          refine wpAnyL_take (i := 12) (v := ?v50) rfl (by kernel_rfl) (by kernel_rfl) (by kernel_rfl) (by kernel_rfl) (fun _ _ _ h => h) (Or.inl ⟨by rfl, ?hy50⟩) (by assumption) ?rest50
          case hy50 =>
            intro w hSw
            go_simp
            try with_reducible rfl
          try simp only [Act.put, List.setIfInBounds_toArray, List.set_cons_zero, List.set_cons_succ, List.getElem_toArray, List.getElem_cons_succ, List.getElem_cons_zero]
          have hc8 := unhide HC8
          refine wpAnyL_ready (rs := [13]) (by kernel_rfl) (by simp) ?_
          refine AllReadyL.last rfl (fun K hK => ?_)
          go_simp
          refine hK.out _ _ (trivial) (fun hHeld => ?_)
          clear hK K
          try simp only [Act.put, List.setIfInBounds_toArray, List.set_cons_zero, List.set_cons_succ, List.getElem_toArray, List.getElem_cons_succ, List.getElem_cons_zero]
          refine wpAnyL_done (by kernel_rfl) ?_ _
          go_wp2
          go_roundw
          case rel => exact ⟨n' + 1, by omega, by go_num, unhide HWn, (unhide HOn).drew⟩
          case measure => simp [intOf]; omega
        · obtain rfl : n' = 16 := by omega
          have hat2 := unhide hat
          rw [mixd_all _ _ 16 (unhide HXL) rfl] at hat2
          have hrx := hat2.range
          have O5Q : Hid (Only (fun _ => False) w5 wq) := (unhide hor).trans (unhide ORQ) (fun _ _ e => e)
          clear hat hat2
          go_wp2_with (refine wpList_load_mid rfl 41 (.tmp 21) rfl b21 0 rfl (X.map bv) _ hrx Ae.Try.under16 rfl (by rw [Ae.Try.size16]; simp [unhide HXL]) ?_)
          refine (unhide HAC5 X wq (unhide HXL) (unhide O5Q)).mono ?_
          rintro ee x1 ⟨rfl, y1⟩
          obtain ⟨wz, b23, ez, eb23, a23, oz⟩ := Ae.made16 x1 (f X) (unhide HFL)
          have HT3 := hide (Ae.there16 (Arr.new x1 41 zero16 _ rfl) rfl (unhide HFL))
          have HZ3 := hide (Ae.size16s (unhide HFL))
          have Y1 := hide y1
          clear y1 hrx
          go_upto_region 17 with (refine wpList_store_mid rfl 41 (.tmp 23) (.tmp 106) rfl x1.heap.size 0 ((f X).map bv).toArray rfl rfl (unhide HT3) (unhide HZ3) (ag_one _) ?_)
          rw [Ae.zeros_eq, ← ez, ← eb23]
          have hyh : Has wz (.slice (some ⟨b23, 0, none⟩) 16 16) (f X) := by
            have h := has_lit a23.out (by rw [unhide HFL]; unfold maxLen; omega)
            rw [unhide HFL] at h
            exact h
          have HYH := hide hyh
          have ORZ : Hid (Only (fun _ => False) wr wz) := ((unhide ORQ).trans (unhide Y1) (fun _ _ e => e)).trans oz (fun _ _ e => e)
          have HXZ := hide ((unhide HXR).only (unhide ORZ) (fun _ _ _ e => e))
          have O5Z : Hid (Only (fun _ => False) w5 wz) := (unhide hor).trans (unhide ORZ) (fun _ _ e => e)
          have HLN : Hid (Has wz (.slice (some ⟨xb, xo + ii, none⟩) 16 (xc - ii)) (ch f iw P (j + 1))) := by rw [unhide hN1]; exact unhide HXZ
          clear ez eb23 a23 oz hyh HT3 HZ3
          go_wp2_with fail
          refine wp_region_held_drew (S := (fun w' => Only (fun _ => False) wz w')) (by kernel_rfl) ((Only.refl _ _).drew) (fun hHeld => ?_)
          refine wpAnyH_take (i := 0) (v := ?v51) rfl (by kernel_rfl) (by kernel_rfl) (by kernel_rfl) (fun _ _ _ h => h) (Or.inl ⟨by rfl, ?hy51⟩) (by assumption) ?rest51
          case hy51 =>
            intro w hSw
            go_simp
            try with_reducible rfl
          try simp only [Act.put, List.setIfInBounds_toArray, List.set_cons_zero, List.set_cons_succ, List.getElem_toArray, List.getElem_cons_succ, List.getElem_cons_zero]
          refine wpAnyH_take (i := 1) (v := ?v52) rfl (by kernel_rfl) (by kernel_rfl) (by kernel_rfl) (fun _ _ _ h => h) (Or.inl ⟨by rfl, ?hy52⟩) (by assumption) ?rest52
          case hy52 =>
            intro w hSw
            (have q := str_conv ((unhide HYH).only hSw (fun _ _ _ e => e)); go_simp; try with_reducible rfl)
          try simp only [Act.put, List.setIfInBounds_toArray, List.set_cons_zero, List.set_cons_succ, List.getElem_toArray, List.getElem_cons_succ, List.getElem_cons_zero]
          refine wpAnyH_take (i := 2) (v := ?v53) rfl (by kernel_rfl) (by kernel_rfl) (by kernel_rfl) (fun _ _ _ h => h) (Or.inl ⟨by rfl, ?hy53⟩) (by assumption) ?rest53
          case hy53 =>
            intro w hSw
            go_simp
            try with_reducible rfl
          try simp only [Act.put, List.setIfInBounds_toArray, List.set_cons_zero, List.set_cons_succ, List.getElem_toArray, List.getElem_cons_succ, List.getElem_cons_zero]
          refine wpAnyH_take (i := 3) (v := ?v54) rfl (by kernel_rfl) (by kernel_rfl) (by kernel_rfl) (fun _ _ _ h => h) (Or.inl ⟨by rfl, ?hy54⟩) (by assumption) ?rest54
          case hy54 =>
            intro w hSw
            go_simp
            try with_reducible rfl
          try simp only [Act.put, List.setIfInBounds_toArray, List.set_cons_zero, List.set_cons_succ, List.getElem_toArray, List.getElem_cons_succ, List.getElem_cons_zero]
          refine wpAnyH_take (i := 4) (v := ?v55) rfl (by kernel_rfl) (by kernel_rfl) (by kernel_rfl) (fun _ _ _ h => h) (Or.inl ⟨by rfl, ?hy55⟩) (by assumption) ?rest55
          case hy55 =>
            intro w hSw
            go_simp
            try with_reducible rfl
          try simp only [Act.put, List.setIfInBounds_toArray, List.set_cons_zero, List.set_cons_succ, List.getElem_toArray, List.getElem_cons_succ, List.getElem_cons_zero]
          refine wpAnyH_take (i := 5) (v := ?v56) rfl (by kernel_rfl) (by kernel_rfl) (by kernel_rfl) (fun _ _ _ h => h) (Or.inl ⟨by rfl, ?hy56⟩) (by assumption) ?rest56
          case hy56 =>
            intro w hSw
            (go_simp; rw [unhide M5]; try with_reducible rfl)
          try simp only [Act.put, List.setIfInBounds_toArray, List.set_cons_zero, List.set_cons_succ, List.getElem_toArray, List.getElem_cons_succ, List.getElem_cons_zero]
          refine wpAnyH_take (i := 6) (v := ?v57) rfl (by kernel_rfl) (by kernel_rfl) (by kernel_rfl) (fun _ _ _ h => h) (Or.inl ⟨by rfl, ?hy57⟩) (by assumption) ?rest57
          case hy57 =>
            intro w hSw
            go_simp
            try with_reducible rfl
          try simp only [Act.put, List.setIfInBounds_toArray, List.set_cons_zero, List.set_cons_succ, List.getElem_toArray, List.getElem_cons_succ, List.getElem_cons_zero]
          refine wpAnyH_take (i := 7) (v := ?v58) rfl (by kernel_rfl) (by kernel_rfl) (by kernel_rfl) (fun _ _ _ h => h) (Or.inl ⟨by rfl, ?hy58⟩) (by assumption) ?rest58
          case hy58 =>
            intro w hSw
            (have q := str_conv ((unhide HXZ).only hSw (fun _ _ _ e => e)); go_simp; try with_reducible rfl)
          try simp only [Act.put, List.setIfInBounds_toArray, List.set_cons_zero, List.set_cons_succ, List.getElem_toArray, List.getElem_cons_succ, List.getElem_cons_zero]
          refine wpAnyH_take (i := 8) (v := ?v59) rfl (by kernel_rfl) (by kernel_rfl) (by kernel_rfl) (fun _ _ _ h => h) (Or.inl ⟨by rfl, ?hy59⟩) (by assumption) ?rest59
          case hy59 =>
            intro w hSw
            go_simp
            try with_reducible rfl
          try simp only [Act.put, List.setIfInBounds_toArray, List.set_cons_zero, List.set_cons_succ, List.getElem_toArray, List.getElem_cons_succ, List.getElem_cons_zero]
          refine wpAnyH_done (by kernel_rfl) ?_ _
          clear HYH HXZ ORZ
          have hs16 : ii + 16 - ii = 16 := by omega
          go_wp2
          go_roundw
          case rel =>
            refine ⟨j + 1, by omega, ?_, ⟨xb, xo + ii, xc - ii, by rw [hs16], HLN⟩, (unhide O5Z).drew⟩
            have h1 := unhide HII
            congr 1
            omega
          case measure => have h1 := unhide HII; simp [intOf]; omega
    · obtain rfl : j = M := by omega
      have hex : ¬ 16 * (j : Int) + 16 ≤ 16 * (j : Int) := by omega
      have hjb : j ≤ 8796093022208 := unhide HMB
      have h0c := Int.emod_nonneg cut (show ((tt.length : Int) + 1) ≠ 0 by omega)
      have h3c := Int.emod_lt_of_pos cut (show (0 : Int) < (tt.length : Int) + 1 by omega)
      obtain ⟨pk, hpk⟩ : ∃ pk : Nat, cut % ((tt.length : Int) + 1) = (pk : Int) := ⟨(cut % ((tt.length : Int) + 1)).toNat, by omega⟩
      have HPK := hide (fun W => pick_any cut ((tt.length : Int) + 1) W (by omega) (by have := unhide HTS; omega))
      rw [hpk] at HPK
      obtain ⟨q, hq⟩ : ∃ q, q = pk / 16 := ⟨_, rfl⟩
      obtain ⟨mm, hmm⟩ : ∃ mm, mm = 16 * q := ⟨_, rfl⟩
      have hpkl : pk ≤ tt.length := by omega
      have hd1 : (pk : Int).tdiv 16 = (q : Int) := by rw [Int.tdiv_eq_ediv_of_nonneg (by omega)]; omega
      have hd2 : (pk : Int) / 16 = (q : Int) := by omega
      have hd3 : 16 * (q : Int) = (mm : Int) := by omega
      have hmt : mm ≤ tt.length := by omega
      have hts2 := unhide HTS
      have hmc : (mm : Int) ≤ (cc : Int) := by omega
      have HCR := hide ((unhide HC5).only (unhide hor) (fun _ _ _ e => e))
      have HTM := hide ((unhide HCR).front (n := mm) (by omega))
      have HAR := hide ((unhide HA5).only (unhide hor) (fun _ _ _ e => e))
      have HBR := hide ((unhide HB5).only (unhide hor) (fun _ _ _ e => e))
      have HXRR := hide ((unhide HX5).only (unhide hor) (fun _ _ _ e => e))
      have O5R := hide ((unhide O5).trans (unhide hor) (fun _ _ e => e))
      have HTL : Hid ((tt.take mm).length = mm) := by show _ = _; rw [List.length_take]; omega
      have HPRE : Hid ((boxT key iw (tt.take mm)).take mm = bx.take mm) := by
        show _ = _
        rw [unhide HBE, hmm]
        exact box_pre key iw tt (unhide HKB) (unhide HIV) q (by omega)
      have HDL : Hid ((boxT key iw (tt.take mm)).length = mm + 16) := by
        show _ = _
        rw [boxT_length key iw _ (unhide HKB) (unhide HIV)]
        unfold mT
        rw [unhide HTL]
        omega
      have hmj : mm ≤ 16 * j := by have h1 := unhide HMD; omega
      have hmjI : (mm : Int) ≤ 16 * (j : Int) := by omega
      have hcc2 := hcc
      clear hpk h0c h3c hlast HCR
      clear hq hmm hpkl
      go_wp2_with fail
      refine (unhide HPK _).mono ?_
      rintro ee x1 ⟨rfl, hx1⟩
      rw [hx1]
      clear hx1 x1
      go_wp2_with fail
      refine (sealM_fine key iw (tt.take mm) (unhide HKB) (unhide HIV) (by rw [unhide HTL]; omega) ka _ _ wr (unhide HAR) (unhide HBR) (unhide HTM)).mono ?_
      rintro ee w8 ⟨dv, rfl, hd, o8⟩
      have hdh := Has.ofOwns hd
      obtain ⟨db, do', dc, rfl⟩ := key_shape hdh (by rw [unhide HDL]; omega)
      rw [unhide HDL] at hdh ⊢
      have hdc : mm + 16 ≤ dc := by
        obtain ⟨_, _, e1, h1, _⟩ := hdh.shape
        simp only [Value.slice.injEq] at e1
        have := unhide HDL
        omega
      have hxc := unhide HXC
      have HD1 := hide (hdh.front (n := mm) (by rw [unhide HDL]; omega))
      rw [unhide HPRE] at HD1
      have hx8 := (unhide HXRR).only o8 (fun _ _ _ e => e)
      have HX1 := hide (hx8.front (n := mm) (by rw [unhide HBL]; omega))
      have O8 := hide ((unhide O5R).trans o8 (fun _ _ e => e))
      have hmdI : (mm : Int) ≤ (mm : Int) + 16 := by omega
      have hmdc : (mm : Int) ≤ (dc : Int) := by omega
      have hmxc : (mm : Int) ≤ (xc : Int) := by omega
      clear hd hdh o8 hx8 HAR HBR HTM HXRR O5R
      generalize bx.take mm = bm at *
      go_wp2_with fail
      refine wp_region_held_drew (S := (fun w' => Only (fun _ => False) w8 w')) (by kernel_rfl) ((Only.refl _ _).drew) (fun hHeld => ?_)
      refine wpAnyH_take (i := 0) (v := ?v60) rfl (by kernel_rfl) (by kernel_rfl) (by kernel_rfl) (fun _ _ _ h => h) (Or.inl ⟨by rfl, ?hy60⟩) (by assumption) ?rest60
      case hy60 =>
        intro w hSw
        go_simp
        try with_reducible rfl
      try simp only [Act.put, List.setIfInBounds_toArray, List.set_cons_zero, List.set_cons_succ, List.getElem_toArray, List.getElem_cons_succ, List.getElem_cons_zero]
      refine wpAnyH_take (i := 1) (v := ?v61) rfl (by kernel_rfl) (by kernel_rfl) (by kernel_rfl) (fun _ _ _ h => h) (Or.inl ⟨by rfl, ?hy61⟩) (by assumption) ?rest61
      case hy61 =>
        intro w hSw
        go_simp
        try with_reducible rfl
      try simp only [Act.put, List.setIfInBounds_toArray, List.set_cons_zero, List.set_cons_succ, List.getElem_toArray, List.getElem_cons_succ, List.getElem_cons_zero]
      refine wpAnyH_take (i := 2) (v := ?v62) rfl (by kernel_rfl) (by kernel_rfl) (by kernel_rfl) (fun _ _ _ h => h) (Or.inl ⟨by rfl, ?hy62⟩) (by assumption) ?rest62
      case hy62 =>
        intro w hSw
        go_simp
        try with_reducible rfl
      try simp only [Act.put, List.setIfInBounds_toArray, List.set_cons_zero, List.set_cons_succ, List.getElem_toArray, List.getElem_cons_succ, List.getElem_cons_zero]
      refine wpAnyH_take (i := 3) (v := ?v63) rfl (by kernel_rfl) (by kernel_rfl) (by kernel_rfl) (fun _ _ _ h => h) (Or.inl ⟨by rfl, ?hy63⟩) (by assumption) ?rest63
      case hy63 =>
        intro w hSw
        go_simp
        try with_reducible rfl
      try simp only [Act.put, List.setIfInBounds_toArray, List.set_cons_zero, List.set_cons_succ, List.getElem_toArray, List.getElem_cons_succ, List.getElem_cons_zero]
      refine wpAnyH_take (i := 4) (v := ?v64) rfl (by kernel_rfl) (by kernel_rfl) (by kernel_rfl) (fun _ _ _ h => h) (Or.inl ⟨by rfl, ?hy64⟩) (by assumption) ?rest64
      case hy64 =>
        intro w hSw
        go_simp
        try with_reducible rfl
      try simp only [Act.put, List.setIfInBounds_toArray, List.set_cons_zero, List.set_cons_succ, List.getElem_toArray, List.getElem_cons_succ, List.getElem_cons_zero]
      refine wpAnyH_take (i := 5) (v := ?v65) rfl (by kernel_rfl) (by kernel_rfl) (by kernel_rfl) (fun _ _ _ h => h) (Or.inl ⟨by rfl, ?hy65⟩) (by assumption) ?rest65
      case hy65 =>
        intro w hSw
        go_simp
        try with_reducible rfl
      try simp only [Act.put, List.setIfInBounds_toArray, List.set_cons_zero, List.set_cons_succ, List.getElem_toArray, List.getElem_cons_succ, List.getElem_cons_zero]
      refine wpAnyH_take (i := 6) (v := ?v66) rfl (by kernel_rfl) (by kernel_rfl) (by kernel_rfl) (fun _ _ _ h => h) (Or.inl ⟨by rfl, ?hy66⟩) (by assumption) ?rest66
      case hy66 =>
        intro w hSw
        go_simp
        try with_reducible rfl
      try simp only [Act.put, List.setIfInBounds_toArray, List.set_cons_zero, List.set_cons_succ, List.getElem_toArray, List.getElem_cons_succ, List.getElem_cons_zero]
      refine wpAnyH_take (i := 7) (v := ?v67) rfl (by kernel_rfl) (by kernel_rfl) (by kernel_rfl) (fun _ _ _ h => h) (Or.inl ⟨by rfl, ?hy67⟩) (by assumption) ?rest67
      case hy67 =>
        intro w hSw
        go_simp
        try with_reducible rfl
      try simp only [Act.put, List.setIfInBounds_toArray, List.set_cons_zero, List.set_cons_succ, List.getElem_toArray, List.getElem_cons_succ, List.getElem_cons_zero]
      refine wpAnyH_take (i := 8) (v := ?v68) rfl (by kernel_rfl) (by kernel_rfl) (by kernel_rfl) (fun _ _ _ h => h) (Or.inl ⟨by rfl, ?hy68⟩) (by assumption) ?rest68
      case hy68 =>
        intro w hSw
        go_simp
        try with_reducible rfl
      try simp only [Act.put, List.setIfInBounds_toArray, List.set_cons_zero, List.set_cons_succ, List.getElem_toArray, List.getElem_cons_succ, List.getElem_cons_zero]
      refine wpAnyH_take (i := 9) (v := ?v69) rfl (by kernel_rfl) (by kernel_rfl) (by kernel_rfl) (fun _ _ _ h => h) (Or.inl ⟨by rfl, ?hy69⟩) (by assumption) ?rest69
      case hy69 =>
        intro w hSw
        go_simp
        try with_reducible rfl
      try simp only [Act.put, List.setIfInBounds_toArray, List.set_cons_zero, List.set_cons_succ, List.getElem_toArray, List.getElem_cons_succ, List.getElem_cons_zero]
      refine wpAnyH_take (i := 10) (v := ?v70) rfl (by kernel_rfl) (by kernel_rfl) (by kernel_rfl) (fun _ _ _ h => h) (Or.inl ⟨by rfl, ?hy70⟩) (by assumption) ?rest70
      case hy70 =>
        intro w hSw
        go_simp
        try with_reducible rfl
      try simp only [Act.put, List.setIfInBounds_toArray, List.set_cons_zero, List.set_cons_succ, List.getElem_toArray, List.getElem_cons_succ, List.getElem_cons_zero]
      refine wpAnyH_take (i := 11) (v := ?v71) rfl (by kernel_rfl) (by kernel_rfl) (by kernel_rfl) (fun _ _ _ h => h) (Or.inl ⟨by rfl, ?hy71⟩) (by assumption) ?rest71
      case hy71 =>
        intro w hSw
        go_simp
        try with_reducible rfl
      try simp only [Act.put, List.setIfInBounds_toArray, List.set_cons_zero, List.set_cons_succ, List.getElem_toArray, List.getElem_cons_succ, List.getElem_cons_zero]
      refine wpAnyH_take (i := 12) (v := ?v72) rfl (by kernel_rfl) (by kernel_rfl) (by kernel_rfl) (fun _ _ _ h => h) (Or.inl ⟨by rfl, ?hy72⟩) (by assumption) ?rest72
      case hy72 =>
        intro w hSw
        go_simp
        try with_reducible rfl
      try simp only [Act.put, List.setIfInBounds_toArray, List.set_cons_zero, List.set_cons_succ, List.getElem_toArray, List.getElem_cons_succ, List.getElem_cons_zero]
      refine wpAnyH_take (i := 13) (v := ?v73) rfl (by kernel_rfl) (by kernel_rfl) (by kernel_rfl) (fun _ _ _ h => h) (Or.inl ⟨by rfl, ?hy73⟩) (by assumption) ?rest73
      case hy73 =>
        intro w hSw
        go_simp
        try with_reducible rfl
      try simp only [Act.put, List.setIfInBounds_toArray, List.set_cons_zero, List.set_cons_succ, List.getElem_toArray, List.getElem_cons_succ, List.getElem_cons_zero]
      refine wpAnyH_take (i := 14) (v := ?v74) rfl (by kernel_rfl) (by kernel_rfl) (by kernel_rfl) (fun _ _ _ h => h) (Or.inl ⟨by rfl, ?hy74⟩) (by assumption) ?rest74
      case hy74 =>
        intro w hSw
        go_simp
        try with_reducible rfl
      try simp only [Act.put, List.setIfInBounds_toArray, List.set_cons_zero, List.set_cons_succ, List.getElem_toArray, List.getElem_cons_succ, List.getElem_cons_zero]
      refine wpAnyH_take (i := 15) (v := ?v75) rfl (by kernel_rfl) (by kernel_rfl) (by kernel_rfl) (fun _ _ _ h => h) (Or.inl ⟨by rfl, ?hy75⟩) (by assumption) ?rest75
      case hy75 =>
        intro w hSw
        go_simp
        try with_reducible rfl
      try simp only [Act.put, List.setIfInBounds_toArray, List.set_cons_zero, List.set_cons_succ, List.getElem_toArray, List.getElem_cons_succ, List.getElem_cons_zero]
      refine wpAnyH_take (i := 16) (v := ?v76) rfl (by kernel_rfl) (by kernel_rfl) (by kernel_rfl) (fun _ _ _ h => h) (Or.inl ⟨by rfl, ?hy76⟩) (by assumption) ?rest76
      case hy76 =>
        intro w hSw
        go_simp
        try with_reducible rfl
      try simp only [Act.put, List.setIfInBounds_toArray, List.set_cons_zero, List.set_cons_succ, List.getElem_toArray, List.getElem_cons_succ, List.getElem_cons_zero]
      refine wpAnyH_take (i := 17) (v := ?v77) rfl (by kernel_rfl) (by kernel_rfl) (by kernel_rfl) (fun _ _ _ h => h) (Or.inl ⟨by rfl, ?hy77⟩) (by assumption) ?rest77
      case hy77 =>
        intro w hSw
        go_simp
        try with_reducible rfl
      try simp only [Act.put, List.setIfInBounds_toArray, List.set_cons_zero, List.set_cons_succ, List.getElem_toArray, List.getElem_cons_succ, List.getElem_cons_zero]
      refine wpAnyH_take (i := 18) (v := ?v78) rfl (by kernel_rfl) (by kernel_rfl) (by kernel_rfl) (fun _ _ _ h => h) (Or.inl ⟨by rfl, ?hy78⟩) (by assumption) ?rest78
      case hy78 =>
        intro w hSw
        (have q := str_conv ((unhide HD1).only hSw (fun _ _ _ e => e)); go_simp; try with_reducible rfl)
      try simp only [Act.put, List.setIfInBounds_toArray, List.set_cons_zero, List.set_cons_succ, List.getElem_toArray, List.getElem_cons_succ, List.getElem_cons_zero]
      refine wpAnyH_take (i := 19) (v := ?v79) rfl (by kernel_rfl) (by kernel_rfl) (by kernel_rfl) (fun _ _ _ h => h) (Or.inl ⟨by rfl, ?hy79⟩) (by assumption) ?rest79
      case hy79 =>
        intro w hSw
        go_simp
        try with_reducible rfl
      try simp only [Act.put, List.setIfInBounds_toArray, List.set_cons_zero, List.set_cons_succ, List.getElem_toArray, List.getElem_cons_succ, List.getElem_cons_zero]
      refine wpAnyH_take (i := 20) (v := ?v80) rfl (by kernel_rfl) (by kernel_rfl) (by kernel_rfl) (fun _ _ _ h => h) (Or.inl ⟨by rfl, ?hy80⟩) (by assumption) ?rest80
      case hy80 =>
        intro w hSw
        go_simp
        try with_reducible rfl
      try simp only [Act.put, List.setIfInBounds_toArray, List.set_cons_zero, List.set_cons_succ, List.getElem_toArray, List.getElem_cons_succ, List.getElem_cons_zero]
      refine wpAnyH_take (i := 21) (v := ?v81) rfl (by kernel_rfl) (by kernel_rfl) (by kernel_rfl) (fun _ _ _ h => h) (Or.inl ⟨by rfl, ?hy81⟩) (by assumption) ?rest81
      case hy81 =>
        intro w hSw
        go_simp
        try with_reducible rfl
      try simp only [Act.put, List.setIfInBounds_toArray, List.set_cons_zero, List.set_cons_succ, List.getElem_toArray, List.getElem_cons_succ, List.getElem_cons_zero]
      refine wpAnyH_take (i := 22) (v := ?v82) rfl (by kernel_rfl) (by kernel_rfl) (by kernel_rfl) (fun _ _ _ h => h) (Or.inl ⟨by rfl, ?hy82⟩) (by assumption) ?rest82
      case hy82 =>
        intro w hSw
        (have q := str_conv ((unhide HX1).only hSw (fun _ _ _ e => e)); go_simp; try with_reducible rfl)
      try simp only [Act.put, List.setIfInBounds_toArray, List.set_cons_zero, List.set_cons_succ, List.getElem_toArray, List.getElem_cons_succ, List.getElem_cons_zero]
      refine wpAnyH_take (i := 23) (v := ?v83) rfl (by kernel_rfl) (by kernel_rfl) (by kernel_rfl) (fun _ _ _ h => h) (Or.inl ⟨by rfl, ?hy83⟩) (by assumption) ?rest83
      case hy83 =>
        intro w hSw
        go_simp
        try with_reducible rfl
      try simp only [Act.put, List.setIfInBounds_toArray, List.set_cons_zero, List.set_cons_succ, List.getElem_toArray, List.getElem_cons_succ, List.getElem_cons_zero]
      refine wpAnyH_take (i := 24) (v := ?v84) rfl (by kernel_rfl) (by kernel_rfl) (by kernel_rfl) (fun _ _ _ h => h) (Or.inl ⟨by rfl, ?hy84⟩) (by assumption) ?rest84
      case hy84 =>
        intro w hSw
        go_simp
        try with_reducible rfl
      try simp only [Act.put, List.setIfInBounds_toArray, List.set_cons_zero, List.set_cons_succ, List.getElem_toArray, List.getElem_cons_succ, List.getElem_cons_zero]
      refine wpAnyH_take (i := 25) (v := ?v85) rfl (by kernel_rfl) (by kernel_rfl) (by kernel_rfl) (fun _ _ _ h => h) (Or.inl ⟨by rfl, ?hy85⟩) (by assumption) ?rest85
      case hy85 =>
        intro w hSw
        go_simp
        try with_reducible rfl
      try simp only [Act.put, List.setIfInBounds_toArray, List.set_cons_zero, List.set_cons_succ, List.getElem_toArray, List.getElem_cons_succ, List.getElem_cons_zero]
      refine wpAnyH_done (by kernel_rfl) ?_ _
      go_wp2
      go_ret
      exact ⟨rfl, (unhide O8).drew⟩
end Md
end Go.Proofs.Ytbhidmeobeecmaa
