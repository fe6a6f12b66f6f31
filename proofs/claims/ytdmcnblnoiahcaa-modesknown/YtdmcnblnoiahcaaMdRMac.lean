/-
  locksmithref8: Mac.
-/
import Derived.Test.YtdmcnblnoiahcaaMdE
import Derived.Test.YtdmcnblnoiahcaaMdD
import Derived.Test.YtdmcnblnoiahcaaHeldL
import Derived.Deep.DeepCutAuto
namespace Go.Proofs.Ytdmcnblnoiahcaa
open Go.RowKit
set_option linter.unusedSimpArgs false
set_option linter.unusedVariables false
namespace Md
open Ae (zero16 Arr ag_one range_only exec_load_mid step_store_mid added added_length upto upto_length blkOf)

theorem allB_blk (key t : List UInt8) (k : Nat) (hk : k < mN t) : blkOf (allB key t) k = (t.drop (16 * k)).take 16 := by
  have h1 := mN_le t
  unfold blkOf allB
  rw [List.drop_append_of_le_length (by rw [List.length_take]; omega), List.take_append_of_le_length (by rw [List.length_drop, List.length_take]; omega), List.drop_take, List.take_take, Nat.min_eq_left (by omega)]
theorem allB_last (key t : List UInt8) : blkOf (allB key t) (mN t) = endB (t.drop (16 * mN t)) (firstK key) := by
  have h1 := mN_le t
  have h2 := endB_length (t.drop (16 * mN t)) (firstK key) (firstK_length key)
  unfold blkOf allB
  have h3 : (t.take (16 * mN t)).length = 16 * mN t := by rw [List.length_take]; omega
  rw [List.drop_append_of_le_length (by omega), List.drop_of_length_le (by omega), List.nil_append, List.take_of_length_le (by omega)]

set_option maxRecDepth 100000 in
set_option maxHeartbeats 2000000 in
theorem rmac_not (key : List UInt8) (h : ¬ keyB key) (kv tv : Value) (w : World) (hk : Has w kv key) :
    Calls Try.prog 11 #[kv, tv] w fun e w' => e = .returned (.tuple #[.slice none 0 0, .int .i64 1]) ∧ w' = w := by
  have HN := hide (rnew_not key h kv w hk)
  clear hk h
  go_enter Try.func11, Try.ntmps11
  go_wp2_with fail
  refine (unhide HN).mono ?_
  rintro e w1 ⟨rfl, hw1⟩
  rw [hw1]
  clear hw1 w1
  go_wp2
  go_ret2
  exact ⟨rfl, rfl⟩

def lenV : Value → Nat
  | .slice _ n _ => n
  | _ => 0

set_option maxRecDepth 100000 in
set_option maxHeartbeats 4000000 in
theorem rmac_fine (key t : List UInt8) (h : keyB key) (hl : t.length ≤ 140737488351232) (kv tv : Value) (w : World) (hk : Has w kv key) (ht : Has w tv t) :
    Calls Try.prog 11 #[kv, tv] w fun e w' => ∃ v, e = .returned (.tuple #[v, .int .i64 0]) ∧ Has w' v (macT key t) ∧ Only (fun _ => False) w w' := by
  have HN := hide (rnew_fine key h kv w hk)
  have HT := hide ht
  have hsl := sealF_length key h zero16 rfl
  have HSL := hide hsl
  obtain ⟨f, hf⟩ : ∃ f, f = sealF key := ⟨_, rfl⟩
  have HF : Hid (∀ s, s.length = 16 → (f s).length = 16) := by rw [hf]; exact fun s hs => sealF_length key h s hs
  obtain ⟨m, hm⟩ : ∃ m, m = mN t := ⟨_, rfl⟩
  obtain ⟨X, hX⟩ : ∃ X, X = allB key t := ⟨_, rfl⟩
  have HXL : Hid (X.length = 16 * (m + 1)) := by rw [hX, hm]; exact allB_length key t
  have HXB : Hid (∀ k, k < m → blkOf X k = (t.drop (16 * k)).take 16) := by rw [hX, hm]; exact allB_blk key t
  have HXE : Hid (blkOf X m = endB (t.drop (16 * m)) (firstK key)) := by rw [hX, hm]; exact allB_last key t
  have HMT : Hid (macT key t = ch f zero16 X (m + 1)) := by show _ = _; rw [hX, hm, hf]; rfl
  have HMN : Hid (m = (t.length - 1) / 16) := by rw [hm]; rfl
  have HLN := hide hl
  clear hk ht hl hsl hX hm
  have hfe := hide hf
  clear hf
  go_enter Try.func11, Try.ntmps11
  go_wp2_with fail
  refine (unhide HN).mono ?_
  rintro e w1 ⟨cb, rfl, hc, o1⟩
  have HAC := hide (racts_seal key h hc)
  rw [← unhide hfe] at HAC HSL
  have O1 := hide o1
  have HT1 := hide ((unhide HT).only o1 (fun _ _ _ e => e))
  clear hc o1 HN HT
  go_wp2_with fail
  rw [Ae.zeros_eq]
  refine (unhide HAC zero16 _ rfl (Only.refl _ _)).mono ?_
  rintro e w2 ⟨rfl, o2⟩
  have O2 := hide o2
  clear o2
  go_wp2_with fail
  refine (rdouble_any (f zero16) _ (unhide HSL)).mono ?_
  rintro e w3 ⟨rfl, o3⟩
  obtain ⟨F1, hF1⟩ : ∃ F1, F1 = firstK key := ⟨_, rfl⟩
  have hfl : F1.length = 16 := by rw [hF1]; exact firstK_length key
  rw [← hF1] at HXE
  rw [show dbl (f zero16) = F1 from by rw [hF1, unhide hfe]; rfl]
  clear hF1
  obtain ⟨wy, b8, ey, eb8, a8, o8⟩ := Ae.made16 w3 F1 hfl
  have HT2 := hide (Ae.there16 (Arr.new w3 36 zero16 _ rfl) rfl hfl)
  have HZ2 := hide (Ae.size16s hfl)
  have HFL := hide hfl
  have O3 := hide o3
  clear hfl o3
  go_upto_region 5 with (refine wpList_store_mid rfl 36 (.tmp 8) (.tmp 22) rfl w3.heap.size 0 (F1.map bv).toArray rfl rfl (unhide HT2) (unhide HZ2) (ag_one _) ?_)
  rw [Ae.zeros_eq, ← ey, ← eb8]
  have A8 := hide a8
  have O1Y : Hid (Only (fun _ => False) w1 wy) := ((unhide O2).trans (unhide O3) (fun _ _ e => e)).trans o8 (fun _ _ e => e)
  clear ey eb8 o8 HT2 HZ2 O2 O3 a8
  have hr8 := (unhide A8).range
  go_wp2_with (refine wpList_load_mid rfl 36 (.tmp 8) rfl b8 0 rfl (F1.map bv) _ hr8 Ae.Try.under16 rfl (by rw [Ae.Try.size16]; simp [unhide HFL]) ?_)
  refine (rdouble_any F1 _ (unhide HFL)).mono ?_
  rintro e w4 ⟨rfl, o4⟩
  obtain ⟨F2, hF2⟩ : ∃ F2, F2 = dbl F1 := ⟨_, rfl⟩
  have hfl2 : F2.length = 16 := by rw [hF2]; exact dbl_length F1
  rw [← hF2]
  have HF2 := hide hF2
  clear hF2
  obtain ⟨wz, b9, ez, eb9, a9, o9⟩ := Ae.made16 w4 F2 hfl2
  have HT2 := hide (Ae.there16 (Arr.new w4 36 zero16 _ rfl) rfl hfl2)
  have HZ2 := hide (Ae.size16s hfl2)
  have HFL2 := hide hfl2
  have O4 := hide o4
  clear hfl2 o4 hr8
  go_upto_region 6 with (refine wpList_store_mid rfl 36 (.tmp 9) (.tmp 24) rfl w4.heap.size 0 (F2.map bv).toArray rfl rfl (unhide HT2) (unhide HZ2) (ag_one _) ?_)
  rw [Ae.zeros_eq, ← ez, ← eb9]
  have A9 := hide a9
  have OYZ : Hid (Only (fun _ => False) wy wz) := (unhide O4).trans o9 (fun _ _ e => e)
  clear ez eb9 o9 HT2 HZ2 O4 a9
  obtain ⟨wl, b10, el, eb10, a10, o10⟩ := Ae.fresh16 wz
  go_upto_region 7 with fail
  rw [Ae.zeros_eq, ← el, ← eb10]
  have A10 := hide a10
  have O1L : Hid (Only (fun _ => False) w1 wl) := ((unhide O1Y).trans (unhide OYZ) (fun _ _ e => e)).trans o10 (fun _ _ e => e)
  have A9L := hide ((unhide A9).only o10 (fun e => e))
  have A8L := hide (((unhide A8).only (unhide OYZ) (fun e => e)).only o10 (fun e => e))
  have HB10 : Hid (b10 = wz.heap.size) := eb10
  have h810 : Hid (b8 ≠ b10) := by show _ ≠ _; have := (unhide A8).lt; have h2 := (unhide OYZ).size; omega
  have h910 : Hid (b9 ≠ b10) := by show _ ≠ _; have := (unhide A9).lt; omega
  have HW1 : Hid (w1.heap.size ≤ b10) := by show _ ≤ _; have h1 := (unhide O1Y).size; have h2 := (unhide OYZ).size; omega
  clear el eb10 a10 o10 A8 A9
  obtain ⟨ta, tc, hts, htc, _⟩ := (unhide HT1).shape
  subst hts
  go_loopw [1] (fun s wr => ∃ k : Nat, k ≤ m ∧ 16 * k ≤ t.length ∧ (∃ ao cap, s = .slice ao (t.length - 16 * k) cap) ∧ Hid (Has w1 s (t.drop (16 * k))) ∧ Hid (Arr wr b10 36 (ch f zero16 X k)) ∧ Hid (Only (fun j => j = b10) wl wr)) (fun s _ => lenV s)
  case atStart => exact ⟨0, Nat.zero_le _, Nat.zero_le _, ⟨_, _, rfl⟩, by rw [Nat.mul_zero, List.drop_zero]; exact HT1, A10, Only.refl _ _⟩
  case round =>
    rename World => wr
    obtain ⟨k, hkm, hkl, ⟨ao, cap, rfl⟩, hs, har, hor⟩ := hrel
    obtain ⟨L, hL⟩ : ∃ L, L = t.length - 16 * k := ⟨_, rfl⟩
    rw [← hL] at hs ⊢
    obtain ⟨R, hR⟩ : ∃ R, R = t.drop (16 * k) := ⟨_, rfl⟩
    rw [← hR] at hs
    have hRL : R.length = L := by rw [hR, List.length_drop, hL]
    have hmn := unhide HMN
    have hlnn := unhide HLN
    have OW : Hid (Only (fun _ => False) w1 wr) := (unhide O1L).trans (unhide hor) (fun j hj e => by have h1 := unhide HW1; omega)
    obtain ⟨C, hC⟩ : ∃ C, C = ch f zero16 X k := ⟨_, rfl⟩
    have hCl : C.length = 16 := by rw [hC]; exact ch_length f (unhide HF) zero16 X rfl (m + 1) (unhide HXL) k (by omega)
    rw [← hC] at har
    have HCL := hide hCl
    have hlc : L ≤ cap := by
      obtain ⟨_, c2, e, hle, _⟩ := (unhide hs).shape
      simp only [Value.slice.injEq] at e
      omega
    by_cases hlt : 16 < L
    · have hkm2 : k < m := by omega
      obtain ⟨B, hB⟩ : ∃ B, B = blkOf X k := ⟨_, rfl⟩
      have hBR : B = R.take 16 := by rw [hB, unhide HXB k hkm2, hR]
      have hBl : B.length = 16 := by rw [hBR, List.length_take]; omega
      have hN1 : Hid (ch f zero16 X (k + 1) = f (added C B)) := by rw [hB, hC, added_comm]; rfl
      have hal := added_length hCl hBl
      have hfl := unhide HF _ hal
      have HBL := hide hBl
      have HAL := hide hal
      have HFLn := hide hfl
      have hmid := Has.front (unhide hs) (n := 16) (by omega)
      rw [← hBR] at hmid
      have HMID := hide (hmid.only (unhide OW) (fun _ _ _ e => e))
      have hbk := Has.back (unhide hs) (n := 16) (by omega)
      rw [hRL] at hbk
      have HBK : Hid (Has w1 (.slice (ao.map (fun x => x.add 16)) (t.length - 16 * (k + 1)) (cap - 16)) (t.drop (16 * (k + 1)))) := by
        show Has _ _ _
        rw [show t.length - 16 * (k + 1) = L - 16 by omega, show t.drop (16 * (k + 1)) = R.drop 16 by rw [hR, List.drop_drop]; congr 1]
        exact hbk
      have hgl : (16 : Int) < (L : Int) := by omega
      have hcap : (16 : Int) ≤ (cap : Int) := by omega
      have hLc : (L : Int) ≤ (cap : Int) := by omega
      have hnc : ¬ cap = 16 := by omega
      have HLk : Hid (L - 16 = t.length - 16 * (k + 1)) := by show _ = _; omega
      have HK1 : Hid (16 * (k + 1) ≤ t.length) := by show _ ≤ _; omega
      have HL := hide hL
      obtain ⟨tb, tof, rfl, -, -⟩ := (unhide hs).at (by omega)
      clear hC hCl hB hBR hBl hal hfl hmid hbk hR hRL hmn hlnn hL
      go_wp2_with fail
      refine wp_region_last_drew (S := (fun w' => Only (fun _ => False) wr w')) 7 (by kernel_rfl) ((Only.refl _ _).drew) (fun hHeld => ?_)
      refine wpAnyL_take (i := 0) (v := ?v1) rfl (by kernel_rfl) (by kernel_rfl) (by kernel_rfl) (by kernel_rfl) (fun _ _ _ h => h) (Or.inl ⟨by rfl, ?hy1⟩) (by assumption) ?rest1
      case hy1 =>
        intro w hSw
        go_simp
        try with_reducible rfl
      try simp only [Act.put, List.setIfInBounds_toArray, List.set_cons_zero, List.set_cons_succ, List.getElem_toArray, List.getElem_cons_succ, List.getElem_cons_zero]
      refine wpAnyL_take (i := 1) (v := ?v2) rfl (by kernel_rfl) (by kernel_rfl) (by kernel_rfl) (by kernel_rfl) (fun _ _ _ h => h) (Or.inl ⟨by rfl, ?hy2⟩) (by assumption) ?rest2
      case hy2 =>
        intro w hSw
        (refine exec_load_mid 36 (.tmp 10) ?_ b10 0 ?_ (C.map bv) _ (range_only (unhide har).range hSw (fun e => e)) Ae.Try.under16 rfl (by rw [Ae.Try.size16]; simp [unhide HCL]) <;> rfl)
      try simp only [Act.put, List.setIfInBounds_toArray, List.set_cons_zero, List.set_cons_succ, List.getElem_toArray, List.getElem_cons_succ, List.getElem_cons_zero]
      refine wpAnyL_take (i := 2) (v := ?v3) rfl (by kernel_rfl) (by kernel_rfl) (by kernel_rfl) (by kernel_rfl) (fun _ _ _ h => h) (Or.inl ⟨by rfl, ?hy3⟩) (by assumption) ?rest3
      case hy3 =>
        intro w hSw
        go_simp
        try with_reducible rfl
      try simp only [Act.put, List.setIfInBounds_toArray, List.set_cons_zero, List.set_cons_succ, List.getElem_toArray, List.getElem_cons_succ, List.getElem_cons_zero]
      refine wpAnyL_take (i := 3) (v := ?v4) rfl (by kernel_rfl) (by kernel_rfl) (by kernel_rfl) (by kernel_rfl) (fun _ _ _ h => h) (Or.inl ⟨by rfl, ?hy4⟩) (by assumption) ?rest4
      case hy4 =>
        intro w hSw
        go_simp
        try with_reducible rfl
      try simp only [Act.put, List.setIfInBounds_toArray, List.set_cons_zero, List.set_cons_succ, List.getElem_toArray, List.getElem_cons_succ, List.getElem_cons_zero]
      refine wpAnyL_ready (rs := [4]) (by kernel_rfl) (by simp) ?_
      refine AllReadyL.cons rfl (fun K hK => ?_) AllReadyL.nil
      go_simp
      go_wp2_with fail; refine (rblock_any _ B _ ((unhide HMID).only ((Only.refl (fun _ => False) wr).drew) (fun _ _ _ e => e))).mono ?_; rintro e x1 ⟨rfl, y1⟩; have Q1 : Hid (Only (fun _ => False) wr x1) := ((Only.refl (fun _ => False) wr).drew).trans y1 (fun _ _ e => e); clear y1; rw [ivS_self B (unhide HBL)]
      refine hK.out _ _ ((unhide Q1)) (fun hHeld => ?_)
      clear hK K
      try simp only [Act.put, List.setIfInBounds_toArray, List.set_cons_zero, List.set_cons_succ, List.getElem_toArray, List.getElem_cons_succ, List.getElem_cons_zero]
      refine wpAnyL_ready (rs := [5]) (by kernel_rfl) (by simp) ?_
      refine AllReadyL.cons rfl (fun K hK => ?_) AllReadyL.nil
      go_simp
      go_wp2_with fail; refine (rxor_any C B x1 (unhide HCL) (unhide HBL)).mono ?_; rintro e x2 ⟨rfl, y2⟩; have Q2 : Hid (Only (fun _ => False) wr x2) := (unhide Q1).trans y2 (fun _ _ e => e); clear y2
      refine hK.out _ _ ((unhide Q2)) (fun hHeld => ?_)
      clear hK K
      try simp only [Act.put, List.setIfInBounds_toArray, List.set_cons_zero, List.set_cons_succ, List.getElem_toArray, List.getElem_cons_succ, List.getElem_cons_zero]
      refine wpAnyL_ready (rs := [6]) (by kernel_rfl) (by simp) ?_
      refine AllReadyL.cons rfl (fun K hK => ?_) AllReadyL.nil
      go_simp
      go_wp2_with fail; refine (unhide HAC (added C B) x2 (unhide HAL) ((unhide OW).trans (unhide Q2) (fun _ _ e => e))).mono ?_; rintro e x3 ⟨rfl, y3⟩; have Q3 : Hid (Only (fun _ => False) wr x3) := (unhide Q2).trans y3 (fun _ _ e => e); clear y3
      refine hK.out _ _ ((unhide Q3)) (fun hHeld => ?_)
      clear hK K
      try simp only [Act.put, List.setIfInBounds_toArray, List.set_cons_zero, List.set_cons_succ, List.getElem_toArray, List.getElem_cons_succ, List.getElem_cons_zero]
      have A3x := hide ((unhide har).only (unhide Q3) (fun e => e))
      have HT3 := hide (Ae.there16 (unhide A3x) (unhide HCL) (unhide HFLn))
      have HZ3 := hide (Ae.size16s (unhide HFLn))
      refine wpAnyL_ready (rs := [7]) (by kernel_rfl) (by simp) ?_
      refine AllReadyL.last rfl (fun K hK => ?_)
      refine step_store_mid rfl 36 (.tmp 10) (.tmp 34) rfl b10 0 ((f (added C B)).map bv).toArray rfl rfl (unhide HT3) (unhide HZ3) (ag_one _) ?_
      refine hK.out _ _ (trivial) (fun hHeld => ?_)
      clear hK K
      try simp only [Act.put, List.setIfInBounds_toArray, List.set_cons_zero, List.set_cons_succ, List.getElem_toArray, List.getElem_cons_succ, List.getElem_cons_zero]
      refine wpAnyL_done (by kernel_rfl) ?_ _
      obtain ⟨wn, en, an, on⟩ := Ae.restored x3 b10 C (f (added C B)) (unhide A3x) (by rw [unhide HFLn, unhide HCL])
      first
        | rw [← en]
        | (simp only [List.toList_toArray]; rw [← en])
      rw [← unhide hN1] at an
      have AN := hide an
      have ON : Hid (Only (fun j => j = b10) wl wn) := ((unhide hor).trans (unhide Q3) (fun _ _ e => e.elim)).trans on (fun _ _ e => e)
      clear en an on hN1 A3x HT3 HZ3 har hor Q1 Q2 Q3
      go_wp2
      go_roundw
      case rel =>
        refine ⟨k + 1, by omega, unhide HK1, ⟨some ⟨tb, tof + 16, none⟩, cap - 16, by rw [unhide HLk]⟩, ?_, AN, ON⟩
        have hq := HBK
        simp only [Option.map_some, Addr.add] at hq
        rw [unhide HLk]
        exact hq
      case measure => simp [lenV]; omega
    · have hgl : ¬ (16 : Int) < (L : Int) := by omega
      obtain rfl : k = m := by omega
      have HS := hide ((unhide hs).only (unhide OW) (fun _ _ _ e => e))
      have HRL := hide hRL
      have HRM : Hid (blkOf X k = endB R F1) := by rw [hR]; exact HXE
      have A8R := hide ((unhide A8L).only (unhide hor) (fun e => unhide h810 e))
      have A9R := hide ((unhide A9L).only (unhide hor) (fun e => unhide h910 e))
      have HN1 : Hid (macT key t = f (added C (endB R F1))) := by
        show _ = _
        rw [unhide HMT, ← unhide HRM, hC, added_comm]
        rfl
      have HRV : Hid (Has wr (.slice ao L cap) R) := HS
      clear hC hCl hR hRL hmn hlnn hL hs HS
      go_wp2_with fail
      refine (rblock_any _ R wr (unhide HRV)).mono ?_
      rintro e x1 ⟨rfl, y1⟩
      obtain ⟨wp, b11, ep, eb11, a11, op⟩ := Ae.made16 x1 (ivS R) (ivS_length R)
      have HT4 := hide (Ae.there16 (Arr.new x1 36 zero16 _ rfl) rfl (ivS_length R))
      have HZ4 := hide (Ae.size16s (ivS_length R))
      have Y1 := hide y1
      clear y1
      go_upto_region 11 with (refine wpList_store_mid rfl 36 (.tmp 11) (.tmp 38) rfl x1.heap.size 0 ((ivS R).map bv).toArray rfl rfl (unhide HT4) (unhide HZ4) (ag_one _) ?_)
      rw [Ae.zeros_eq, ← ep, ← eb11]
      have A11 := hide a11
      have OWP : Hid (Only (fun _ => False) wr wp) := (unhide Y1).trans op (fun _ _ e => e)
      have A8P := hide ((unhide A8R).only (unhide OWP) (fun e => e))
      have A9P := hide ((unhide A9R).only (unhide OWP) (fun e => e))
      have A10P := hide ((unhide har).only (unhide OWP) (fun e => e))
      have O1P : Hid (Only (fun _ => False) w1 wp) := (unhide OW).trans (unhide OWP) (fun _ _ e => e)
      have HB11 : Hid (wr.heap.size ≤ b11) := by show _ ≤ _; have := (unhide Y1).size; omega
      have h1011 : Hid (b10 ≠ b11) := by show _ ≠ _; have h1 := (unhide har).lt; have h2 := unhide HB11; omega
      have HWLR : Hid (wl.heap.size ≤ wr.heap.size) := (unhide hor).size
      have HW11 : Hid (w1.heap.size ≤ b11) := by show _ ≤ _; have h1 := (unhide OW).size; have h2 := unhide HB11; omega
      have HIL : Hid ((ivS R).length = 16) := ivS_length R
      clear ep eb11 a11 op HT4 HZ4 A8R A9R har hor
      by_cases h16 : L = 16
      · have HE : Hid (endB R F1 = added R F1) := by show _ = _; unfold endB; rw [if_pos (by have := unhide HRL; omega)]
        have HI : Hid (ivS R = R) := ivS_self R (by have := unhide HRL; omega)
        have hI : (ivS R) = R := unhide HI
        rw [hI] at A11
        clear HI HIL hI
        have HRL16 : Hid (R.length = 16) := by show _ = _; have := unhide HRL; omega
        have hal : Hid ((added R F1).length = 16) := added_length (unhide HRL16) (unhide HFL)
        subst h16
        have hr11 := (unhide A11).range
        have hr8 := (unhide A8P).range
        go_wp2_with (first
          | (refine wpList_load_mid rfl 36 (.tmp 11) rfl b11 0 rfl (R.map bv) _ hr11 Ae.Try.under16 rfl (by rw [Ae.Try.size16]; simp [unhide HRL16]) ?_)
          | (refine wpList_load_mid rfl 36 (.tmp 8) rfl b8 0 rfl (F1.map bv) _ hr8 Ae.Try.under16 rfl (by rw [Ae.Try.size16]; simp [unhide HFL]) ?_))
        refine (rxor_any R F1 _ (unhide HRL16) (unhide HFL)).mono ?_
        rintro e x2 ⟨rfl, y2⟩
        have Y2 := hide y2
        have A11x := hide ((unhide A11).only y2 (fun e => e))
        have HT5 := hide (Ae.there16 (unhide A11x) (unhide HRL16) (unhide hal))
        have HZ5 := hide (Ae.size16s (unhide hal))
        clear y2 hr11 hr8
        go_upto_region 15 with (refine wpList_store_mid rfl 36 (.tmp 11) (.tmp 44) rfl b11 0 ((added R F1).map bv).toArray rfl rfl (unhide HT5) (unhide HZ5) (ag_one _) ?_)
        obtain ⟨wq, eq, aq, oq⟩ := Ae.restored x2 b11 R (added R F1) (unhide A11x) (by rw [unhide hal, unhide HRL16])
        first
          | rw [← eq]
          | (simp only [List.toList_toArray]; rw [← eq])
        rw [← unhide HE] at aq hal
        have AQ := hide aq
        have OPQ : Hid (Only (fun j => j = b11) wp wq) := ((Only.refl (fun j => j = b11) wp).trans (unhide Y2) (fun _ _ e => e.elim)).trans oq (fun _ _ e => e)
        have A10Q := hide (((unhide A10P).only (unhide Y2) (fun e => e)).only oq (fun e => unhide h1011 e))
        have O1Q : Hid (Only (fun _ => False) w1 wq) := (unhide O1P).trans (unhide OPQ) (fun j hj e => by have := unhide HW11; omega)
        clear eq aq oq HT5 HZ5 A11x
        generalize endB R F1 = E at *
        have hr10 := (unhide A10Q).range
        have hr11 := (unhide AQ).range
        have hcal : Hid ((added C E).length = 16) := added_length (unhide HCL) (unhide hal)
        have hfal : Hid ((f (added C E)).length = 16) := unhide HF _ (unhide hcal)
        go_wp2_with (first
          | (refine wpList_load_mid rfl 36 (.tmp 10) rfl b10 0 rfl (C.map bv) _ hr10 Ae.Try.under16 rfl (by rw [Ae.Try.size16]; simp [unhide HCL]) ?_)
          | (refine wpList_load_mid rfl 36 (.tmp 11) rfl b11 0 rfl (E.map bv) _ hr11 Ae.Try.under16 rfl (by rw [Ae.Try.size16]; simp [unhide hal]) ?_))
        refine (rxor_any C E _ (unhide HCL) (unhide hal)).mono ?_
        rintro e x5 ⟨rfl, y5⟩
        have Y5 := hide y5
        clear y5 hr10 hr11
        go_wp2_with fail
        refine (unhide HAC (added C E) x5 (unhide hcal) ((unhide O1Q).trans (unhide Y5) (fun _ _ e => e))).mono ?_
        rintro e x6 ⟨rfl, y6⟩
        have Y6 : Hid (Only (fun _ => False) wq x6) := (unhide Y5).trans y6 (fun _ _ e => e)
        have A10x := hide ((unhide A10Q).only (unhide Y6) (fun e => e))
        have HT6 := hide (Ae.there16 (unhide A10x) (unhide HCL) (unhide hfal))
        have HZ6 := hide (Ae.size16s (unhide hfal))
        clear y6
        go_upto_region 16 with (refine wpList_store_mid rfl 36 (.tmp 10) (.tmp 55) rfl b10 0 ((f (added C E)).map bv).toArray rfl rfl (unhide HT6) (unhide HZ6) (ag_one _) ?_)
        obtain ⟨wu, eu, au, ou⟩ := Ae.restored x6 b10 C (f (added C E)) (unhide A10x) (by rw [unhide hfal, unhide HCL])
        first
          | rw [← eu]
          | (simp only [List.toList_toArray]; rw [← eu])
        have hh : Has wu (.slice (some ⟨b10, 0, none⟩) 16 16) (f (added C E)) := by
          have h := has_lit au.out (by rw [unhide hfal]; unfold maxLen; omega)
          rw [unhide hfal] at h
          exact h
        have HH := hide hh
        have OU : Hid (Only (fun _ => False) w1 wu) := ((unhide O1Q).trans (unhide Y6) (fun _ _ e => e)).trans ou (fun j hj e => by have := unhide HW1; omega)
        clear eu au ou hh HT6 HZ6
        go_wp2
        go_ret2
        exact ⟨_, rfl, by rw [unhide HN1]; exact unhide HH, (unhide O1).trans (unhide OU) (fun _ _ e => e)⟩
      · have hL15 : L < 16 := by omega
        have HE : Hid (endB R F1 = added (endP R) F2) := by show _ = _; unfold endB; rw [if_neg (by have := unhide HRL; omega), unhide HF2]
        have hLI : ((L : Int) == 16) = false := by rw [beq_eq_false_iff_ne]; omega
        have hLi : (L : Int) < 16 := by omega
        have hL0 : (0 : Int) ≤ (L : Int) := by omega
        have hLn : ¬ ((L : Int) = 16) := by omega
        have hLg : L < (ivS R).length := by rw [unhide HIL]; omega
        obtain ⟨g0, hg0⟩ : ∃ g, (ivS R)[L]? = some g := ⟨_, List.getElem?_eq_getElem hLg⟩
        have hcx := (unhide A11).cell L g0 hg0
        have hfx := (unhide A11).free L
        have a5 : Arr (wp.setCell ⟨b11, L, none⟩ (.int .u8 128)) b11 36 (endP R) := by
          have := (unhide A11).set L 128
          unfold endP
          rw [unhide HRL]
          exact this
        have o5 : Only (fun j => j = b11) wp (wp.setCell ⟨b11, L, none⟩ (.int .u8 128)) := (Only.refl _ wp).here L _
        obtain ⟨wx, hwx⟩ : ∃ wx, wx = wp.setCell ⟨b11, L, none⟩ (.int .u8 128) := ⟨_, rfl⟩
        rw [← hwx] at a5 o5
        have A5 := hide a5
        have O5 := hide o5
        have HEL : Hid ((endP R).length = 16) := endP_length R
        have hal : Hid ((added (endP R) F2).length = 16) := added_length (unhide HEL) (unhide HFL2)
        have h911 : Hid (b9 ≠ b11) := by show _ ≠ _; have h1 := (unhide A9L).lt; have h2 := (unhide O1L).size; have h3 := unhide HB11; have h4 := unhide HWLR; omega
        have A9x := hide ((unhide A9P).only o5 (fun e => unhide h911 e))
        have A10x := hide ((unhide A10P).only o5 (fun e => unhide h1011 e))
        have HX := hide hwx
        clear a5 o5 hwx h16 hLg hg0
        go_upto_region 14 with fail
        rw [← unhide HX]
        clear hcx hfx HX
        have hr11 := (unhide A5).range
        have hr9 := (unhide A9x).range
        go_wp2_with (first
          | (refine wpList_load_mid rfl 36 (.tmp 11) rfl b11 0 rfl ((endP R).map bv) _ hr11 Ae.Try.under16 rfl (by rw [Ae.Try.size16]; simp [unhide HEL]) ?_)
          | (refine wpList_load_mid rfl 36 (.tmp 9) rfl b9 0 rfl (F2.map bv) _ hr9 Ae.Try.under16 rfl (by rw [Ae.Try.size16]; simp [unhide HFL2]) ?_))
        refine (rxor_any (endP R) F2 _ (unhide HEL) (unhide HFL2)).mono ?_
        rintro e x2 ⟨rfl, y2⟩
        have Y2 : Hid (Only (fun j => j = b11) wp x2) := (unhide O5).trans y2 (fun _ _ e => e.elim)
        have A11x := hide ((unhide A5).only y2 (fun e => e))
        have A10P := hide ((unhide A10x).only y2 (fun e => e))
        have HT5 := hide (Ae.there16 (unhide A11x) (unhide HEL) (unhide hal))
        have HZ5 := hide (Ae.size16s (unhide hal))
        clear y2 hr11 hr9
        go_upto_region 15 with (refine wpList_store_mid rfl 36 (.tmp 11) (.tmp 50) rfl b11 0 ((added (endP R) F2).map bv).toArray rfl rfl (unhide HT5) (unhide HZ5) (ag_one _) ?_)
        obtain ⟨wq, eq, aq, oq⟩ := Ae.restored x2 b11 (endP R) (added (endP R) F2) (unhide A11x) (by rw [unhide hal, unhide HEL])
        first
          | rw [← eq]
          | (simp only [List.toList_toArray]; rw [← eq])
        rw [← unhide HE] at aq hal
        have AQ := hide aq
        have OPQ : Hid (Only (fun j => j = b11) wp wq) := (unhide Y2).trans oq (fun _ _ e => e)
        have A10Q := hide ((unhide A10P).only oq (fun e => unhide h1011 e))
        have O1Q : Hid (Only (fun _ => False) w1 wq) := (unhide O1P).trans (unhide OPQ) (fun j hj e => by have := unhide HW11; omega)
        clear eq aq oq HT5 HZ5 A11x
        generalize endB R F1 = E at *
        have hr10 := (unhide A10Q).range
        have hr11 := (unhide AQ).range
        have hcal : Hid ((added C E).length = 16) := added_length (unhide HCL) (unhide hal)
        have hfal : Hid ((f (added C E)).length = 16) := unhide HF _ (unhide hcal)
        go_wp2_with (first
          | (refine wpList_load_mid rfl 36 (.tmp 10) rfl b10 0 rfl (C.map bv) _ hr10 Ae.Try.under16 rfl (by rw [Ae.Try.size16]; simp [unhide HCL]) ?_)
          | (refine wpList_load_mid rfl 36 (.tmp 11) rfl b11 0 rfl (E.map bv) _ hr11 Ae.Try.under16 rfl (by rw [Ae.Try.size16]; simp [unhide hal]) ?_))
        refine (rxor_any C E _ (unhide HCL) (unhide hal)).mono ?_
        rintro e x5 ⟨rfl, y5⟩
        have Y5 := hide y5
        clear y5 hr10 hr11
        go_wp2_with fail
        refine (unhide HAC (added C E) x5 (unhide hcal) ((unhide O1Q).trans (unhide Y5) (fun _ _ e => e))).mono ?_
        rintro e x6 ⟨rfl, y6⟩
        have Y6 : Hid (Only (fun _ => False) wq x6) := (unhide Y5).trans y6 (fun _ _ e => e)
        have A10x := hide ((unhide A10Q).only (unhide Y6) (fun e => e))
        have HT6 := hide (Ae.there16 (unhide A10x) (unhide HCL) (unhide hfal))
        have HZ6 := hide (Ae.size16s (unhide hfal))
        clear y6
        go_upto_region 16 with (refine wpList_store_mid rfl 36 (.tmp 10) (.tmp 55) rfl b10 0 ((f (added C E)).map bv).toArray rfl rfl (unhide HT6) (unhide HZ6) (ag_one _) ?_)
        obtain ⟨wu, eu, au, ou⟩ := Ae.restored x6 b10 C (f (added C E)) (unhide A10x) (by rw [unhide hfal, unhide HCL])
        first
          | rw [← eu]
          | (simp only [List.toList_toArray]; rw [← eu])
        have hh : Has wu (.slice (some ⟨b10, 0, none⟩) 16 16) (f (added C E)) := by
          have h := has_lit au.out (by rw [unhide hfal]; unfold maxLen; omega)
          rw [unhide hfal] at h
          exact h
        have HH := hide hh
        have OU : Hid (Only (fun _ => False) w1 wu) := ((unhide O1Q).trans (unhide Y6) (fun _ _ e => e)).trans ou (fun j hj e => by have := unhide HW1; omega)
        clear eu au ou hh HT6 HZ6
        go_wp2
        go_ret2
        exact ⟨_, rfl, by rw [unhide HN1]; exact unhide HH, (unhide O1).trans (unhide OU) (fun _ _ e => e)⟩

end Md
end Go.Proofs.Ytdmcnblnoiahcaa
