/-
  The law: an item's bytes, cut anywhere, or with one byte more, are refused.
-/
import Derived.Test.YtedmfjnmclbkpaaDoorTtKnow
import Derived.Test.YtedmfjnmclbkpaaDoorTtBuild
import Derived.Test.YtedmfjnmclbkpaaDoorHand
namespace Go.Proofs.YtedmfjnmclbkpaaDoor
open Go.RowKit
set_option linter.unusedSimpArgs false
set_option linter.unusedVariables false
namespace Tt

mutual
theorem size_count : ∀ (i : It), i.small 32 → i.size ≤ 40 * i.count
  | .mk t y n d ks, h => by
    rw [It.small] at h
    have hk := sizeAll_count ks h.2.2.2.2
    rw [It.size, It.count]
    by_cases h1 : y = 1
    · rw [if_pos h1]; omega
    · rw [if_neg h1]
      by_cases h2 : y = 4 ∨ y = 7 ∨ y = 8
      · rw [if_pos h2]; have := h.2.2.2.1; unfold pad8; omega
      · rw [if_neg h2]; omega
theorem sizeAll_count : ∀ (ks : List It), It.smallAll 32 ks → It.sizeAll ks ≤ 40 * It.countAll ks
  | [], _ => Nat.zero_le _
  | k :: r, h => by
    rw [It.smallAll] at h
    have := size_count k h.1
    have := sizeAll_count r h.2
    rw [It.sizeAll, It.countAll]
    omega
end
theorem dAll_err (bs : List UInt8) (e : Int) (h : dAll bs = .err e) : 0 < e := by
  unfold dAll at h
  by_cases h1 : 8192 < bs.length
  · rw [if_pos h1] at h; simp only [RD.err.injEq] at h; omega
  · rw [if_neg h1] at h
    cases hx : dOne 12 bs 0 with
    | err e' => rw [hx] at h; simp only [RD.err.injEq] at h; rw [← h]; exact dOne_err _ _ _ _ hx
    | ok i r c =>
      rw [hx] at h
      simp only at h
      by_cases h2 : r = []
      · rw [if_pos h2] at h; cases h
      · rw [if_neg h2] at h; simp only [RD.err.injEq] at h; omega

/-- a tree of raws is small -/
structure Fair (it : It) : Prop where
  small : it.small 32
  size : it.size ≤ 1240
theorem fair_of {X : Nat → Raw6} {m : Nat} {it : It} (hs : it.small 32) (hc : it.count ≤ cnt (fun k => ((X k).parent % k).toNat) (min m 30) 30 0) : Fair it := by
  have h1 := cnt_le (fun k => ((X k).parent % k).toNat) (fun k hk => by
    have := Int.emod_nonneg (X k).parent (show (k : Int) ≠ 0 by omega)
    have := Int.emod_lt_of_pos (X k).parent (show (0 : Int) < k by omega)
    omega) (min m 30) 30
  have h2 := size_count it hs
  exact ⟨hs, by omega⟩

set_option maxHeartbeats 4000000 in
set_option maxRecDepth 100000 in
theorem cuts_any (lv : Value) (m : Nat) (X : Nat → Raw6) (at' : Int) (more : UInt8) (w : World) (hr : Raws6 w lv m X) (hT : Tabs w) :
    Calls Tryd.prog 8 #[lv, .int .i64 at', bv more] w fun e w' => e = .returned (.bool true) ∧ Only (fun _ => False) w w' := by
  have HTree := hide (tree_any lv m X 30 0 w hr (by omega) (by omega))
  have HT := hide hT
  clear hr hT
  unfold bv
  go_enter Tryd.func8, Tryd.ntmps8
  go_wp2_with fail
  refine (unhide HTree).mono ?_
  rintro e w1 ⟨it, dv, kv, rfl, hit, hsm, hcnt, o1⟩
  have hfair := fair_of hsm hcnt
  have HFair := hide hfair
  have HO1 := hide o1
  have HEn := hide (Encode_any 31 it dv kv w1 hit ((unhide HT).same o1) (by decide) (by have := hfair.size; omega) (small_le it (by decide) hsm))
  clear hit hsm hcnt o1 hfair HTree
  go_wp2_with fail
  refine (unhide HEn).mono ?_
  rintro e w2 ⟨he, o2⟩
  have HO2 := hide ((unhide HO1).trans o2 (fun _ _ e => e))
  have HKn := hide (fun W (o : Only (fun _ => False) w W) => known_any W ((unhide HT).same o))
  clear o2 HEn HO1
  unfold EncAs at he
  cases hrb : rightB it with
  | false =>
    rw [hrb, if_neg (by decide)] at he
    subst he
    clear hrb
    go_wp2_with fail
    refine (unhide HKn _ (unhide HO2)).mono ?_
    rintro e w3 ⟨rfl, o3⟩
    have HO3 := hide ((unhide HO2).trans o3 (fun _ _ e => e))
    clear o3 HO2
    go_wp2_with fail
    refine (unhide HKn _ (unhide HO3)).mono ?_
    rintro e w4 ⟨rfl, o4⟩
    have HO4 := hide ((unhide HO3).trans o4 (fun _ _ e => e))
    clear o4 HO3
    go_wp2
    go_ret
    exact ⟨rfl, unhide HO4⟩
  | true =>
    rw [hrb, if_pos rfl] at he
    obtain ⟨v, rfl, hv, hvk⟩ := he
    obtain ⟨va, vc, hvs, hvc, hvm⟩ := hv.shape
    subst hvs
    have hll := lay_length it
    have h8 := size_ge it
    have hf := (unhide HFair).size
    have HRB := hide hrb
    obtain ⟨ll, hL⟩ : ∃ ll, it.lay.length = ll := ⟨_, rfl⟩
    have HL := hide hL
    have HV := hide hv
    rw [hL] at HV hvc hll ⊢
    have h8z : ¬ (ll : Int) < 8 := by omega
    have hlb : ll ≤ 1240 := by omega
    have hl0 : 8 ≤ ll := by omega
    clear hv hvk hL hrb hll h8 hf
    go_wp2_with fail
    refine (unhide HKn _ (unhide HO2)).mono ?_
    rintro e w3 ⟨rfl, o3⟩
    have HO3 := hide ((unhide HO2).trans o3 (fun _ _ e => e))
    have hv3 := (unhide HV).only o3 (fun _ _ _ e => e)
    have HV3 := hide hv3
    obtain ⟨k, hk⟩ : ∃ k : Nat, at' % (ll : Int) = k := ⟨(at' % (ll : Int)).toNat, by have := Int.emod_nonneg at' (show (ll : Int) ≠ 0 by omega); omega⟩
    have hklt : k < ll := by have := Int.emod_lt_of_pos at' (show (0 : Int) < ll by omega); omega
    have HPk := hide (pick_any at' ll w3 (by omega) (by omega))
    rw [hk] at HPk
    have hcutv := hv3.front (n := k) (by have := unhide HL; omega)
    have HDc := hide (Decode_any _ (it.lay.take k) w3 hcutv ((unhide HT).same (unhide HO3)) (by rw [List.length_take]; have := unhide HL; omega))
    have hkc : (k : Int) ≤ (vc : Int) := by omega
    clear o3 HO2 HV hk hv3 hcutv
    go_wp2_with fail
    refine (unhide HPk).mono ?_
    rintro e w4 ⟨rfl, rfl⟩
    clear HPk
    go_wp2_with fail
    refine (unhide HDc).mono ?_
    rintro e w5 ⟨he5, o5⟩
    clear HDc
    have hs4 : it.small 4294967295 := small_le it (by decide) (unhide HFair).small
    cases hR : dAll (it.lay.take k) with
    | ok j => exact absurd hR (dAll_cut it (unhide HRB) hs4 k (by have := unhide HL; omega) j)
    | err er =>
    rw [hR] at he5
    have hep := dAll_err _ _ hR
    have HE4 : Hid ((er != 0) = true) := by show _ = _; rw [bne_iff_ne]; omega
    have he6 : e = .returned (.tuple #[zeroI, .int .i64 er]) := he5
    subst he6
    have HO5 := hide ((unhide HO3).trans o5 (fun _ _ e => e))
    have oI : Only (fun _ => False) w5 (w5.alloc (.cells #[.int .i64 0, .int .i64 0, .int .i64 0, .slice none 0 0, .slice none 0 0] 25)) := (Only.refl _ _).alloc _
    have hv6 := ((unhide HV3).only o5 (fun _ _ _ e => e)).only oI (fun _ _ _ e => e)
    have HO6 := hide ((unhide HO5).trans oI (fun _ _ e => e))
    have HFew := hide (few_any _ it.lay ll _ hv6 (Or.inl (by have := unhide HL; omega)))
    clear o5 oI hv6 HO3 HO5 he5 hR hep HV3
    go_upto_region 5 with fail
    generalize w5.alloc (.cells #[.int .i64 0, .int .i64 0, .int .i64 0, .slice none 0 0, .slice none 0 0] 25) = w6 at *
    go_wp2_with fail
    refine (unhide HFew).mono ?_
    rintro e w7 ⟨u, rfl, hu, o7⟩
    have htk : it.lay.take ll = it.lay := List.take_of_length_le (by have := unhide HL; omega)
    rw [htk] at hu
    have hu' : w7.ownsRow w6.heap.size 5 1 u ll (it.lay.map bv) := by have := unhide HL; rw [← this]; exact hu
    obtain ⟨ao, cap, rfl⟩ := ownsRow_shape hu'
    have HU := hide hu'
    have HO7 := hide ((unhide HO6).trans o7 (fun _ _ e => e))
    have HS7 := hide o7.size
    have HUn := hide (fun (v : Value) (W : World) (hx : Has W v (it.lay ++ [more])) (o : Only (fun _ => False) w W) => Decode_any v (it.lay ++ [more]) W hx ((unhide HT).same o) (by rw [List.length_append]; have := unhide HL; simp; omega))
    obtain ⟨i0, hi, hz0, hz1, hz2⟩ := info_parts Tryd.info5
    have HW7 := hide ((unhide HO6).size)
    clear hu hu' o7 HFew htk
    go_wp2_with (at_builtin; refine wpList_append_has rfl (.tmp 45) (.tmp 47) 22 rfl w6.heap.size 5 i0 Tryd.underlying22 hi hz0 hz1 hz2 _ ll (it.lay.map bv) rfl ((unhide HU).alloc _) _ [more] rfl (has_row (heap_alloc_new w7 (.cells #[bv more] 5)) rfl rfl (by unfold maxLen; omega)) (by simp; omega) (by have := unhide HS7; simp; omega) ?_; intro ao2 cap2 w9 own9 gr9 at9)
    have hlm : (it.lay ++ [more]).length = ll + 1 := by rw [List.length_append, unhide HL]; rfl
    have hx9 : Has w9 (.slice ao2 (ll + 1) cap2) (it.lay ++ [more]) := Has.ofOwns (base := w6.heap.size) (by
      show w9.ownsRow w6.heap.size 5 1 (.slice ao2 (ll + 1) cap2) (it.lay ++ [more]).length ((it.lay ++ [more]).map bv)
      rw [hlm, List.map_append]
      exact own9)
    have o9 : Only (fun _ => False) w w9 := ((unhide HO7).alloc _).grown gr9 (fun k hk hl => by
      have hk2 : (Value.slice ao ll cap).ownBlock = some k := hk
      have := ((unhide HU).lt k hk2).1
      have := unhide HW7
      omega)
    have HC9 := hide (unhide HUn _ w9 hx9 o9)
    have HO9 := hide o9
    clear own9 gr9 at9 hx9 o9 hlm HU HUn HO7 HS7 HW7
    refine (unhide HC9).mono ?_
    rintro e w10 ⟨he10, o10⟩
    cases hR2 : dAll (it.lay ++ [more]) with
    | ok j => exact absurd hR2 (dAll_more it (unhide HRB) hs4 more j)
    | err er2 =>
    rw [hR2] at he10
    have hep2 := dAll_err _ _ hR2
    have HE5 : Hid ((er2 != 0) = true) := by show _ = _; rw [bne_iff_ne]; omega
    have he11 : e = .returned (.tuple #[zeroI, .int .i64 er2]) := he10
    subst he11
    have HO11 := hide (((unhide HO9).trans o10 (fun _ _ e => e)).trans ((Only.refl (fun _ => False) w10).alloc (.cells #[.int .i64 0, .int .i64 0, .int .i64 0, .slice none 0 0, .slice none 0 0] 25)) (fun _ _ e => e))
    clear o10 he10 hR2 hep2 HC9 HO9
    go_upto_region 6 with fail
    have e4 : ¬ er = 0 := by have := unhide HE4; rw [bne_iff_ne] at this; exact this
    have e5 : ¬ er2 = 0 := by have := unhide HE5; rw [bne_iff_ne] at this; exact this
    go_wp2
    go_ret
    exact ⟨by show Ending.returned (Value.bool (er != 0 && er2 != 0)) = _; rw [unhide HE4, unhide HE5]; rfl, unhide HO11⟩
theorem ttlvCuts_any (lv : Value) (m : Nat) (X : Nat → Raw6) (at' : Int) (n : Nat) (w : World) (hr : Raws6 w lv m X) (hT : Tabs w) (hn : n < 256) :
    Calls Tryd.prog 8 #[lv, .int .i64 at', .int .u8 n] w fun e w' => e = .returned (.bool true) ∧ Only (fun _ => False) w w' := by
  have h := cuts_any lv m X at' (UInt8.ofNat n) w hr hT
  have e : bv (UInt8.ofNat n) = .int .u8 n := by unfold bv; simp [UInt8.toNat_ofNat]; omega
  rw [e] at h
  exact h
end Tt
end Go.Proofs.YtedmfjnmclbkpaaDoor
