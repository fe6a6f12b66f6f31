/-
  The law: any item is right, and encoded, or not, and so long, as the reference tells it.
-/
import Derived.Test.YtedmfjnmclbkpaaDoorTtRlay2
import Derived.Test.YtedmfjnmclbkpaaDoorTtCuts
namespace Go.Proofs.YtedmfjnmclbkpaaDoor
open Go.RowKit
set_option linter.unusedSimpArgs false
set_option linter.unusedVariables false
namespace Tt

set_option maxHeartbeats 8000000 in
set_option maxRecDepth 100000 in
theorem ttlvEncodes_any (lv : Value) (m : Nat) (X : Nat → Raw6) (w : World) (hr : Raws6 w lv m X) (hT : Tabs w) :
    Calls Tryd.prog 4 #[lv] w fun e w' => e = .returned (.bool true) ∧ Only (fun _ => False) w w' := by
  have HTree := hide (tree_any lv m X 30 0 w hr (by omega) (by omega))
  have HT := hide hT
  have HKn := hide (fun W (o : Only (fun _ => False) w W) => known_any W ((unhide HT).same o))
  clear hr hT
  go_enter Tryd.func4, Tryd.ntmps4
  go_wp2_with fail
  refine (unhide HTree).mono ?_
  rintro e w1 ⟨it, dv, kv, rfl, hit, hsm, hcnt, o1⟩
  have hfair := fair_of hsm hcnt
  have hcnt2 : it.count ≤ 1000 := by
    have h2 := cnt_le (fun k => ((X k).parent % k).toNat) (fun k hk => by
      have := Int.emod_nonneg (X k).parent (show (k : Int) ≠ 0 by omega)
      have := Int.emod_lt_of_pos (X k).parent (show (0 : Int) < k by omega)
      omega) (min m 30) 30
    omega
  obtain ⟨⟨da, dc, hds⟩, ka, kc, hks⟩ := hit.shapes
  subst hds
  subst hks
  have hb1 := heap_alloc_new w1 (.cells #[.int .i64 it.tag, .int .i64 it.typ, .int .i64 it.int, .slice da it.data.length dc, .slice ka it.kids.length kc] 25)
  have oI := (Only.refl (fun _ => False) w1).alloc (.cells #[.int .i64 it.tag, .int .i64 it.typ, .int .i64 it.int, .slice da it.data.length dc, .slice ka it.kids.length kc] 25)
  have HO2 := hide (o1.trans oI (fun _ _ e => e))
  have HIT := hide (hit.same oI)
  have HB1 := hide hb1
  have hSm : it.small 140737488355328 := small_le it (by decide) hsm
  have hSm2 : it.small 1000000 := small_le it (by decide) hsm
  have hzI := hfair.size
  clear hit hsm hcnt o1 hfair HTree oI hb1
  go_upto_region 2 with fail
  generalize w1.alloc (.cells #[.int .i64 it.tag, .int .i64 it.typ, .int .i64 it.int, .slice da it.data.length dc, .slice ka it.kids.length kc] 25) = w2 at *
  generalize w1.heap.size = b1 at *
  obtain ⟨R, hR⟩ : ∃ R, rightB it = R := ⟨_, rfl⟩
  obtain ⟨sz, hsz⟩ : ∃ sz, it.size = sz := ⟨_, rfl⟩
  have HEn := hide (Encode_any 31 it _ _ w2 (unhide HIT) ((unhide HT).same (unhide HO2)) (by decide) (by omega) hSm)
  have HRi := hide (fun W (o : Only (fun _ => False) w2 W) => Right_any 31 it _ _ W ((unhide HIT).same o) ((unhide HT).same ((unhide HO2).trans o (fun _ _ e => e))) (by decide) (by omega) hSm)
  have HRr := hide (fun W (o : Only (fun _ => False) w2 W) => rRight_any 31 it _ _ W ((unhide HIT).same o) ((unhide HT).same ((unhide HO2).trans o (fun _ _ e => e))) (by decide) (by omega) hSm hcnt2)
  have HSi := hide (fun W (o : Only (fun _ => False) w2 W) => Size_any 31 it _ _ W ((unhide HIT).same o) (by decide) (by omega) hSm)
  have HSr := hide (fun W (o : Only (fun _ => False) w2 W) => rSize_any 31 it _ _ W ((unhide HIT).same o) (by decide) (by omega) hSm)
  have HEr := hide (fun W (o : Only (fun _ => False) w2 W) => rEncode_any 31 it _ _ W (ItAt.mono (fun q hq _ => hq) 31 ((unhide HIT).same o)) ((unhide HT).same ((unhide HO2).trans o (fun _ _ e => e))) (by decide) (by omega) hSm2 hcnt2)
  rw [hR] at HRi HRr
  rw [hsz] at HSi HSr
  have HC1 := hide (cells_of5 (unhide HB1))
  unfold ival at HEn HRi HRr HSi HSr HEr
  clear hSm hSm2 hzI hcnt2 hsz HB1
  obtain ⟨c0, c1, c2, c3, c4⟩ := unhide HC1
  go_wp2_with fail
  refine (unhide HEn).mono ?_
  rintro e w3 ⟨he, o3⟩
  have H23 := hide o3
  clear c0 c1 c2 c3 c4 o3 HEn
  obtain ⟨c0, c1, c2, c3, c4⟩ := unhide HC1
  have c0 := (unhide H23).cell c0 (fun e => e)
  have c1 := (unhide H23).cell c1 (fun e => e)
  have c2 := (unhide H23).cell c2 (fun e => e)
  have c3 := (unhide H23).cell c3 (fun e => e)
  have c4 := (unhide H23).cell c4 (fun e => e)
  have HR0 := hide hR
  unfold EncAs at he
  cases R with
  | false =>
    rw [hR, if_neg (by decide)] at he
    subst he
    clear hR
    go_wp2_with fail
    refine (unhide HEr _ (unhide H23)).mono ?_
    rintro e w4 ⟨he, o4⟩
    have H24 := hide ((unhide H23).trans o4 (fun _ _ e => e))
    have HO4 := hide ((unhide HO2).trans (unhide H24) (fun _ _ e => e))
    unfold EncAs at he
    rw [unhide HR0, if_neg (by decide)] at he
    subst he
    have HV : Hid (∀ W : World, Has W (.slice none 0 0) []) := fun W => Or.inl ⟨rfl, rfl⟩
    have H44 := hide (Only.refl (fun _ => False) w4)
    clear o4 c0 c1 c2 c3 c4 H23 HEr
    go_wp2_with fail
    refine wp_region_held_drew (S := (fun w' => Only (fun _ => False) w4 w')) (by kernel_rfl) ((Only.refl _ _).drew) (fun hHeld => ?_)
    refine wpAnyH_ready (rs := [0]) (by kernel_rfl) (by simp) ?_
    refine AllReadyH.cons rfl (fun K hK => ?_) AllReadyH.nil
    go_simp
    go_wp2_with fail; refine (unhide HKn _ (Only.trans (unhide HO4) (by first | exact Only.refl _ _ | exact (Only.refl _ _).drew) (fun _ _ e => e))).mono ?_; rintro e xa ⟨rfl, ya⟩; have HMa : Hid (Only (fun _ => False) w4 xa) := Only.trans (by first | exact Only.refl _ _ | exact (Only.refl _ _).drew) ya (fun _ _ e => e)
    refine hK.out _ _ ((unhide HMa)) (fun hHeld => ?_)
    clear hK K
    try simp only [Act.put, List.setIfInBounds_toArray, List.set_cons_zero, List.set_cons_succ, List.getElem_toArray, List.getElem_cons_succ, List.getElem_cons_zero]
    refine wpAnyH_take (i := 1) (v := ?v1) rfl (by kernel_rfl) (by kernel_rfl) (by kernel_rfl) (fun _ _ _ h => h) (Or.inl ⟨by rfl, ?hy1⟩) (by assumption) ?rest1
    case hy1 =>
      intro w hSw
      go_simp
      try with_reducible rfl
    try simp only [Act.put, List.setIfInBounds_toArray, List.set_cons_zero, List.set_cons_succ, List.getElem_toArray, List.getElem_cons_succ, List.getElem_cons_zero]
    refine wpAnyH_take (i := 2) (v := ?v2) rfl (by kernel_rfl) (by kernel_rfl) (by kernel_rfl) (fun _ _ _ h => h) (Or.inl ⟨by rfl, ?hy2⟩) (by assumption) ?rest2
    case hy2 =>
      intro w hSw
      (obtain ⟨q0, q1, q2, q3, q4⟩ := unhide HC1; have q0 := hSw.cell ((unhide H24).cell q0 (fun e => e)) (fun e => e); have q1 := hSw.cell ((unhide H24).cell q1 (fun e => e)) (fun e => e); have q2 := hSw.cell ((unhide H24).cell q2 (fun e => e)) (fun e => e); have q3 := hSw.cell ((unhide H24).cell q3 (fun e => e)) (fun e => e); have q4 := hSw.cell ((unhide H24).cell q4 (fun e => e)) (fun e => e); go_simp; try with_reducible rfl)
    try simp only [Act.put, List.setIfInBounds_toArray, List.set_cons_zero, List.set_cons_succ, List.getElem_toArray, List.getElem_cons_succ, List.getElem_cons_zero]
    refine wpAnyH_take (i := 4) (v := ?v3) rfl (by kernel_rfl) (by kernel_rfl) (by kernel_rfl) (fun _ _ _ h => h) (Or.inl ⟨by rfl, ?hy3⟩) (by assumption) ?rest3
    case hy3 =>
      intro w hSw
      (obtain ⟨q0, q1, q2, q3, q4⟩ := unhide HC1; have q0 := hSw.cell ((unhide H24).cell q0 (fun e => e)) (fun e => e); have q1 := hSw.cell ((unhide H24).cell q1 (fun e => e)) (fun e => e); have q2 := hSw.cell ((unhide H24).cell q2 (fun e => e)) (fun e => e); have q3 := hSw.cell ((unhide H24).cell q3 (fun e => e)) (fun e => e); have q4 := hSw.cell ((unhide H24).cell q4 (fun e => e)) (fun e => e); go_simp; try with_reducible rfl)
    try simp only [Act.put, List.setIfInBounds_toArray, List.set_cons_zero, List.set_cons_succ, List.getElem_toArray, List.getElem_cons_succ, List.getElem_cons_zero]
    refine wpAnyH_ready (rs := [3]) (by kernel_rfl) (by simp) ?_
    refine AllReadyH.cons rfl (fun K hK => ?_) AllReadyH.nil
    go_simp
    go_wp2_with fail; refine (unhide HRi _ (Only.trans (unhide H24) (by first | exact unhide HMa | exact (unhide HMa).drew) (fun _ _ e => e))).mono ?_; rintro e xb ⟨rfl, yb⟩; have HMb : Hid (Only (fun _ => False) w4 xb) := Only.trans (by first | exact unhide HMa | exact (unhide HMa).drew) yb (fun _ _ e => e)
    refine hK.out _ _ ((unhide HMb)) (fun hHeld => ?_)
    clear hK K
    try simp only [Act.put, List.setIfInBounds_toArray, List.set_cons_zero, List.set_cons_succ, List.getElem_toArray, List.getElem_cons_succ, List.getElem_cons_zero]
    refine wpAnyH_ready (rs := [5]) (by kernel_rfl) (by simp) ?_
    refine AllReadyH.cons rfl (fun K hK => ?_) AllReadyH.nil
    go_simp
    go_wp2_with fail; refine (unhide HRr _ (Only.trans (unhide H24) (by first | exact unhide HMb | exact (unhide HMb).drew) (fun _ _ e => e))).mono ?_; rintro e xc ⟨rfl, yc⟩; have HMc : Hid (Only (fun _ => False) w4 xc) := Only.trans (by first | exact unhide HMb | exact (unhide HMb).drew) yc (fun _ _ e => e)
    refine hK.out _ _ ((unhide HMc)) (fun hHeld => ?_)
    clear hK K
    try simp only [Act.put, List.setIfInBounds_toArray, List.set_cons_zero, List.set_cons_succ, List.getElem_toArray, List.getElem_cons_succ, List.getElem_cons_zero]
    refine wpAnyH_take (i := 6) (v := ?v4) rfl (by kernel_rfl) (by kernel_rfl) (by kernel_rfl) (fun _ _ _ h => h) (Or.inl ⟨by rfl, ?hy4⟩) (by assumption) ?rest4
    case hy4 =>
      intro w hSw
      go_simp
      try with_reducible rfl
    try simp only [Act.put, List.setIfInBounds_toArray, List.set_cons_zero, List.set_cons_succ, List.getElem_toArray, List.getElem_cons_succ, List.getElem_cons_zero]
    refine wpAnyH_take (i := 7) (v := ?v5) rfl (by kernel_rfl) (by kernel_rfl) (by kernel_rfl) (fun _ _ _ h => h) (Or.inl ⟨by rfl, ?hy5⟩) (by assumption) ?rest5
    case hy5 =>
      intro w hSw
      go_simp
      try with_reducible rfl
    try simp only [Act.put, List.setIfInBounds_toArray, List.set_cons_zero, List.set_cons_succ, List.getElem_toArray, List.getElem_cons_succ, List.getElem_cons_zero]
    refine wpAnyH_take (i := 8) (v := ?v6) rfl (by kernel_rfl) (by kernel_rfl) (by kernel_rfl) (fun _ _ _ h => h) (Or.inl ⟨by rfl, ?hy6⟩) (by assumption) ?rest6
    case hy6 =>
      intro w hSw
      go_simp
      try with_reducible rfl
    try simp only [Act.put, List.setIfInBounds_toArray, List.set_cons_zero, List.set_cons_succ, List.getElem_toArray, List.getElem_cons_succ, List.getElem_cons_zero]
    refine wpAnyH_take (i := 9) (v := ?v7) rfl (by kernel_rfl) (by kernel_rfl) (by kernel_rfl) (fun _ _ _ h => h) (Or.inl ⟨by rfl, ?hy7⟩) (by assumption) ?rest7
    case hy7 =>
      intro w hSw
      (obtain ⟨q0, q1, q2, q3, q4⟩ := unhide HC1; have q0 := hSw.cell ((unhide H24).cell q0 (fun e => e)) (fun e => e); have q1 := hSw.cell ((unhide H24).cell q1 (fun e => e)) (fun e => e); have q2 := hSw.cell ((unhide H24).cell q2 (fun e => e)) (fun e => e); have q3 := hSw.cell ((unhide H24).cell q3 (fun e => e)) (fun e => e); have q4 := hSw.cell ((unhide H24).cell q4 (fun e => e)) (fun e => e); go_simp; try with_reducible rfl)
    try simp only [Act.put, List.setIfInBounds_toArray, List.set_cons_zero, List.set_cons_succ, List.getElem_toArray, List.getElem_cons_succ, List.getElem_cons_zero]
    refine wpAnyH_take (i := 11) (v := ?v8) rfl (by kernel_rfl) (by kernel_rfl) (by kernel_rfl) (fun _ _ _ h => h) (Or.inl ⟨by rfl, ?hy8⟩) (by assumption) ?rest8
    case hy8 =>
      intro w hSw
      (obtain ⟨q0, q1, q2, q3, q4⟩ := unhide HC1; have q0 := hSw.cell ((unhide H24).cell q0 (fun e => e)) (fun e => e); have q1 := hSw.cell ((unhide H24).cell q1 (fun e => e)) (fun e => e); have q2 := hSw.cell ((unhide H24).cell q2 (fun e => e)) (fun e => e); have q3 := hSw.cell ((unhide H24).cell q3 (fun e => e)) (fun e => e); have q4 := hSw.cell ((unhide H24).cell q4 (fun e => e)) (fun e => e); go_simp; try with_reducible rfl)
    try simp only [Act.put, List.setIfInBounds_toArray, List.set_cons_zero, List.set_cons_succ, List.getElem_toArray, List.getElem_cons_succ, List.getElem_cons_zero]
    refine wpAnyH_ready (rs := [10]) (by kernel_rfl) (by simp) ?_
    refine AllReadyH.cons rfl (fun K hK => ?_) AllReadyH.nil
    go_simp
    go_wp2_with fail; refine (unhide HSi _ (Only.trans (unhide H24) (by first | exact unhide HMc | exact (unhide HMc).drew) (fun _ _ e => e))).mono ?_; rintro e xd ⟨rfl, yd⟩; have HMd : Hid (Only (fun _ => False) w4 xd) := Only.trans (by first | exact unhide HMc | exact (unhide HMc).drew) yd (fun _ _ e => e)
    refine hK.out _ _ ((unhide HMd)) (fun hHeld => ?_)
    clear hK K
    try simp only [Act.put, List.setIfInBounds_toArray, List.set_cons_zero, List.set_cons_succ, List.getElem_toArray, List.getElem_cons_succ, List.getElem_cons_zero]
    refine wpAnyH_ready (rs := [12]) (by kernel_rfl) (by simp) ?_
    refine AllReadyH.cons rfl (fun K hK => ?_) AllReadyH.nil
    go_simp
    go_wp2_with fail; refine (unhide HSr _ (Only.trans (unhide H24) (by first | exact unhide HMd | exact (unhide HMd).drew) (fun _ _ e => e))).mono ?_; rintro e xf ⟨rfl, yf⟩; have HMf : Hid (Only (fun _ => False) w4 xf) := Only.trans (by first | exact unhide HMd | exact (unhide HMd).drew) yf (fun _ _ e => e)
    refine hK.out _ _ ((unhide HMf)) (fun hHeld => ?_)
    clear hK K
    try simp only [Act.put, List.setIfInBounds_toArray, List.set_cons_zero, List.set_cons_succ, List.getElem_toArray, List.getElem_cons_succ, List.getElem_cons_zero]
    refine wpAnyH_take (i := 13) (v := ?v9) rfl (by kernel_rfl) (by kernel_rfl) (by kernel_rfl) (fun _ _ _ h => h) (Or.inl ⟨by rfl, ?hy9⟩) (by assumption) ?rest9
    case hy9 =>
      intro w hSw
      go_simp
      try with_reducible rfl
    try simp only [Act.put, List.setIfInBounds_toArray, List.set_cons_zero, List.set_cons_succ, List.getElem_toArray, List.getElem_cons_succ, List.getElem_cons_zero]
    refine wpAnyH_take (i := 14) (v := ?v10) rfl (by kernel_rfl) (by kernel_rfl) (by kernel_rfl) (fun _ _ _ h => h) (Or.inl ⟨by rfl, ?hy10⟩) (by assumption) ?rest10
    case hy10 =>
      intro w hSw
      go_simp
      try with_reducible rfl
    try simp only [Act.put, List.setIfInBounds_toArray, List.set_cons_zero, List.set_cons_succ, List.getElem_toArray, List.getElem_cons_succ, List.getElem_cons_zero]
    refine wpAnyH_take (i := 15) (v := ?v11) rfl (by kernel_rfl) (by kernel_rfl) (by kernel_rfl) (fun _ _ _ h => h) (Or.inl ⟨by rfl, ?hy11⟩) (by assumption) ?rest11
    case hy11 =>
      intro w hSw
      go_simp
      try with_reducible rfl
    try simp only [Act.put, List.setIfInBounds_toArray, List.set_cons_zero, List.set_cons_succ, List.getElem_toArray, List.getElem_cons_succ, List.getElem_cons_zero]
    refine wpAnyH_take (i := 16) (v := ?v12) rfl (by kernel_rfl) (by kernel_rfl) (by kernel_rfl) (fun _ _ _ h => h) (Or.inl ⟨by rfl, ?hy12⟩) (by assumption) ?rest12
    case hy12 =>
      intro w hSw
      go_simp
      try with_reducible rfl
    try simp only [Act.put, List.setIfInBounds_toArray, List.set_cons_zero, List.set_cons_succ, List.getElem_toArray, List.getElem_cons_succ, List.getElem_cons_zero]
    refine wpAnyH_take (i := 17) (v := ?v13) rfl (by kernel_rfl) (by kernel_rfl) (by kernel_rfl) (fun _ _ _ h => h) (Or.inl ⟨by rfl, ?hy13⟩) (by assumption) ?rest13
    case hy13 =>
      intro w hSw
      (have hcv := fun W => str_conv (unhide HV W); go_simp; try with_reducible rfl)
    try simp only [Act.put, List.setIfInBounds_toArray, List.set_cons_zero, List.set_cons_succ, List.getElem_toArray, List.getElem_cons_succ, List.getElem_cons_zero]
    refine wpAnyH_take (i := 18) (v := ?v14) rfl (by kernel_rfl) (by kernel_rfl) (by kernel_rfl) (fun _ _ _ h => h) (Or.inl ⟨by rfl, ?hy14⟩) (by assumption) ?rest14
    case hy14 =>
      intro w hSw
      go_simp
      try with_reducible rfl
    try simp only [Act.put, List.setIfInBounds_toArray, List.set_cons_zero, List.set_cons_succ, List.getElem_toArray, List.getElem_cons_succ, List.getElem_cons_zero]
    refine wpAnyH_take (i := 19) (v := ?v15) rfl (by kernel_rfl) (by kernel_rfl) (by kernel_rfl) (fun _ _ _ h => h) (Or.inl ⟨by rfl, ?hy15⟩) (by assumption) ?rest15
    case hy15 =>
      intro w hSw
      (have hcv := fun W => str_conv (unhide HV W); go_simp; try with_reducible rfl)
    try simp only [Act.put, List.setIfInBounds_toArray, List.set_cons_zero, List.set_cons_succ, List.getElem_toArray, List.getElem_cons_succ, List.getElem_cons_zero]
    refine wpAnyH_take (i := 20) (v := ?v16) rfl (by kernel_rfl) (by kernel_rfl) (by kernel_rfl) (fun _ _ _ h => h) (Or.inl ⟨by rfl, ?hy16⟩) (by assumption) ?rest16
    case hy16 =>
      intro w hSw
      go_simp
      try with_reducible rfl
    try simp only [Act.put, List.setIfInBounds_toArray, List.set_cons_zero, List.set_cons_succ, List.getElem_toArray, List.getElem_cons_succ, List.getElem_cons_zero]
    refine wpAnyH_take (i := 21) (v := ?v17) rfl (by kernel_rfl) (by kernel_rfl) (by kernel_rfl) (fun _ _ _ h => h) (Or.inl ⟨by rfl, ?hy17⟩) (by assumption) ?rest17
    case hy17 =>
      intro w hSw
      go_simp
      try with_reducible rfl
    try simp only [Act.put, List.setIfInBounds_toArray, List.set_cons_zero, List.set_cons_succ, List.getElem_toArray, List.getElem_cons_succ, List.getElem_cons_zero]
    refine wpAnyH_take (i := 22) (v := ?v18) rfl (by kernel_rfl) (by kernel_rfl) (by kernel_rfl) (fun _ _ _ h => h) (Or.inl ⟨by rfl, ?hy18⟩) (by assumption) ?rest18
    case hy18 =>
      intro w hSw
      go_simp
      try with_reducible rfl
    try simp only [Act.put, List.setIfInBounds_toArray, List.set_cons_zero, List.set_cons_succ, List.getElem_toArray, List.getElem_cons_succ, List.getElem_cons_zero]
    refine wpAnyH_take (i := 23) (v := ?v19) rfl (by kernel_rfl) (by kernel_rfl) (by kernel_rfl) (fun _ _ _ h => h) (Or.inl ⟨by rfl, ?hy19⟩) (by assumption) ?rest19
    case hy19 =>
      intro w hSw
      go_simp
      try with_reducible rfl
    try simp only [Act.put, List.setIfInBounds_toArray, List.set_cons_zero, List.set_cons_succ, List.getElem_toArray, List.getElem_cons_succ, List.getElem_cons_zero]
    refine wpAnyH_take (i := 24) (v := ?v20) rfl (by kernel_rfl) (by kernel_rfl) (by kernel_rfl) (fun _ _ _ h => h) (Or.inl ⟨by rfl, ?hy20⟩) (by assumption) ?rest20
    case hy20 =>
      intro w hSw
      go_simp
      try with_reducible rfl
    try simp only [Act.put, List.setIfInBounds_toArray, List.set_cons_zero, List.set_cons_succ, List.getElem_toArray, List.getElem_cons_succ, List.getElem_cons_zero]
    refine wpAnyH_take (i := 25) (v := ?v21) rfl (by kernel_rfl) (by kernel_rfl) (by kernel_rfl) (fun _ _ _ h => h) (Or.inl ⟨by rfl, ?hy21⟩) (by assumption) ?rest21
    case hy21 =>
      intro w hSw
      go_simp
      try with_reducible rfl
    try simp only [Act.put, List.setIfInBounds_toArray, List.set_cons_zero, List.set_cons_succ, List.getElem_toArray, List.getElem_cons_succ, List.getElem_cons_zero]
    refine wpAnyH_take (i := 26) (v := ?v22) rfl (by kernel_rfl) (by kernel_rfl) (by kernel_rfl) (fun _ _ _ h => h) (Or.inl ⟨by rfl, ?hy22⟩) (by assumption) ?rest22
    case hy22 =>
      intro w hSw
      go_simp
      try with_reducible rfl
    try simp only [Act.put, List.setIfInBounds_toArray, List.set_cons_zero, List.set_cons_succ, List.getElem_toArray, List.getElem_cons_succ, List.getElem_cons_zero]
    refine wpAnyH_take (i := 27) (v := ?v23) rfl (by kernel_rfl) (by kernel_rfl) (by kernel_rfl) (fun _ _ _ h => h) (Or.inl ⟨by rfl, ?hy23⟩) (by assumption) ?rest23
    case hy23 =>
      intro w hSw
      go_simp
      try with_reducible rfl
    try simp only [Act.put, List.setIfInBounds_toArray, List.set_cons_zero, List.set_cons_succ, List.getElem_toArray, List.getElem_cons_succ, List.getElem_cons_zero]
    refine wpAnyH_done (by kernel_rfl) ?_ _
    go_wp2
    go_ret
    exact ⟨rfl, (unhide HO4).trans (unhide HMf) (fun _ _ e => e)⟩
  | true =>
    rw [hR, if_pos rfl] at he
    obtain ⟨v, rfl, hv, _⟩ := he
    obtain ⟨va, vc, hvs, _⟩ := hv.shape
    subst hvs
    clear hR
    go_wp2_with fail
    refine (unhide HEr _ (unhide H23)).mono ?_
    rintro e w4 ⟨he, o4⟩
    have H24 := hide ((unhide H23).trans o4 (fun _ _ e => e))
    have HO4 := hide ((unhide HO2).trans (unhide H24) (fun _ _ e => e))
    unfold EncAs at he
    rw [unhide HR0, if_pos rfl] at he
    obtain ⟨u, rfl, hu, _⟩ := he
    obtain ⟨ua, uc, hus, _⟩ := hu.shape
    subst hus
    have HV := hide (hv.only o4 (fun _ _ _ e => e))
    have HU := hide hu
    clear hv hu
    have H44 := hide (Only.refl (fun _ => False) w4)
    clear o4 c0 c1 c2 c3 c4 H23 HEr
    go_wp2_with fail
    refine wp_region_held_drew (S := (fun w' => Only (fun _ => False) w4 w')) (by kernel_rfl) ((Only.refl _ _).drew) (fun hHeld => ?_)
    refine wpAnyH_ready (rs := [0]) (by kernel_rfl) (by simp) ?_
    refine AllReadyH.cons rfl (fun K hK => ?_) AllReadyH.nil
    go_simp
    go_wp2_with fail; refine (unhide HKn _ (Only.trans (unhide HO4) (by first | exact Only.refl _ _ | exact (Only.refl _ _).drew) (fun _ _ e => e))).mono ?_; rintro e xa ⟨rfl, ya⟩; have HMa : Hid (Only (fun _ => False) w4 xa) := Only.trans (by first | exact Only.refl _ _ | exact (Only.refl _ _).drew) ya (fun _ _ e => e)
    refine hK.out _ _ ((unhide HMa)) (fun hHeld => ?_)
    clear hK K
    try simp only [Act.put, List.setIfInBounds_toArray, List.set_cons_zero, List.set_cons_succ, List.getElem_toArray, List.getElem_cons_succ, List.getElem_cons_zero]
    refine wpAnyH_take (i := 1) (v := ?v24) rfl (by kernel_rfl) (by kernel_rfl) (by kernel_rfl) (fun _ _ _ h => h) (Or.inl ⟨by rfl, ?hy24⟩) (by assumption) ?rest24
    case hy24 =>
      intro w hSw
      go_simp
      try with_reducible rfl
    try simp only [Act.put, List.setIfInBounds_toArray, List.set_cons_zero, List.set_cons_succ, List.getElem_toArray, List.getElem_cons_succ, List.getElem_cons_zero]
    refine wpAnyH_take (i := 2) (v := ?v25) rfl (by kernel_rfl) (by kernel_rfl) (by kernel_rfl) (fun _ _ _ h => h) (Or.inl ⟨by rfl, ?hy25⟩) (by assumption) ?rest25
    case hy25 =>
      intro w hSw
      (obtain ⟨q0, q1, q2, q3, q4⟩ := unhide HC1; have q0 := hSw.cell ((unhide H24).cell q0 (fun e => e)) (fun e => e); have q1 := hSw.cell ((unhide H24).cell q1 (fun e => e)) (fun e => e); have q2 := hSw.cell ((unhide H24).cell q2 (fun e => e)) (fun e => e); have q3 := hSw.cell ((unhide H24).cell q3 (fun e => e)) (fun e => e); have q4 := hSw.cell ((unhide H24).cell q4 (fun e => e)) (fun e => e); go_simp; try with_reducible rfl)
    try simp only [Act.put, List.setIfInBounds_toArray, List.set_cons_zero, List.set_cons_succ, List.getElem_toArray, List.getElem_cons_succ, List.getElem_cons_zero]
    refine wpAnyH_take (i := 4) (v := ?v26) rfl (by kernel_rfl) (by kernel_rfl) (by kernel_rfl) (fun _ _ _ h => h) (Or.inl ⟨by rfl, ?hy26⟩) (by assumption) ?rest26
    case hy26 =>
      intro w hSw
      (obtain ⟨q0, q1, q2, q3, q4⟩ := unhide HC1; have q0 := hSw.cell ((unhide H24).cell q0 (fun e => e)) (fun e => e); have q1 := hSw.cell ((unhide H24).cell q1 (fun e => e)) (fun e => e); have q2 := hSw.cell ((unhide H24).cell q2 (fun e => e)) (fun e => e); have q3 := hSw.cell ((unhide H24).cell q3 (fun e => e)) (fun e => e); have q4 := hSw.cell ((unhide H24).cell q4 (fun e => e)) (fun e => e); go_simp; try with_reducible rfl)
    try simp only [Act.put, List.setIfInBounds_toArray, List.set_cons_zero, List.set_cons_succ, List.getElem_toArray, List.getElem_cons_succ, List.getElem_cons_zero]
    refine wpAnyH_ready (rs := [3]) (by kernel_rfl) (by simp) ?_
    refine AllReadyH.cons rfl (fun K hK => ?_) AllReadyH.nil
    go_simp
    go_wp2_with fail; refine (unhide HRi _ (Only.trans (unhide H24) (by first | exact unhide HMa | exact (unhide HMa).drew) (fun _ _ e => e))).mono ?_; rintro e xb ⟨rfl, yb⟩; have HMb : Hid (Only (fun _ => False) w4 xb) := Only.trans (by first | exact unhide HMa | exact (unhide HMa).drew) yb (fun _ _ e => e)
    refine hK.out _ _ ((unhide HMb)) (fun hHeld => ?_)
    clear hK K
    try simp only [Act.put, List.setIfInBounds_toArray, List.set_cons_zero, List.set_cons_succ, List.getElem_toArray, List.getElem_cons_succ, List.getElem_cons_zero]
    refine wpAnyH_ready (rs := [5]) (by kernel_rfl) (by simp) ?_
    refine AllReadyH.cons rfl (fun K hK => ?_) AllReadyH.nil
    go_simp
    go_wp2_with fail; refine (unhide HRr _ (Only.trans (unhide H24) (by first | exact unhide HMb | exact (unhide HMb).drew) (fun _ _ e => e))).mono ?_; rintro e xc ⟨rfl, yc⟩; have HMc : Hid (Only (fun _ => False) w4 xc) := Only.trans (by first | exact unhide HMb | exact (unhide HMb).drew) yc (fun _ _ e => e)
    refine hK.out _ _ ((unhide HMc)) (fun hHeld => ?_)
    clear hK K
    try simp only [Act.put, List.setIfInBounds_toArray, List.set_cons_zero, List.set_cons_succ, List.getElem_toArray, List.getElem_cons_succ, List.getElem_cons_zero]
    refine wpAnyH_take (i := 6) (v := ?v27) rfl (by kernel_rfl) (by kernel_rfl) (by kernel_rfl) (fun _ _ _ h => h) (Or.inl ⟨by rfl, ?hy27⟩) (by assumption) ?rest27
    case hy27 =>
      intro w hSw
      go_simp
      try with_reducible rfl
    try simp only [Act.put, List.setIfInBounds_toArray, List.set_cons_zero, List.set_cons_succ, List.getElem_toArray, List.getElem_cons_succ, List.getElem_cons_zero]
    refine wpAnyH_take (i := 7) (v := ?v28) rfl (by kernel_rfl) (by kernel_rfl) (by kernel_rfl) (fun _ _ _ h => h) (Or.inl ⟨by rfl, ?hy28⟩) (by assumption) ?rest28
    case hy28 =>
      intro w hSw
      go_simp
      try with_reducible rfl
    try simp only [Act.put, List.setIfInBounds_toArray, List.set_cons_zero, List.set_cons_succ, List.getElem_toArray, List.getElem_cons_succ, List.getElem_cons_zero]
    refine wpAnyH_take (i := 8) (v := ?v29) rfl (by kernel_rfl) (by kernel_rfl) (by kernel_rfl) (fun _ _ _ h => h) (Or.inl ⟨by rfl, ?hy29⟩) (by assumption) ?rest29
    case hy29 =>
      intro w hSw
      go_simp
      try with_reducible rfl
    try simp only [Act.put, List.setIfInBounds_toArray, List.set_cons_zero, List.set_cons_succ, List.getElem_toArray, List.getElem_cons_succ, List.getElem_cons_zero]
    refine wpAnyH_take (i := 9) (v := ?v30) rfl (by kernel_rfl) (by kernel_rfl) (by kernel_rfl) (fun _ _ _ h => h) (Or.inl ⟨by rfl, ?hy30⟩) (by assumption) ?rest30
    case hy30 =>
      intro w hSw
      (obtain ⟨q0, q1, q2, q3, q4⟩ := unhide HC1; have q0 := hSw.cell ((unhide H24).cell q0 (fun e => e)) (fun e => e); have q1 := hSw.cell ((unhide H24).cell q1 (fun e => e)) (fun e => e); have q2 := hSw.cell ((unhide H24).cell q2 (fun e => e)) (fun e => e); have q3 := hSw.cell ((unhide H24).cell q3 (fun e => e)) (fun e => e); have q4 := hSw.cell ((unhide H24).cell q4 (fun e => e)) (fun e => e); go_simp; try with_reducible rfl)
    try simp only [Act.put, List.setIfInBounds_toArray, List.set_cons_zero, List.set_cons_succ, List.getElem_toArray, List.getElem_cons_succ, List.getElem_cons_zero]
    refine wpAnyH_take (i := 11) (v := ?v31) rfl (by kernel_rfl) (by kernel_rfl) (by kernel_rfl) (fun _ _ _ h => h) (Or.inl ⟨by rfl, ?hy31⟩) (by assumption) ?rest31
    case hy31 =>
      intro w hSw
      (obtain ⟨q0, q1, q2, q3, q4⟩ := unhide HC1; have q0 := hSw.cell ((unhide H24).cell q0 (fun e => e)) (fun e => e); have q1 := hSw.cell ((unhide H24).cell q1 (fun e => e)) (fun e => e); have q2 := hSw.cell ((unhide H24).cell q2 (fun e => e)) (fun e => e); have q3 := hSw.cell ((unhide H24).cell q3 (fun e => e)) (fun e => e); have q4 := hSw.cell ((unhide H24).cell q4 (fun e => e)) (fun e => e); go_simp; try with_reducible rfl)
    try simp only [Act.put, List.setIfInBounds_toArray, List.set_cons_zero, List.set_cons_succ, List.getElem_toArray, List.getElem_cons_succ, List.getElem_cons_zero]
    refine wpAnyH_ready (rs := [10]) (by kernel_rfl) (by simp) ?_
    refine AllReadyH.cons rfl (fun K hK => ?_) AllReadyH.nil
    go_simp
    go_wp2_with fail; refine (unhide HSi _ (Only.trans (unhide H24) (by first | exact unhide HMc | exact (unhide HMc).drew) (fun _ _ e => e))).mono ?_; rintro e xd ⟨rfl, yd⟩; have HMd : Hid (Only (fun _ => False) w4 xd) := Only.trans (by first | exact unhide HMc | exact (unhide HMc).drew) yd (fun _ _ e => e)
    refine hK.out _ _ ((unhide HMd)) (fun hHeld => ?_)
    clear hK K
    try simp only [Act.put, List.setIfInBounds_toArray, List.set_cons_zero, List.set_cons_succ, List.getElem_toArray, List.getElem_cons_succ, List.getElem_cons_zero]
    refine wpAnyH_ready (rs := [12]) (by kernel_rfl) (by simp) ?_
    refine AllReadyH.cons rfl (fun K hK => ?_) AllReadyH.nil
    go_simp
    go_wp2_with fail; refine (unhide HSr _ (Only.trans (unhide H24) (by first | exact unhide HMd | exact (unhide HMd).drew) (fun _ _ e => e))).mono ?_; rintro e xf ⟨rfl, yf⟩; have HMf : Hid (Only (fun _ => False) w4 xf) := Only.trans (by first | exact unhide HMd | exact (unhide HMd).drew) yf (fun _ _ e => e)
    refine hK.out _ _ ((unhide HMf)) (fun hHeld => ?_)
    clear hK K
    try simp only [Act.put, List.setIfInBounds_toArray, List.set_cons_zero, List.set_cons_succ, List.getElem_toArray, List.getElem_cons_succ, List.getElem_cons_zero]
    refine wpAnyH_take (i := 13) (v := ?v32) rfl (by kernel_rfl) (by kernel_rfl) (by kernel_rfl) (fun _ _ _ h => h) (Or.inl ⟨by rfl, ?hy32⟩) (by assumption) ?rest32
    case hy32 =>
      intro w hSw
      go_simp
      try with_reducible rfl
    try simp only [Act.put, List.setIfInBounds_toArray, List.set_cons_zero, List.set_cons_succ, List.getElem_toArray, List.getElem_cons_succ, List.getElem_cons_zero]
    refine wpAnyH_take (i := 14) (v := ?v33) rfl (by kernel_rfl) (by kernel_rfl) (by kernel_rfl) (fun _ _ _ h => h) (Or.inl ⟨by rfl, ?hy33⟩) (by assumption) ?rest33
    case hy33 =>
      intro w hSw
      go_simp
      try with_reducible rfl
    try simp only [Act.put, List.setIfInBounds_toArray, List.set_cons_zero, List.set_cons_succ, List.getElem_toArray, List.getElem_cons_succ, List.getElem_cons_zero]
    refine wpAnyH_take (i := 15) (v := ?v34) rfl (by kernel_rfl) (by kernel_rfl) (by kernel_rfl) (fun _ _ _ h => h) (Or.inl ⟨by rfl, ?hy34⟩) (by assumption) ?rest34
    case hy34 =>
      intro w hSw
      go_simp
      try with_reducible rfl
    try simp only [Act.put, List.setIfInBounds_toArray, List.set_cons_zero, List.set_cons_succ, List.getElem_toArray, List.getElem_cons_succ, List.getElem_cons_zero]
    refine wpAnyH_take (i := 16) (v := ?v35) rfl (by kernel_rfl) (by kernel_rfl) (by kernel_rfl) (fun _ _ _ h => h) (Or.inl ⟨by rfl, ?hy35⟩) (by assumption) ?rest35
    case hy35 =>
      intro w hSw
      go_simp
      try with_reducible rfl
    try simp only [Act.put, List.setIfInBounds_toArray, List.set_cons_zero, List.set_cons_succ, List.getElem_toArray, List.getElem_cons_succ, List.getElem_cons_zero]
    refine wpAnyH_take (i := 17) (v := ?v36) rfl (by kernel_rfl) (by kernel_rfl) (by kernel_rfl) (fun _ _ _ h => h) (Or.inl ⟨by rfl, ?hy36⟩) (by assumption) ?rest36
    case hy36 =>
      intro w hSw
      (have hcv := str_conv ((unhide HV).only hSw (fun _ _ _ e => e)); go_simp; try with_reducible rfl)
    try simp only [Act.put, List.setIfInBounds_toArray, List.set_cons_zero, List.set_cons_succ, List.getElem_toArray, List.getElem_cons_succ, List.getElem_cons_zero]
    refine wpAnyH_take (i := 18) (v := ?v37) rfl (by kernel_rfl) (by kernel_rfl) (by kernel_rfl) (fun _ _ _ h => h) (Or.inl ⟨by rfl, ?hy37⟩) (by assumption) ?rest37
    case hy37 =>
      intro w hSw
      go_simp
      try with_reducible rfl
    try simp only [Act.put, List.setIfInBounds_toArray, List.set_cons_zero, List.set_cons_succ, List.getElem_toArray, List.getElem_cons_succ, List.getElem_cons_zero]
    refine wpAnyH_take (i := 19) (v := ?v38) rfl (by kernel_rfl) (by kernel_rfl) (by kernel_rfl) (fun _ _ _ h => h) (Or.inl ⟨by rfl, ?hy38⟩) (by assumption) ?rest38
    case hy38 =>
      intro w hSw
      (have hcv := str_conv ((unhide HU).only hSw (fun _ _ _ e => e)); go_simp; try with_reducible rfl)
    try simp only [Act.put, List.setIfInBounds_toArray, List.set_cons_zero, List.set_cons_succ, List.getElem_toArray, List.getElem_cons_succ, List.getElem_cons_zero]
    refine wpAnyH_take (i := 20) (v := ?v39) rfl (by kernel_rfl) (by kernel_rfl) (by kernel_rfl) (fun _ _ _ h => h) (Or.inl ⟨by rfl, ?hy39⟩) (by assumption) ?rest39
    case hy39 =>
      intro w hSw
      go_simp
      try with_reducible rfl
    try simp only [Act.put, List.setIfInBounds_toArray, List.set_cons_zero, List.set_cons_succ, List.getElem_toArray, List.getElem_cons_succ, List.getElem_cons_zero]
    refine wpAnyH_take (i := 21) (v := ?v40) rfl (by kernel_rfl) (by kernel_rfl) (by kernel_rfl) (fun _ _ _ h => h) (Or.inl ⟨by rfl, ?hy40⟩) (by assumption) ?rest40
    case hy40 =>
      intro w hSw
      go_simp
      try with_reducible rfl
    try simp only [Act.put, List.setIfInBounds_toArray, List.set_cons_zero, List.set_cons_succ, List.getElem_toArray, List.getElem_cons_succ, List.getElem_cons_zero]
    refine wpAnyH_take (i := 22) (v := ?v41) rfl (by kernel_rfl) (by kernel_rfl) (by kernel_rfl) (fun _ _ _ h => h) (Or.inl ⟨by rfl, ?hy41⟩) (by assumption) ?rest41
    case hy41 =>
      intro w hSw
      go_simp
      try with_reducible rfl
    try simp only [Act.put, List.setIfInBounds_toArray, List.set_cons_zero, List.set_cons_succ, List.getElem_toArray, List.getElem_cons_succ, List.getElem_cons_zero]
    refine wpAnyH_take (i := 23) (v := ?v42) rfl (by kernel_rfl) (by kernel_rfl) (by kernel_rfl) (fun _ _ _ h => h) (Or.inl ⟨by rfl, ?hy42⟩) (by assumption) ?rest42
    case hy42 =>
      intro w hSw
      go_simp
      try with_reducible rfl
    try simp only [Act.put, List.setIfInBounds_toArray, List.set_cons_zero, List.set_cons_succ, List.getElem_toArray, List.getElem_cons_succ, List.getElem_cons_zero]
    refine wpAnyH_take (i := 24) (v := ?v43) rfl (by kernel_rfl) (by kernel_rfl) (by kernel_rfl) (fun _ _ _ h => h) (Or.inl ⟨by rfl, ?hy43⟩) (by assumption) ?rest43
    case hy43 =>
      intro w hSw
      go_simp
      try with_reducible rfl
    try simp only [Act.put, List.setIfInBounds_toArray, List.set_cons_zero, List.set_cons_succ, List.getElem_toArray, List.getElem_cons_succ, List.getElem_cons_zero]
    refine wpAnyH_take (i := 25) (v := ?v44) rfl (by kernel_rfl) (by kernel_rfl) (by kernel_rfl) (fun _ _ _ h => h) (Or.inl ⟨by rfl, ?hy44⟩) (by assumption) ?rest44
    case hy44 =>
      intro w hSw
      go_simp
      try with_reducible rfl
    try simp only [Act.put, List.setIfInBounds_toArray, List.set_cons_zero, List.set_cons_succ, List.getElem_toArray, List.getElem_cons_succ, List.getElem_cons_zero]
    refine wpAnyH_take (i := 26) (v := ?v45) rfl (by kernel_rfl) (by kernel_rfl) (by kernel_rfl) (fun _ _ _ h => h) (Or.inl ⟨by rfl, ?hy45⟩) (by assumption) ?rest45
    case hy45 =>
      intro w hSw
      go_simp
      try with_reducible rfl
    try simp only [Act.put, List.setIfInBounds_toArray, List.set_cons_zero, List.set_cons_succ, List.getElem_toArray, List.getElem_cons_succ, List.getElem_cons_zero]
    refine wpAnyH_take (i := 27) (v := ?v46) rfl (by kernel_rfl) (by kernel_rfl) (by kernel_rfl) (fun _ _ _ h => h) (Or.inl ⟨by rfl, ?hy46⟩) (by assumption) ?rest46
    case hy46 =>
      intro w hSw
      go_simp
      try with_reducible rfl
    try simp only [Act.put, List.setIfInBounds_toArray, List.set_cons_zero, List.set_cons_succ, List.getElem_toArray, List.getElem_cons_succ, List.getElem_cons_zero]
    refine wpAnyH_done (by kernel_rfl) ?_ _
    go_wp2
    go_ret
    exact ⟨rfl, (unhide HO4).trans (unhide HMf) (fun _ _ e => e)⟩
end Tt
end Go.Proofs.YtedmfjnmclbkpaaDoor
