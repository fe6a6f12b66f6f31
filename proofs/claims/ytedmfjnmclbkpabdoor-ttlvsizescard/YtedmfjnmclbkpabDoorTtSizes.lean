/-
  The law: an item is as long as its head and what stands in it.
-/
import Derived.Test.YtedmfjnmclbkpabDoorTtLit
namespace Go.Proofs.YtedmfjnmclbkpabDoor
open Go.RowKit
set_option linter.unusedSimpArgs false
set_option linter.unusedVariables false
namespace Tt

set_option maxHeartbeats 8000000 in
set_option maxRecDepth 100000 in
theorem ttlvSizes_any (lv lv' : Value) (m m' : Nat) (X X' : Nat → Raw6) (w : World) (hr : Raws6 w lv m X) (hr' : Raws6 w lv' m' X') (hT : Tabs w) :
    Calls Tryd.prog 3 #[lv, lv'] w fun e w' => e = .returned (.bool true) ∧ Only (fun _ => False) w w' := by
  have HTree := hide (tree_any lv m X 30 0 w hr (by omega) (by omega))
  have HTree2 := hide (fun W (o : Only (fun _ => False) w W) => tree_any lv' m' X' 30 0 W (hr'.same o) (by omega) (by omega))
  have HT := hide hT
  have HKn := hide (fun W (o : Only (fun _ => False) w W) => known_any W ((unhide HT).same o))
  clear hr hr' hT
  go_enter Tryd.func3, Tryd.ntmps3
  go_wp2_with fail
  refine (unhide HTree).mono ?_
  rintro e w1 ⟨it, dv, kv, rfl, hit, hsm, hcnt, o1⟩
  have hfair := fair_of hsm hcnt
  obtain ⟨⟨da, dc, hds⟩, ka, kc, hks⟩ := hit.shapes
  subst hds
  subst hks
  have hb1 := heap_alloc_new w1 (.cells #[.int .i64 it.tag, .int .i64 it.typ, .int .i64 it.int, .slice da it.data.length dc, .slice ka it.kids.length kc] 26)
  have oI := (Only.refl (fun _ => False) w1).alloc (.cells #[.int .i64 it.tag, .int .i64 it.typ, .int .i64 it.int, .slice da it.data.length dc, .slice ka it.kids.length kc] 26)
  have HFair := hide hfair
  have HO2 := hide (o1.trans oI (fun _ _ e => e))
  have HIT := hide (hit.same oI)
  have HSW := hide o1.size
  have HB1 := hide hb1
  clear hit hsm hcnt o1 hfair HTree oI hb1
  go_upto_region 2 with fail
  generalize w1.alloc (.cells #[.int .i64 it.tag, .int .i64 it.typ, .int .i64 it.int, .slice da it.data.length dc, .slice ka it.kids.length kc] 26) = w2 at *
  generalize w1.heap.size = b1 at *
  go_wp2_with fail
  refine (unhide HTree2 _ (unhide HO2)).mono ?_
  rintro e w3 ⟨jt, dv, kv, rfl, hjt, hsm, hcnt, o3⟩
  have hfair := fair_of hsm hcnt
  obtain ⟨⟨ja, jc, hds⟩, la, lc, hks⟩ := hjt.shapes
  subst hds
  subst hks
  have hb3 := heap_alloc_new w3 (.cells #[.int .i64 jt.tag, .int .i64 jt.typ, .int .i64 jt.int, .slice ja jt.data.length jc, .slice la jt.kids.length lc] 26)
  have oJ := (Only.refl (fun _ => False) w3).alloc (.cells #[.int .i64 jt.tag, .int .i64 jt.typ, .int .i64 jt.int, .slice ja jt.data.length jc, .slice la jt.kids.length lc] 26)
  have HFairJ := hide hfair
  have HO4 := hide ((unhide HO2).trans (o3.trans oJ (fun _ _ e => e)) (fun _ _ e => e))
  have HJT := hide (ItAt.mono (R := fun k => w.heap.size ≤ k) (fun k _ hq => by have := (unhide HO2).size; omega) 31 (hjt.same oJ))
  have HIT4 := hide ((unhide HIT).same (o3.trans oJ (fun _ _ e => e)))
  have HB14 := hide ((o3.trans oJ (fun _ _ e => e)).heap (unhide HB1) (fun e => e))
  have HB3 := hide hb3
  clear hjt hsm hcnt o3 hfair HTree2 oJ hb3 HB1 HIT HO2
  go_upto_region 3 with fail
  generalize w3.alloc (.cells #[.int .i64 jt.tag, .int .i64 jt.typ, .int .i64 jt.int, .slice ja jt.data.length jc, .slice la jt.kids.length lc] 26) = w4 at *
  generalize w3.heap.size = b3 at *
  obtain ⟨c0, c1, c2, c3, c4⟩ := cells_of5 (unhide HB14)
  obtain ⟨d0, d1, d2, d3, d4⟩ := cells_of5 (unhide HB3)
  have oA := (Only.refl (fun _ => False) w4).alloc (.cells #[.int .i64 it.tag, .int .i64 it.typ, .int .i64 it.int, .slice da it.data.length dc, .slice ka it.kids.length kc] 26)
  have hgA := heap_alloc_new w4 (.cells #[.int .i64 it.tag, .int .i64 it.typ, .int .i64 it.int, .slice da it.data.length dc, .slice ka it.kids.length kc] 26)
  have hsA : (w4.alloc (.cells #[.int .i64 it.tag, .int .i64 it.typ, .int .i64 it.int, .slice da it.data.length dc, .slice ka it.kids.length kc] 26)).heap.size = w4.heap.size + 1 := by simp
  have oB := (Only.refl (fun _ => False) (w4.alloc (.cells #[.int .i64 it.tag, .int .i64 it.typ, .int .i64 it.int, .slice da it.data.length dc, .slice ka it.kids.length kc] 26))).alloc (.cells #[.int .i64 4325378, .int .i64 1, .int .i64 0, .slice none 0 0, .slice (some ⟨w4.heap.size, 0, none⟩) 1 1] 26)
  have hgB := heap_alloc_new (w4.alloc (.cells #[.int .i64 it.tag, .int .i64 it.typ, .int .i64 it.int, .slice da it.data.length dc, .slice ka it.kids.length kc] 26)) (.cells #[.int .i64 4325378, .int .i64 1, .int .i64 0, .slice none 0 0, .slice (some ⟨w4.heap.size, 0, none⟩) 1 1] 26)
  rw [hsA] at hgB
  have o46 := oA.trans oB (fun _ _ e => e)
  have HG1 := hide (oB.heap hgA (fun e => e))
  have HG2 := hide hgB
  have HO6 := hide ((unhide HO4).trans o46 (fun _ _ e => e))
  have HIT6 := hide ((unhide HIT4).same o46)
  have HJT6 := hide ((unhide HJT).same o46)
  have HB16 := hide (o46.heap (unhide HB14) (fun e => e))
  have HB36 := hide (o46.heap (unhide HB3) (fun e => e))
  have HGW := hide (unhide HO4).size
  clear oA hgA hsA oB hgB o46
  go_upto_region 4 with fail
  generalize (w4.alloc (.cells #[.int .i64 it.tag, .int .i64 it.typ, .int .i64 it.int, .slice da it.data.length dc, .slice ka it.kids.length kc] 26)).alloc (.cells #[.int .i64 4325378, .int .i64 1, .int .i64 0, .slice none 0 0, .slice (some ⟨w4.heap.size, 0, none⟩) 1 1] 26) = w6 at *
  generalize w4.heap.size = g1 at *
  clear c0 c1 c2 c3 c4 d0 d1 d2 d3 d4 HB14 HB3 HIT4 HJT HO4
  obtain ⟨c0, c1, c2, c3, c4⟩ := cells_of5 (unhide HB16)
  obtain ⟨d0, d1, d2, d3, d4⟩ := cells_of5 (unhide HB36)
  have oA := (Only.refl (fun _ => False) w6).alloc (.cells #[.int .i64 it.tag, .int .i64 it.typ, .int .i64 it.int, .slice da it.data.length dc, .slice ka it.kids.length kc, .int .i64 jt.tag, .int .i64 jt.typ, .int .i64 jt.int, .slice ja jt.data.length jc, .slice la jt.kids.length lc] 26)
  have hgA := heap_alloc_new w6 (.cells #[.int .i64 it.tag, .int .i64 it.typ, .int .i64 it.int, .slice da it.data.length dc, .slice ka it.kids.length kc, .int .i64 jt.tag, .int .i64 jt.typ, .int .i64 jt.int, .slice ja jt.data.length jc, .slice la jt.kids.length lc] 26)
  have hsA : (w6.alloc (.cells #[.int .i64 it.tag, .int .i64 it.typ, .int .i64 it.int, .slice da it.data.length dc, .slice ka it.kids.length kc, .int .i64 jt.tag, .int .i64 jt.typ, .int .i64 jt.int, .slice ja jt.data.length jc, .slice la jt.kids.length lc] 26)).heap.size = w6.heap.size + 1 := by simp
  have oB := (Only.refl (fun _ => False) (w6.alloc (.cells #[.int .i64 it.tag, .int .i64 it.typ, .int .i64 it.int, .slice da it.data.length dc, .slice ka it.kids.length kc, .int .i64 jt.tag, .int .i64 jt.typ, .int .i64 jt.int, .slice ja jt.data.length jc, .slice la jt.kids.length lc] 26))).alloc (.cells #[.int .i64 4325378, .int .i64 1, .int .i64 0, .slice none 0 0, .slice (some ⟨w6.heap.size, 0, none⟩) 2 2] 26)
  have hgB := heap_alloc_new (w6.alloc (.cells #[.int .i64 it.tag, .int .i64 it.typ, .int .i64 it.int, .slice da it.data.length dc, .slice ka it.kids.length kc, .int .i64 jt.tag, .int .i64 jt.typ, .int .i64 jt.int, .slice ja jt.data.length jc, .slice la jt.kids.length lc] 26)) (.cells #[.int .i64 4325378, .int .i64 1, .int .i64 0, .slice none 0 0, .slice (some ⟨w6.heap.size, 0, none⟩) 2 2] 26)
  rw [hsA] at hgB
  have o68 := oA.trans oB (fun _ _ e => e)
  have HG3 := hide (oB.heap hgA (fun e => e))
  have HG4 := hide hgB
  have HO8 := hide ((unhide HO6).trans o68 (fun _ _ e => e))
  have HIT8 := hide ((unhide HIT6).same o68)
  have HJT8 := hide ((unhide HJT6).same o68)
  have HB18 := hide (o68.heap (unhide HB16) (fun e => e))
  have HB38 := hide (o68.heap (unhide HB36) (fun e => e))
  have HG18 := hide (o68.heap (unhide HG1) (fun e => e))
  have HG28 := hide (o68.heap (unhide HG2) (fun e => e))
  have HGW2 := hide (unhide HO6).size
  clear oA hgA hsA oB hgB o68
  go_upto_region 5 with fail
  generalize (w6.alloc (.cells #[.int .i64 it.tag, .int .i64 it.typ, .int .i64 it.int, .slice da it.data.length dc, .slice ka it.kids.length kc, .int .i64 jt.tag, .int .i64 jt.typ, .int .i64 jt.int, .slice ja jt.data.length jc, .slice la jt.kids.length lc] 26)).alloc (.cells #[.int .i64 4325378, .int .i64 1, .int .i64 0, .slice none 0 0, .slice (some ⟨w6.heap.size, 0, none⟩) 2 2] 26) = w8 at *
  generalize w6.heap.size = g3 at *
  clear c0 c1 c2 c3 c4 d0 d1 d2 d3 d4 HB16 HB36 HIT6 HJT6 HO6 HG1 HG2
  have HS1 := hide (itAt_of (kids_one (unhide HG18) (Q := fun k => w.heap.size ≤ k) (unhide HGW) (unhide HIT8)) 4325378 1 0)
  have HS2 := hide (itAt_of (kids_two (unhide HG3) (Q := fun k => w.heap.size ≤ k) (unhide HGW2) (unhide HIT8) (unhide HJT8)) 4325378 1 0)
  have hSmI : it.small 140737488355328 := small_le it (by decide) (unhide HFair).small
  have hSmJ : jt.small 140737488355328 := small_le jt (by decide) (unhide HFairJ).small
  have hzI := (unhide HFair).size
  have hzJ := (unhide HFairJ).size
  obtain ⟨a, ha⟩ : ∃ a, a = it.size := ⟨_, rfl⟩
  obtain ⟨b, hb⟩ : ∃ b, b = jt.size := ⟨_, rfl⟩
  have HA := hide ha
  have HB := hide hb
  have HEn := hide (Encode_any 31 it _ _ w8 (unhide HIT8) ((unhide HT).same (unhide HO8)) (by decide) (by omega) hSmI)
  have HSzI := hide (fun W (o : Only (fun _ => False) w8 W) => Size_any 31 it _ _ W ((unhide HIT8).same o) (by decide) (by omega) hSmI)
  have HSzJ := hide (fun W (o : Only (fun _ => False) w8 W) => Size_any 31 jt _ _ W ((unhide HJT8).same o) (by decide) (by omega) hSmJ)
  have HSzS := hide (fun W (o : Only (fun _ => False) w8 W) => Size_any 32 (s1 it) _ _ W ((unhide HS1).same o) (by decide) (by rw [s1_size]; omega) (s1_small hSmI))
  have HSzT := hide (fun W (o : Only (fun _ => False) w8 W) => Size_any 32 (s2 it jt) _ _ W ((unhide HS2).same o) (by decide) (by rw [s2_size]; omega) (s2_small hSmI hSmJ))
  have HC1 := hide (cells_of5 (unhide HB18))
  have HC2 := hide (cells_of5 (unhide HB38))
  have HC3 := hide (cells_of5 (unhide HG28))
  have HC4 := hide (cells_of5 (unhide HG4))
  rw [← ha] at HSzI
  rw [← hb] at HSzJ
  rw [s1_size, ← ha] at HSzS
  rw [s2_size, ← ha, ← hb] at HSzT
  have e1 : ((8 + a : Nat) : Int) = 8 + (a : Int) := by omega
  have e2 : ((8 + a + b : Nat) : Int) = 8 + (a : Int) + (b : Int) := by omega
  rw [e1] at HSzS
  rw [e2] at HSzT
  clear e1 e2
  have ha2 : a ≤ 1240 := by omega
  have hb2 : b ≤ 1240 := by omega
  have hlay : it.lay.length = a := by rw [lay_length, ha]
  have HLay := hide hlay
  unfold ival at HEn HSzI HSzJ
  clear hSmI hSmJ hzI hzJ ha hb HS1 HS2 HG18 HG28 HG3 HG4 HB18 HB38 HIT8 HJT8 hlay
  obtain ⟨c0, c1, c2, c3, c4⟩ := unhide HC1
  have hw1 : IntKind.i64.wrap (8 + (a : Int)) = 8 + (a : Int) := by rw [IntKind.wrap_i64]; omega
  have hw2 : IntKind.i64.wrap (8 + (a : Int) + (b : Int)) = 8 + (a : Int) + (b : Int) := by rw [IntKind.wrap_i64]; omega
  go_wp2_with fail
  refine (unhide HEn).mono ?_
  rintro e w9 ⟨he, o9⟩
  have HO9 := hide ((unhide HO8).trans o9 (fun _ _ e => e))
  have H89 := hide o9
  clear c0 c1 c2 c3 c4 o9 HEn
  unfold EncAs at he
  cases hrb : rightB it with
  | false =>
    rw [hrb, if_neg (by decide)] at he
    subst he
    clear hrb
    go_wp2_with fail
    refine wp_region_held_drew (S := (fun w' => Only (fun _ => False) w9 w')) (by kernel_rfl) ((Only.refl _ _).drew) (fun hHeld => ?_)
    refine wpAnyH_ready (rs := [0]) (by kernel_rfl) (by simp) ?_
    refine AllReadyH.cons rfl (fun K hK => ?_) AllReadyH.nil
    go_simp
    go_wp2_with fail; refine (unhide HKn _ (Only.trans (unhide HO9) (by first | exact Only.refl _ _ | exact (Only.refl _ _).drew) (fun _ _ e => e))).mono ?_; rintro e xa ⟨rfl, ya⟩; have HNa : Hid (Only (fun _ => False) w9 xa) := Only.trans (by first | exact Only.refl _ _ | exact (Only.refl _ _).drew) ya (fun _ _ e => e)
    refine hK.out _ _ ((unhide HNa)) (fun hHeld => ?_)
    clear hK K
    try simp only [Act.put, List.setIfInBounds_toArray, List.set_cons_zero, List.set_cons_succ, List.getElem_toArray, List.getElem_cons_succ, List.getElem_cons_zero]
    refine wpAnyH_take (i := 1) (v := ?v1) rfl (by kernel_rfl) (by kernel_rfl) (by kernel_rfl) (fun _ _ _ h => h) (Or.inl ⟨by rfl, ?hy1⟩) (by assumption) ?rest1
    case hy1 =>
      intro w hSw
      go_simp
      try with_reducible rfl
    try simp only [Act.put, List.setIfInBounds_toArray, List.set_cons_zero, List.set_cons_succ, List.getElem_toArray, List.getElem_cons_succ, List.getElem_cons_zero]
    refine wpAnyH_take (i := 2) (v := ?v2) rfl (by kernel_rfl) (by kernel_rfl) (by kernel_rfl) (fun _ _ _ h => h) (Or.inl ⟨by rfl, ?hy2⟩) (by assumption) ?rest2
    case hy2 =>
      intro w hSw
      (obtain ⟨q0, q1, q2, q3, q4⟩ := unhide HC3; have q0 := hSw.cell ((unhide H89).cell q0 (fun e => e)) (fun e => e); have q1 := hSw.cell ((unhide H89).cell q1 (fun e => e)) (fun e => e); have q2 := hSw.cell ((unhide H89).cell q2 (fun e => e)) (fun e => e); have q3 := hSw.cell ((unhide H89).cell q3 (fun e => e)) (fun e => e); have q4 := hSw.cell ((unhide H89).cell q4 (fun e => e)) (fun e => e); go_simp; try with_reducible rfl)
    try simp only [Act.put, List.setIfInBounds_toArray, List.set_cons_zero, List.set_cons_succ, List.getElem_toArray, List.getElem_cons_succ, List.getElem_cons_zero]
    refine wpAnyH_take (i := 4) (v := ?v3) rfl (by kernel_rfl) (by kernel_rfl) (by kernel_rfl) (fun _ _ _ h => h) (Or.inl ⟨by rfl, ?hy3⟩) (by assumption) ?rest3
    case hy3 =>
      intro w hSw
      (obtain ⟨q0, q1, q2, q3, q4⟩ := unhide HC1; have q0 := hSw.cell ((unhide H89).cell q0 (fun e => e)) (fun e => e); have q1 := hSw.cell ((unhide H89).cell q1 (fun e => e)) (fun e => e); have q2 := hSw.cell ((unhide H89).cell q2 (fun e => e)) (fun e => e); have q3 := hSw.cell ((unhide H89).cell q3 (fun e => e)) (fun e => e); have q4 := hSw.cell ((unhide H89).cell q4 (fun e => e)) (fun e => e); go_simp; try with_reducible rfl)
    try simp only [Act.put, List.setIfInBounds_toArray, List.set_cons_zero, List.set_cons_succ, List.getElem_toArray, List.getElem_cons_succ, List.getElem_cons_zero]
    refine wpAnyH_ready (rs := [3]) (by kernel_rfl) (by simp) ?_
    refine AllReadyH.cons rfl (fun K hK => ?_) AllReadyH.nil
    go_simp
    go_wp2_with fail; refine (unhide HSzS _ (Only.trans (unhide H89) (by first | exact unhide HNa | exact (unhide HNa).drew) (fun _ _ e => e))).mono ?_; rintro e xb ⟨rfl, yb⟩; have HNb : Hid (Only (fun _ => False) w9 xb) := Only.trans (by first | exact unhide HNa | exact (unhide HNa).drew) yb (fun _ _ e => e)
    refine hK.out _ _ ((unhide HNb)) (fun hHeld => ?_)
    clear hK K
    try simp only [Act.put, List.setIfInBounds_toArray, List.set_cons_zero, List.set_cons_succ, List.getElem_toArray, List.getElem_cons_succ, List.getElem_cons_zero]
    refine wpAnyH_ready (rs := [5]) (by kernel_rfl) (by simp) ?_
    refine AllReadyH.cons rfl (fun K hK => ?_) AllReadyH.nil
    go_simp
    go_wp2_with fail; refine (unhide HSzI _ (Only.trans (unhide H89) (by first | exact unhide HNb | exact (unhide HNb).drew) (fun _ _ e => e))).mono ?_; rintro e xc ⟨rfl, yc⟩; have HNc : Hid (Only (fun _ => False) w9 xc) := Only.trans (by first | exact unhide HNb | exact (unhide HNb).drew) yc (fun _ _ e => e)
    refine hK.out _ _ ((unhide HNc)) (fun hHeld => ?_)
    clear hK K
    try simp only [Act.put, List.setIfInBounds_toArray, List.set_cons_zero, List.set_cons_succ, List.getElem_toArray, List.getElem_cons_succ, List.getElem_cons_zero]
    refine wpAnyH_take (i := 6) (v := ?v4) rfl (by kernel_rfl) (by kernel_rfl) (by kernel_rfl) (fun _ _ _ h => h) (Or.inl ⟨by rfl, ?hy4⟩) (by assumption) ?rest4
    case hy4 =>
      intro w hSw
      go_simp
      try with_reducible rfl
    try simp only [Act.put, List.setIfInBounds_toArray, List.set_cons_zero, List.set_cons_succ, List.getElem_toArray, List.getElem_cons_succ, List.getElem_cons_zero]
    refine wpAnyH_take (i := 7) (v := ?v5) rfl (by kernel_rfl) (by kernel_rfl) (by kernel_rfl) (fun _ _ _ h => h) (Or.inl ⟨by rfl, ?hy5⟩) (by assumption) ?rest5
    case hy5 =>
      intro w hSw
      go_simp
      try with_reducible rfl
    try simp only [Act.put, List.setIfInBounds_toArray, List.set_cons_zero, List.set_cons_succ, List.getElem_toArray, List.getElem_cons_succ, List.getElem_cons_zero]
    refine wpAnyH_take (i := 8) (v := ?v6) rfl (by kernel_rfl) (by kernel_rfl) (by kernel_rfl) (fun _ _ _ h => h) (Or.inl ⟨by rfl, ?hy6⟩) (by assumption) ?rest6
    case hy6 =>
      intro w hSw
      go_simp
      try with_reducible rfl
    try simp only [Act.put, List.setIfInBounds_toArray, List.set_cons_zero, List.set_cons_succ, List.getElem_toArray, List.getElem_cons_succ, List.getElem_cons_zero]
    refine wpAnyH_take (i := 9) (v := ?v7) rfl (by kernel_rfl) (by kernel_rfl) (by kernel_rfl) (fun _ _ _ h => h) (Or.inl ⟨by rfl, ?hy7⟩) (by assumption) ?rest7
    case hy7 =>
      intro w hSw
      go_simp
      try with_reducible rfl
    try simp only [Act.put, List.setIfInBounds_toArray, List.set_cons_zero, List.set_cons_succ, List.getElem_toArray, List.getElem_cons_succ, List.getElem_cons_zero]
    refine wpAnyH_take (i := 10) (v := ?v8) rfl (by kernel_rfl) (by kernel_rfl) (by kernel_rfl) (fun _ _ _ h => h) (Or.inl ⟨by rfl, ?hy8⟩) (by assumption) ?rest8
    case hy8 =>
      intro w hSw
      (obtain ⟨q0, q1, q2, q3, q4⟩ := unhide HC4; have q0 := hSw.cell ((unhide H89).cell q0 (fun e => e)) (fun e => e); have q1 := hSw.cell ((unhide H89).cell q1 (fun e => e)) (fun e => e); have q2 := hSw.cell ((unhide H89).cell q2 (fun e => e)) (fun e => e); have q3 := hSw.cell ((unhide H89).cell q3 (fun e => e)) (fun e => e); have q4 := hSw.cell ((unhide H89).cell q4 (fun e => e)) (fun e => e); go_simp; try with_reducible rfl)
    try simp only [Act.put, List.setIfInBounds_toArray, List.set_cons_zero, List.set_cons_succ, List.getElem_toArray, List.getElem_cons_succ, List.getElem_cons_zero]
    refine wpAnyH_take (i := 12) (v := ?v9) rfl (by kernel_rfl) (by kernel_rfl) (by kernel_rfl) (fun _ _ _ h => h) (Or.inl ⟨by rfl, ?hy9⟩) (by assumption) ?rest9
    case hy9 =>
      intro w hSw
      (obtain ⟨q0, q1, q2, q3, q4⟩ := unhide HC3; have q0 := hSw.cell ((unhide H89).cell q0 (fun e => e)) (fun e => e); have q1 := hSw.cell ((unhide H89).cell q1 (fun e => e)) (fun e => e); have q2 := hSw.cell ((unhide H89).cell q2 (fun e => e)) (fun e => e); have q3 := hSw.cell ((unhide H89).cell q3 (fun e => e)) (fun e => e); have q4 := hSw.cell ((unhide H89).cell q4 (fun e => e)) (fun e => e); go_simp; try with_reducible rfl)
    try simp only [Act.put, List.setIfInBounds_toArray, List.set_cons_zero, List.set_cons_succ, List.getElem_toArray, List.getElem_cons_succ, List.getElem_cons_zero]
    refine wpAnyH_take (i := 14) (v := ?v10) rfl (by kernel_rfl) (by kernel_rfl) (by kernel_rfl) (fun _ _ _ h => h) (Or.inl ⟨by rfl, ?hy10⟩) (by assumption) ?rest10
    case hy10 =>
      intro w hSw
      (obtain ⟨q0, q1, q2, q3, q4⟩ := unhide HC2; have q0 := hSw.cell ((unhide H89).cell q0 (fun e => e)) (fun e => e); have q1 := hSw.cell ((unhide H89).cell q1 (fun e => e)) (fun e => e); have q2 := hSw.cell ((unhide H89).cell q2 (fun e => e)) (fun e => e); have q3 := hSw.cell ((unhide H89).cell q3 (fun e => e)) (fun e => e); have q4 := hSw.cell ((unhide H89).cell q4 (fun e => e)) (fun e => e); go_simp; try with_reducible rfl)
    try simp only [Act.put, List.setIfInBounds_toArray, List.set_cons_zero, List.set_cons_succ, List.getElem_toArray, List.getElem_cons_succ, List.getElem_cons_zero]
    refine wpAnyH_ready (rs := [11]) (by kernel_rfl) (by simp) ?_
    refine AllReadyH.cons rfl (fun K hK => ?_) AllReadyH.nil
    go_simp
    go_wp2_with fail; refine (unhide HSzT _ (Only.trans (unhide H89) (by first | exact unhide HNc | exact (unhide HNc).drew) (fun _ _ e => e))).mono ?_; rintro e xd ⟨rfl, yd⟩; have HNd : Hid (Only (fun _ => False) w9 xd) := Only.trans (by first | exact unhide HNc | exact (unhide HNc).drew) yd (fun _ _ e => e)
    refine hK.out _ _ ((unhide HNd)) (fun hHeld => ?_)
    clear hK K
    try simp only [Act.put, List.setIfInBounds_toArray, List.set_cons_zero, List.set_cons_succ, List.getElem_toArray, List.getElem_cons_succ, List.getElem_cons_zero]
    refine wpAnyH_ready (rs := [13]) (by kernel_rfl) (by simp) ?_
    refine AllReadyH.cons rfl (fun K hK => ?_) AllReadyH.nil
    go_simp
    go_wp2_with fail; refine (unhide HSzS _ (Only.trans (unhide H89) (by first | exact unhide HNd | exact (unhide HNd).drew) (fun _ _ e => e))).mono ?_; rintro e xf ⟨rfl, yf⟩; have HNf : Hid (Only (fun _ => False) w9 xf) := Only.trans (by first | exact unhide HNd | exact (unhide HNd).drew) yf (fun _ _ e => e)
    refine hK.out _ _ ((unhide HNf)) (fun hHeld => ?_)
    clear hK K
    try simp only [Act.put, List.setIfInBounds_toArray, List.set_cons_zero, List.set_cons_succ, List.getElem_toArray, List.getElem_cons_succ, List.getElem_cons_zero]
    refine wpAnyH_ready (rs := [15]) (by kernel_rfl) (by simp) ?_
    refine AllReadyH.cons rfl (fun K hK => ?_) AllReadyH.nil
    go_simp
    go_wp2_with fail; refine (unhide HSzJ _ (Only.trans (unhide H89) (by first | exact unhide HNf | exact (unhide HNf).drew) (fun _ _ e => e))).mono ?_; rintro e xg ⟨rfl, yg⟩; have HNg : Hid (Only (fun _ => False) w9 xg) := Only.trans (by first | exact unhide HNf | exact (unhide HNf).drew) yg (fun _ _ e => e)
    refine hK.out _ _ ((unhide HNg)) (fun hHeld => ?_)
    clear hK K
    try simp only [Act.put, List.setIfInBounds_toArray, List.set_cons_zero, List.set_cons_succ, List.getElem_toArray, List.getElem_cons_succ, List.getElem_cons_zero]
    refine wpAnyH_take (i := 16) (v := ?v11) rfl (by kernel_rfl) (by kernel_rfl) (by kernel_rfl) (fun _ _ _ h => h) (Or.inl ⟨by rfl, ?hy11⟩) (by assumption) ?rest11
    case hy11 =>
      intro w hSw
      go_simp
      try with_reducible rfl
    try simp only [Act.put, List.setIfInBounds_toArray, List.set_cons_zero, List.set_cons_succ, List.getElem_toArray, List.getElem_cons_succ, List.getElem_cons_zero]
    refine wpAnyH_take (i := 17) (v := ?v12) rfl (by kernel_rfl) (by kernel_rfl) (by kernel_rfl) (fun _ _ _ h => h) (Or.inl ⟨by rfl, ?hy12⟩) (by assumption) ?rest12
    case hy12 =>
      intro w hSw
      go_simp
      try with_reducible rfl
    try simp only [Act.put, List.setIfInBounds_toArray, List.set_cons_zero, List.set_cons_succ, List.getElem_toArray, List.getElem_cons_succ, List.getElem_cons_zero]
    refine wpAnyH_take (i := 18) (v := ?v13) rfl (by kernel_rfl) (by kernel_rfl) (by kernel_rfl) (fun _ _ _ h => h) (Or.inl ⟨by rfl, ?hy13⟩) (by assumption) ?rest13
    case hy13 =>
      intro w hSw
      go_simp
      try with_reducible rfl
    try simp only [Act.put, List.setIfInBounds_toArray, List.set_cons_zero, List.set_cons_succ, List.getElem_toArray, List.getElem_cons_succ, List.getElem_cons_zero]
    refine wpAnyH_take (i := 19) (v := ?v14) rfl (by kernel_rfl) (by kernel_rfl) (by kernel_rfl) (fun _ _ _ h => h) (Or.inl ⟨by rfl, ?hy14⟩) (by assumption) ?rest14
    case hy14 =>
      intro w hSw
      go_simp
      try with_reducible rfl
    try simp only [Act.put, List.setIfInBounds_toArray, List.set_cons_zero, List.set_cons_succ, List.getElem_toArray, List.getElem_cons_succ, List.getElem_cons_zero]
    refine wpAnyH_take (i := 20) (v := ?v15) rfl (by kernel_rfl) (by kernel_rfl) (by kernel_rfl) (fun _ _ _ h => h) (Or.inl ⟨by rfl, ?hy15⟩) (by assumption) ?rest15
    case hy15 =>
      intro w hSw
      go_simp
      try with_reducible rfl
    try simp only [Act.put, List.setIfInBounds_toArray, List.set_cons_zero, List.set_cons_succ, List.getElem_toArray, List.getElem_cons_succ, List.getElem_cons_zero]
    refine wpAnyH_take (i := 21) (v := ?v16) rfl (by kernel_rfl) (by kernel_rfl) (by kernel_rfl) (fun _ _ _ h => h) (Or.inl ⟨by rfl, ?hy16⟩) (by assumption) ?rest16
    case hy16 =>
      intro w hSw
      go_simp
      try with_reducible rfl
    try simp only [Act.put, List.setIfInBounds_toArray, List.set_cons_zero, List.set_cons_succ, List.getElem_toArray, List.getElem_cons_succ, List.getElem_cons_zero]
    refine wpAnyH_take (i := 22) (v := ?v17) rfl (by kernel_rfl) (by kernel_rfl) (by kernel_rfl) (fun _ _ _ h => h) (Or.inl ⟨by rfl, ?hy17⟩) (by assumption) ?rest17
    case hy17 =>
      intro w hSw
      go_simp
      try with_reducible rfl
    try simp only [Act.put, List.setIfInBounds_toArray, List.set_cons_zero, List.set_cons_succ, List.getElem_toArray, List.getElem_cons_succ, List.getElem_cons_zero]
    refine wpAnyH_take (i := 23) (v := undef) rfl (by kernel_rfl) (by kernel_rfl) (by kernel_rfl) (fun _ _ _ h => h) (Or.inr ⟨by rfl, rfl⟩) (by assumption) ?_
    try simp only [Act.put, List.setIfInBounds_toArray, List.set_cons_zero, List.set_cons_succ, List.getElem_toArray, List.getElem_cons_succ, List.getElem_cons_zero]
    refine wpAnyH_take (i := 24) (v := undef) rfl (by kernel_rfl) (by kernel_rfl) (by kernel_rfl) (fun _ _ _ h => h) (Or.inr ⟨by rfl, rfl⟩) (by assumption) ?_
    try simp only [Act.put, List.setIfInBounds_toArray, List.set_cons_zero, List.set_cons_succ, List.getElem_toArray, List.getElem_cons_succ, List.getElem_cons_zero]
    refine wpAnyH_take (i := 25) (v := undef) rfl (by kernel_rfl) (by kernel_rfl) (by kernel_rfl) (fun _ _ _ h => h) (Or.inr ⟨by rfl, rfl⟩) (by assumption) ?_
    try simp only [Act.put, List.setIfInBounds_toArray, List.set_cons_zero, List.set_cons_succ, List.getElem_toArray, List.getElem_cons_succ, List.getElem_cons_zero]
    refine wpAnyH_take (i := 26) (v := undef) rfl (by kernel_rfl) (by kernel_rfl) (by kernel_rfl) (fun _ _ _ h => h) (Or.inr ⟨by rfl, rfl⟩) (by assumption) ?_
    try simp only [Act.put, List.setIfInBounds_toArray, List.set_cons_zero, List.set_cons_succ, List.getElem_toArray, List.getElem_cons_succ, List.getElem_cons_zero]
    refine wpAnyH_take (i := 27) (v := undef) rfl (by kernel_rfl) (by kernel_rfl) (by kernel_rfl) (fun _ _ _ h => h) (Or.inr ⟨by rfl, rfl⟩) (by assumption) ?_
    try simp only [Act.put, List.setIfInBounds_toArray, List.set_cons_zero, List.set_cons_succ, List.getElem_toArray, List.getElem_cons_succ, List.getElem_cons_zero]
    refine wpAnyH_take (i := 28) (v := ?v18) rfl (by kernel_rfl) (by kernel_rfl) (by kernel_rfl) (fun _ _ _ h => h) (Or.inl ⟨by rfl, ?hy18⟩) (by assumption) ?rest18
    case hy18 =>
      intro w hSw
      go_simp
      try with_reducible rfl
    try simp only [Act.put, List.setIfInBounds_toArray, List.set_cons_zero, List.set_cons_succ, List.getElem_toArray, List.getElem_cons_succ, List.getElem_cons_zero]
    refine wpAnyH_take (i := 29) (v := ?v19) rfl (by kernel_rfl) (by kernel_rfl) (by kernel_rfl) (fun _ _ _ h => h) (Or.inl ⟨by rfl, ?hy19⟩) (by assumption) ?rest19
    case hy19 =>
      intro w hSw
      go_simp
      try with_reducible rfl
    try simp only [Act.put, List.setIfInBounds_toArray, List.set_cons_zero, List.set_cons_succ, List.getElem_toArray, List.getElem_cons_succ, List.getElem_cons_zero]
    refine wpAnyH_take (i := 30) (v := ?v20) rfl (by kernel_rfl) (by kernel_rfl) (by kernel_rfl) (fun _ _ _ h => h) (Or.inl ⟨by rfl, ?hy20⟩) (by assumption) ?rest20
    case hy20 =>
      intro w hSw
      go_simp
      try with_reducible rfl
    try simp only [Act.put, List.setIfInBounds_toArray, List.set_cons_zero, List.set_cons_succ, List.getElem_toArray, List.getElem_cons_succ, List.getElem_cons_zero]
    refine wpAnyH_done (by kernel_rfl) ?_ _
    go_wp2
    go_ret
    exact ⟨rfl, (unhide HO9).trans (unhide HNg) (fun _ _ e => e)⟩
  | true =>
    rw [hrb, if_pos rfl] at he
    obtain ⟨v, rfl, hv, _⟩ := he
    obtain ⟨va, vc, hvs, _⟩ := hv.shape
    subst hvs
    rw [unhide HLay]
    clear hv hrb
    go_wp2_with fail
    refine wp_region_held_drew (S := (fun w' => Only (fun _ => False) w9 w')) (by kernel_rfl) ((Only.refl _ _).drew) (fun hHeld => ?_)
    refine wpAnyH_ready (rs := [0]) (by kernel_rfl) (by simp) ?_
    refine AllReadyH.cons rfl (fun K hK => ?_) AllReadyH.nil
    go_simp
    go_wp2_with fail; refine (unhide HKn _ (Only.trans (unhide HO9) (by first | exact Only.refl _ _ | exact (Only.refl _ _).drew) (fun _ _ e => e))).mono ?_; rintro e xa ⟨rfl, ya⟩; have HNa : Hid (Only (fun _ => False) w9 xa) := Only.trans (by first | exact Only.refl _ _ | exact (Only.refl _ _).drew) ya (fun _ _ e => e)
    refine hK.out _ _ ((unhide HNa)) (fun hHeld => ?_)
    clear hK K
    try simp only [Act.put, List.setIfInBounds_toArray, List.set_cons_zero, List.set_cons_succ, List.getElem_toArray, List.getElem_cons_succ, List.getElem_cons_zero]
    refine wpAnyH_take (i := 1) (v := ?v21) rfl (by kernel_rfl) (by kernel_rfl) (by kernel_rfl) (fun _ _ _ h => h) (Or.inl ⟨by rfl, ?hy21⟩) (by assumption) ?rest21
    case hy21 =>
      intro w hSw
      go_simp
      try with_reducible rfl
    try simp only [Act.put, List.setIfInBounds_toArray, List.set_cons_zero, List.set_cons_succ, List.getElem_toArray, List.getElem_cons_succ, List.getElem_cons_zero]
    refine wpAnyH_take (i := 2) (v := ?v22) rfl (by kernel_rfl) (by kernel_rfl) (by kernel_rfl) (fun _ _ _ h => h) (Or.inl ⟨by rfl, ?hy22⟩) (by assumption) ?rest22
    case hy22 =>
      intro w hSw
      (obtain ⟨q0, q1, q2, q3, q4⟩ := unhide HC3; have q0 := hSw.cell ((unhide H89).cell q0 (fun e => e)) (fun e => e); have q1 := hSw.cell ((unhide H89).cell q1 (fun e => e)) (fun e => e); have q2 := hSw.cell ((unhide H89).cell q2 (fun e => e)) (fun e => e); have q3 := hSw.cell ((unhide H89).cell q3 (fun e => e)) (fun e => e); have q4 := hSw.cell ((unhide H89).cell q4 (fun e => e)) (fun e => e); go_simp; try with_reducible rfl)
    try simp only [Act.put, List.setIfInBounds_toArray, List.set_cons_zero, List.set_cons_succ, List.getElem_toArray, List.getElem_cons_succ, List.getElem_cons_zero]
    refine wpAnyH_take (i := 4) (v := ?v23) rfl (by kernel_rfl) (by kernel_rfl) (by kernel_rfl) (fun _ _ _ h => h) (Or.inl ⟨by rfl, ?hy23⟩) (by assumption) ?rest23
    case hy23 =>
      intro w hSw
      (obtain ⟨q0, q1, q2, q3, q4⟩ := unhide HC1; have q0 := hSw.cell ((unhide H89).cell q0 (fun e => e)) (fun e => e); have q1 := hSw.cell ((unhide H89).cell q1 (fun e => e)) (fun e => e); have q2 := hSw.cell ((unhide H89).cell q2 (fun e => e)) (fun e => e); have q3 := hSw.cell ((unhide H89).cell q3 (fun e => e)) (fun e => e); have q4 := hSw.cell ((unhide H89).cell q4 (fun e => e)) (fun e => e); go_simp; try with_reducible rfl)
    try simp only [Act.put, List.setIfInBounds_toArray, List.set_cons_zero, List.set_cons_succ, List.getElem_toArray, List.getElem_cons_succ, List.getElem_cons_zero]
    refine wpAnyH_ready (rs := [3]) (by kernel_rfl) (by simp) ?_
    refine AllReadyH.cons rfl (fun K hK => ?_) AllReadyH.nil
    go_simp
    go_wp2_with fail; refine (unhide HSzS _ (Only.trans (unhide H89) (by first | exact unhide HNa | exact (unhide HNa).drew) (fun _ _ e => e))).mono ?_; rintro e xb ⟨rfl, yb⟩; have HNb : Hid (Only (fun _ => False) w9 xb) := Only.trans (by first | exact unhide HNa | exact (unhide HNa).drew) yb (fun _ _ e => e)
    refine hK.out _ _ ((unhide HNb)) (fun hHeld => ?_)
    clear hK K
    try simp only [Act.put, List.setIfInBounds_toArray, List.set_cons_zero, List.set_cons_succ, List.getElem_toArray, List.getElem_cons_succ, List.getElem_cons_zero]
    refine wpAnyH_ready (rs := [5]) (by kernel_rfl) (by simp) ?_
    refine AllReadyH.cons rfl (fun K hK => ?_) AllReadyH.nil
    go_simp
    go_wp2_with fail; refine (unhide HSzI _ (Only.trans (unhide H89) (by first | exact unhide HNb | exact (unhide HNb).drew) (fun _ _ e => e))).mono ?_; rintro e xc ⟨rfl, yc⟩; have HNc : Hid (Only (fun _ => False) w9 xc) := Only.trans (by first | exact unhide HNb | exact (unhide HNb).drew) yc (fun _ _ e => e)
    refine hK.out _ _ ((unhide HNc)) (fun hHeld => ?_)
    clear hK K
    try simp only [Act.put, List.setIfInBounds_toArray, List.set_cons_zero, List.set_cons_succ, List.getElem_toArray, List.getElem_cons_succ, List.getElem_cons_zero]
    refine wpAnyH_take (i := 6) (v := ?v24) rfl (by kernel_rfl) (by kernel_rfl) (by kernel_rfl) (fun _ _ _ h => h) (Or.inl ⟨by rfl, ?hy24⟩) (by assumption) ?rest24
    case hy24 =>
      intro w hSw
      go_simp
      try with_reducible rfl
    try simp only [Act.put, List.setIfInBounds_toArray, List.set_cons_zero, List.set_cons_succ, List.getElem_toArray, List.getElem_cons_succ, List.getElem_cons_zero]
    refine wpAnyH_take (i := 7) (v := ?v25) rfl (by kernel_rfl) (by kernel_rfl) (by kernel_rfl) (fun _ _ _ h => h) (Or.inl ⟨by rfl, ?hy25⟩) (by assumption) ?rest25
    case hy25 =>
      intro w hSw
      go_simp
      try with_reducible rfl
    try simp only [Act.put, List.setIfInBounds_toArray, List.set_cons_zero, List.set_cons_succ, List.getElem_toArray, List.getElem_cons_succ, List.getElem_cons_zero]
    refine wpAnyH_take (i := 8) (v := ?v26) rfl (by kernel_rfl) (by kernel_rfl) (by kernel_rfl) (fun _ _ _ h => h) (Or.inl ⟨by rfl, ?hy26⟩) (by assumption) ?rest26
    case hy26 =>
      intro w hSw
      go_simp
      try with_reducible rfl
    try simp only [Act.put, List.setIfInBounds_toArray, List.set_cons_zero, List.set_cons_succ, List.getElem_toArray, List.getElem_cons_succ, List.getElem_cons_zero]
    refine wpAnyH_take (i := 9) (v := ?v27) rfl (by kernel_rfl) (by kernel_rfl) (by kernel_rfl) (fun _ _ _ h => h) (Or.inl ⟨by rfl, ?hy27⟩) (by assumption) ?rest27
    case hy27 =>
      intro w hSw
      go_simp
      try with_reducible rfl
    try simp only [Act.put, List.setIfInBounds_toArray, List.set_cons_zero, List.set_cons_succ, List.getElem_toArray, List.getElem_cons_succ, List.getElem_cons_zero]
    refine wpAnyH_take (i := 10) (v := ?v28) rfl (by kernel_rfl) (by kernel_rfl) (by kernel_rfl) (fun _ _ _ h => h) (Or.inl ⟨by rfl, ?hy28⟩) (by assumption) ?rest28
    case hy28 =>
      intro w hSw
      (obtain ⟨q0, q1, q2, q3, q4⟩ := unhide HC4; have q0 := hSw.cell ((unhide H89).cell q0 (fun e => e)) (fun e => e); have q1 := hSw.cell ((unhide H89).cell q1 (fun e => e)) (fun e => e); have q2 := hSw.cell ((unhide H89).cell q2 (fun e => e)) (fun e => e); have q3 := hSw.cell ((unhide H89).cell q3 (fun e => e)) (fun e => e); have q4 := hSw.cell ((unhide H89).cell q4 (fun e => e)) (fun e => e); go_simp; try with_reducible rfl)
    try simp only [Act.put, List.setIfInBounds_toArray, List.set_cons_zero, List.set_cons_succ, List.getElem_toArray, List.getElem_cons_succ, List.getElem_cons_zero]
    refine wpAnyH_take (i := 12) (v := ?v29) rfl (by kernel_rfl) (by kernel_rfl) (by kernel_rfl) (fun _ _ _ h => h) (Or.inl ⟨by rfl, ?hy29⟩) (by assumption) ?rest29
    case hy29 =>
      intro w hSw
      (obtain ⟨q0, q1, q2, q3, q4⟩ := unhide HC3; have q0 := hSw.cell ((unhide H89).cell q0 (fun e => e)) (fun e => e); have q1 := hSw.cell ((unhide H89).cell q1 (fun e => e)) (fun e => e); have q2 := hSw.cell ((unhide H89).cell q2 (fun e => e)) (fun e => e); have q3 := hSw.cell ((unhide H89).cell q3 (fun e => e)) (fun e => e); have q4 := hSw.cell ((unhide H89).cell q4 (fun e => e)) (fun e => e); go_simp; try with_reducible rfl)
    try simp only [Act.put, List.setIfInBounds_toArray, List.set_cons_zero, List.set_cons_succ, List.getElem_toArray, List.getElem_cons_succ, List.getElem_cons_zero]
    refine wpAnyH_take (i := 14) (v := ?v30) rfl (by kernel_rfl) (by kernel_rfl) (by kernel_rfl) (fun _ _ _ h => h) (Or.inl ⟨by rfl, ?hy30⟩) (by assumption) ?rest30
    case hy30 =>
      intro w hSw
      (obtain ⟨q0, q1, q2, q3, q4⟩ := unhide HC2; have q0 := hSw.cell ((unhide H89).cell q0 (fun e => e)) (fun e => e); have q1 := hSw.cell ((unhide H89).cell q1 (fun e => e)) (fun e => e); have q2 := hSw.cell ((unhide H89).cell q2 (fun e => e)) (fun e => e); have q3 := hSw.cell ((unhide H89).cell q3 (fun e => e)) (fun e => e); have q4 := hSw.cell ((unhide H89).cell q4 (fun e => e)) (fun e => e); go_simp; try with_reducible rfl)
    try simp only [Act.put, List.setIfInBounds_toArray, List.set_cons_zero, List.set_cons_succ, List.getElem_toArray, List.getElem_cons_succ, List.getElem_cons_zero]
    refine wpAnyH_ready (rs := [11]) (by kernel_rfl) (by simp) ?_
    refine AllReadyH.cons rfl (fun K hK => ?_) AllReadyH.nil
    go_simp
    go_wp2_with fail; refine (unhide HSzT _ (Only.trans (unhide H89) (by first | exact unhide HNc | exact (unhide HNc).drew) (fun _ _ e => e))).mono ?_; rintro e xd ⟨rfl, yd⟩; have HNd : Hid (Only (fun _ => False) w9 xd) := Only.trans (by first | exact unhide HNc | exact (unhide HNc).drew) yd (fun _ _ e => e)
    refine hK.out _ _ ((unhide HNd)) (fun hHeld => ?_)
    clear hK K
    try simp only [Act.put, List.setIfInBounds_toArray, List.set_cons_zero, List.set_cons_succ, List.getElem_toArray, List.getElem_cons_succ, List.getElem_cons_zero]
    refine wpAnyH_ready (rs := [13]) (by kernel_rfl) (by simp) ?_
    refine AllReadyH.cons rfl (fun K hK => ?_) AllReadyH.nil
    go_simp
    go_wp2_with fail; refine (unhide HSzS _ (Only.trans (unhide H89) (by first | exact unhide HNd | exact (unhide HNd).drew) (fun _ _ e => e))).mono ?_; rintro e xf ⟨rfl, yf⟩; have HNf : Hid (Only (fun _ => False) w9 xf) := Only.trans (by first | exact unhide HNd | exact (unhide HNd).drew) yf (fun _ _ e => e)
    refine hK.out _ _ ((unhide HNf)) (fun hHeld => ?_)
    clear hK K
    try simp only [Act.put, List.setIfInBounds_toArray, List.set_cons_zero, List.set_cons_succ, List.getElem_toArray, List.getElem_cons_succ, List.getElem_cons_zero]
    refine wpAnyH_ready (rs := [15]) (by kernel_rfl) (by simp) ?_
    refine AllReadyH.cons rfl (fun K hK => ?_) AllReadyH.nil
    go_simp
    go_wp2_with fail; refine (unhide HSzJ _ (Only.trans (unhide H89) (by first | exact unhide HNf | exact (unhide HNf).drew) (fun _ _ e => e))).mono ?_; rintro e xg ⟨rfl, yg⟩; have HNg : Hid (Only (fun _ => False) w9 xg) := Only.trans (by first | exact unhide HNf | exact (unhide HNf).drew) yg (fun _ _ e => e)
    refine hK.out _ _ ((unhide HNg)) (fun hHeld => ?_)
    clear hK K
    try simp only [Act.put, List.setIfInBounds_toArray, List.set_cons_zero, List.set_cons_succ, List.getElem_toArray, List.getElem_cons_succ, List.getElem_cons_zero]
    refine wpAnyH_take (i := 16) (v := ?v31) rfl (by kernel_rfl) (by kernel_rfl) (by kernel_rfl) (fun _ _ _ h => h) (Or.inl ⟨by rfl, ?hy31⟩) (by assumption) ?rest31
    case hy31 =>
      intro w hSw
      go_simp
      try with_reducible rfl
    try simp only [Act.put, List.setIfInBounds_toArray, List.set_cons_zero, List.set_cons_succ, List.getElem_toArray, List.getElem_cons_succ, List.getElem_cons_zero]
    refine wpAnyH_take (i := 17) (v := ?v32) rfl (by kernel_rfl) (by kernel_rfl) (by kernel_rfl) (fun _ _ _ h => h) (Or.inl ⟨by rfl, ?hy32⟩) (by assumption) ?rest32
    case hy32 =>
      intro w hSw
      go_simp
      try with_reducible rfl
    try simp only [Act.put, List.setIfInBounds_toArray, List.set_cons_zero, List.set_cons_succ, List.getElem_toArray, List.getElem_cons_succ, List.getElem_cons_zero]
    refine wpAnyH_take (i := 18) (v := ?v33) rfl (by kernel_rfl) (by kernel_rfl) (by kernel_rfl) (fun _ _ _ h => h) (Or.inl ⟨by rfl, ?hy33⟩) (by assumption) ?rest33
    case hy33 =>
      intro w hSw
      go_simp
      try with_reducible rfl
    try simp only [Act.put, List.setIfInBounds_toArray, List.set_cons_zero, List.set_cons_succ, List.getElem_toArray, List.getElem_cons_succ, List.getElem_cons_zero]
    refine wpAnyH_take (i := 19) (v := ?v34) rfl (by kernel_rfl) (by kernel_rfl) (by kernel_rfl) (fun _ _ _ h => h) (Or.inl ⟨by rfl, ?hy34⟩) (by assumption) ?rest34
    case hy34 =>
      intro w hSw
      go_simp
      try with_reducible rfl
    try simp only [Act.put, List.setIfInBounds_toArray, List.set_cons_zero, List.set_cons_succ, List.getElem_toArray, List.getElem_cons_succ, List.getElem_cons_zero]
    refine wpAnyH_take (i := 20) (v := ?v35) rfl (by kernel_rfl) (by kernel_rfl) (by kernel_rfl) (fun _ _ _ h => h) (Or.inl ⟨by rfl, ?hy35⟩) (by assumption) ?rest35
    case hy35 =>
      intro w hSw
      go_simp
      try with_reducible rfl
    try simp only [Act.put, List.setIfInBounds_toArray, List.set_cons_zero, List.set_cons_succ, List.getElem_toArray, List.getElem_cons_succ, List.getElem_cons_zero]
    refine wpAnyH_take (i := 21) (v := ?v36) rfl (by kernel_rfl) (by kernel_rfl) (by kernel_rfl) (fun _ _ _ h => h) (Or.inl ⟨by rfl, ?hy36⟩) (by assumption) ?rest36
    case hy36 =>
      intro w hSw
      go_simp
      try with_reducible rfl
    try simp only [Act.put, List.setIfInBounds_toArray, List.set_cons_zero, List.set_cons_succ, List.getElem_toArray, List.getElem_cons_succ, List.getElem_cons_zero]
    refine wpAnyH_take (i := 22) (v := ?v37) rfl (by kernel_rfl) (by kernel_rfl) (by kernel_rfl) (fun _ _ _ h => h) (Or.inl ⟨by rfl, ?hy37⟩) (by assumption) ?rest37
    case hy37 =>
      intro w hSw
      go_simp
      try with_reducible rfl
    try simp only [Act.put, List.setIfInBounds_toArray, List.set_cons_zero, List.set_cons_succ, List.getElem_toArray, List.getElem_cons_succ, List.getElem_cons_zero]
    refine wpAnyH_take (i := 23) (v := ?v38) rfl (by kernel_rfl) (by kernel_rfl) (by kernel_rfl) (fun _ _ _ h => h) (Or.inl ⟨by rfl, ?hy38⟩) (by assumption) ?rest38
    case hy38 =>
      intro w hSw
      go_simp
      try with_reducible rfl
    try simp only [Act.put, List.setIfInBounds_toArray, List.set_cons_zero, List.set_cons_succ, List.getElem_toArray, List.getElem_cons_succ, List.getElem_cons_zero]
    refine wpAnyH_take (i := 24) (v := ?v39) rfl (by kernel_rfl) (by kernel_rfl) (by kernel_rfl) (fun _ _ _ h => h) (Or.inl ⟨by rfl, ?hy39⟩) (by assumption) ?rest39
    case hy39 =>
      intro w hSw
      go_simp
      try with_reducible rfl
    try simp only [Act.put, List.setIfInBounds_toArray, List.set_cons_zero, List.set_cons_succ, List.getElem_toArray, List.getElem_cons_succ, List.getElem_cons_zero]
    refine wpAnyH_take (i := 25) (v := ?v40) rfl (by kernel_rfl) (by kernel_rfl) (by kernel_rfl) (fun _ _ _ h => h) (Or.inl ⟨by rfl, ?hy40⟩) (by assumption) ?rest40
    case hy40 =>
      intro w hSw
      (obtain ⟨q0, q1, q2, q3, q4⟩ := unhide HC1; have q0 := hSw.cell ((unhide H89).cell q0 (fun e => e)) (fun e => e); have q1 := hSw.cell ((unhide H89).cell q1 (fun e => e)) (fun e => e); have q2 := hSw.cell ((unhide H89).cell q2 (fun e => e)) (fun e => e); have q3 := hSw.cell ((unhide H89).cell q3 (fun e => e)) (fun e => e); have q4 := hSw.cell ((unhide H89).cell q4 (fun e => e)) (fun e => e); go_simp; try with_reducible rfl)
    try simp only [Act.put, List.setIfInBounds_toArray, List.set_cons_zero, List.set_cons_succ, List.getElem_toArray, List.getElem_cons_succ, List.getElem_cons_zero]
    refine wpAnyH_ready (rs := [26]) (by kernel_rfl) (by simp) ?_
    refine AllReadyH.cons rfl (fun K hK => ?_) AllReadyH.nil
    go_simp
    go_wp2_with fail; refine (unhide HSzI _ (Only.trans (unhide H89) (by first | exact unhide HNg | exact (unhide HNg).drew) (fun _ _ e => e))).mono ?_; rintro e xh ⟨rfl, yh⟩; have HNh : Hid (Only (fun _ => False) w9 xh) := Only.trans (by first | exact unhide HNg | exact (unhide HNg).drew) yh (fun _ _ e => e)
    refine hK.out _ _ ((unhide HNh)) (fun hHeld => ?_)
    clear hK K
    try simp only [Act.put, List.setIfInBounds_toArray, List.set_cons_zero, List.set_cons_succ, List.getElem_toArray, List.getElem_cons_succ, List.getElem_cons_zero]
    refine wpAnyH_take (i := 27) (v := ?v41) rfl (by kernel_rfl) (by kernel_rfl) (by kernel_rfl) (fun _ _ _ h => h) (Or.inl ⟨by rfl, ?hy41⟩) (by assumption) ?rest41
    case hy41 =>
      intro w hSw
      go_simp
      try with_reducible rfl
    try simp only [Act.put, List.setIfInBounds_toArray, List.set_cons_zero, List.set_cons_succ, List.getElem_toArray, List.getElem_cons_succ, List.getElem_cons_zero]
    refine wpAnyH_take (i := 28) (v := ?v42) rfl (by kernel_rfl) (by kernel_rfl) (by kernel_rfl) (fun _ _ _ h => h) (Or.inl ⟨by rfl, ?hy42⟩) (by assumption) ?rest42
    case hy42 =>
      intro w hSw
      go_simp
      try with_reducible rfl
    try simp only [Act.put, List.setIfInBounds_toArray, List.set_cons_zero, List.set_cons_succ, List.getElem_toArray, List.getElem_cons_succ, List.getElem_cons_zero]
    refine wpAnyH_take (i := 29) (v := ?v43) rfl (by kernel_rfl) (by kernel_rfl) (by kernel_rfl) (fun _ _ _ h => h) (Or.inl ⟨by rfl, ?hy43⟩) (by assumption) ?rest43
    case hy43 =>
      intro w hSw
      go_simp
      try with_reducible rfl
    try simp only [Act.put, List.setIfInBounds_toArray, List.set_cons_zero, List.set_cons_succ, List.getElem_toArray, List.getElem_cons_succ, List.getElem_cons_zero]
    refine wpAnyH_take (i := 30) (v := ?v44) rfl (by kernel_rfl) (by kernel_rfl) (by kernel_rfl) (fun _ _ _ h => h) (Or.inl ⟨by rfl, ?hy44⟩) (by assumption) ?rest44
    case hy44 =>
      intro w hSw
      go_simp
      try with_reducible rfl
    try simp only [Act.put, List.setIfInBounds_toArray, List.set_cons_zero, List.set_cons_succ, List.getElem_toArray, List.getElem_cons_succ, List.getElem_cons_zero]
    refine wpAnyH_done (by kernel_rfl) ?_ _
    go_wp2
    go_ret
    exact ⟨rfl, (unhide HO9).trans (unhide HNh) (fun _ _ e => e)⟩
end Tt
end Go.Proofs.YtedmfjnmclbkpabDoor
