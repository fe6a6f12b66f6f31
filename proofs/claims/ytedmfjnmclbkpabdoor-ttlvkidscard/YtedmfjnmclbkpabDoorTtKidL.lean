/-
  The law: a structure's bytes are its head and its kids' bytes.
-/
import Derived.Test.YtedmfjnmclbkpabDoorTtLit
import Derived.Test.YtedmfjnmclbkpabDoorTtSame
namespace Go.Proofs.YtedmfjnmclbkpabDoor
open Go.RowKit
set_option linter.unusedSimpArgs false
set_option linter.unusedVariables false
namespace Tt

theorem encAs_split {w w' : World} {e : Ending} {i : It} (h : EncAs w w' e i) : ∃ (ao : Option Addr) (len cap : Nat) (er : Int), e = .returned (.tuple #[.slice ao len cap, .int .i64 er]) ∧
    ((er = 0 ∧ rightB i = true ∧ Has w' (.slice ao len cap) i.lay ∧ len = i.size) ∨ (er = 1 ∧ rightB i = false)) := by
  unfold EncAs at h
  cases hr : rightB i with
  | false => rw [hr, if_neg (by decide)] at h; exact ⟨none, 0, 0, 1, h, Or.inr ⟨rfl, rfl⟩⟩
  | true =>
    rw [hr, if_pos rfl] at h
    obtain ⟨v, rfl, hv, _⟩ := h
    obtain ⟨ao, cap, rfl, _⟩ := hv.shape
    exact ⟨ao, _, cap, 0, rfl, Or.inl ⟨rfl, rfl, hv, lay_length i⟩⟩

theorem str_size (xs : List UInt8) : (str xs).size = xs.length := by simp [str, ByteArray.size]
theorem str_app (xs ys : List UInt8) : str xs ++ str ys = str (xs ++ ys) := by
  apply ByteArray.ext
  simp [str]

mutual
theorem sameB_refl2 : ∀ (i : It), sameB i i = true
  | .mk t y n d ks => by rw [sameB_eq, sameAllB_refl2 ks]; simp
theorem sameAllB_refl2 : ∀ (ks : List It), sameAllB ks ks = true
  | [] => by rw [sameAllB]
  | k :: r => by rw [sameAllB, sameB_refl2 k, sameAllB_refl2 r]; rfl
end

theorem be_sum (p q : Nat) (n : Int) (hp : p < 256) (hq : q < 256) (h : ((p * 256 + q : Nat) : Int) = n) :
    IntKind.i64.wrap (IntKind.i64.wrap (IntKind.i64.wrap (IntKind.i64.wrap (IntKind.i64.wrap 0 * 16777216) + IntKind.i64.wrap (IntKind.i64.wrap 0 * 65536)) + IntKind.i64.wrap (IntKind.i64.wrap (p : Int) * 256)) + IntKind.i64.wrap (q : Int)) = n := by
  have w0 : IntKind.i64.wrap 0 = 0 := by decide +kernel
  have w1 : IntKind.i64.wrap (p : Int) = p := by rw [IntKind.wrap_i64]; omega
  have w2 : IntKind.i64.wrap (q : Int) = q := by rw [IntKind.wrap_i64]; omega
  have w3 : IntKind.i64.wrap ((p : Int) * 256) = (p : Int) * 256 := by rw [IntKind.wrap_i64]; omega
  have w4 : IntKind.i64.wrap ((p : Int) * 256 + (q : Int)) = n := by rw [IntKind.wrap_i64]; omega
  simp only [w0, Int.zero_mul, Int.zero_add, w1, w2, w3, w4]

/-- the bytes of a structure of two -/
theorem s2_lay (i j : It) (h : i.size + j.size < 65536) : (s2 i j).lay = [66, 0, 2, 1, 0, 0, UInt8.ofNat ((i.size + j.size) / 256), UInt8.ofNat (i.size + j.size)] ++ (i.lay ++ j.lay) := by
  have e : It.sizeAll [i, j] = i.size + j.size := by rw [It.sizeAll, It.sizeAll, It.sizeAll]; omega
  rw [s2, It.lay, if_pos rfl, e]
  have h1 : lenOf 1 ([] : List UInt8).length (i.size + j.size) = i.size + j.size := rfl
  rw [h1]
  congr 1
  · unfold headL
    simp only [be, List.cons_append, List.nil_append]
    have h2 : (i.size + j.size) / 2 ^ (8 * 3) = 0 := by omega
    have h3 : (i.size + j.size) / 2 ^ (8 * 2) = 0 := by omega
    have h4 : (i.size + j.size) / 2 ^ (8 * 1) = (i.size + j.size) / 256 := by omega
    have h5 : (i.size + j.size) / 2 ^ (8 * 0) = i.size + j.size := by omega
    rw [h2, h3, h4, h5]
    rfl
  · rw [It.layAll, It.layAll, It.layAll, List.append_nil]

set_option maxHeartbeats 8000000 in
set_option maxRecDepth 100000 in
theorem ttlvKids_any (lv lv' : Value) (m m' : Nat) (X X' : Nat → Raw6) (w : World) (hr : Raws6 w lv m X) (hr' : Raws6 w lv' m' X') (hT : Tabs w) :
    Calls Tryd.prog 4 #[lv, lv'] w fun e w' => e = .returned (.bool true) ∧ Only (fun _ => False) w w' := by
  have HTree := hide (tree_any lv m X 30 0 w hr (by omega) (by omega))
  have HTree2 := hide (fun W (o : Only (fun _ => False) w W) => tree_any lv' m' X' 30 0 W (hr'.same o) (by omega) (by omega))
  have HT := hide hT
  have HKn := hide (fun W (o : Only (fun _ => False) w W) => known_any W ((unhide HT).same o))
  clear hr hr' hT
  go_enter Tryd.func4, Tryd.ntmps4
  go_wp2_with fail
  refine (unhide HTree).mono ?_
  rintro e w1 ⟨it, dv, kv, rfl, hit, hsm, hcnt, o1⟩
  have hfair := fair_of hsm hcnt
  obtain ⟨⟨da, dc, hds⟩, ka, kc, hks⟩ := hit.shapes
  subst hds
  subst hks
  have hb1 := heap_alloc_new w1 (.cells #[.int .i64 it.tag, .int .i64 it.typ, .int .i64 it.int, .slice da it.data.length dc, .slice ka it.kids.length kc] 26)
  have oI := (Only.refl (fun _ => False) w1).alloc (.cells #[.int .i64 it.tag, .int .i64 it.typ, .int .i64 it.int, .slice da it.data.length dc, .slice ka it.kids.length kc] 26)
  have HFair := hide hfair
  have HO2 := hide (o1.trans oI (fun _ _ e => e))
  have HIT := hide (hit.same oI)
  have HSW := hide o1.size
  have HB1 := hide hb1
  clear hit hsm hcnt o1 hfair HTree oI hb1
  go_upto_region 2 with fail
  generalize w1.alloc (.cells #[.int .i64 it.tag, .int .i64 it.typ, .int .i64 it.int, .slice da it.data.length dc, .slice ka it.kids.length kc] 26) = w2 at *
  generalize w1.heap.size = b1 at *
  go_wp2_with fail
  refine (unhide HTree2 _ (unhide HO2)).mono ?_
  rintro e w3 ⟨jt, dv, kv, rfl, hjt, hsm, hcnt, o3⟩
  have hfair := fair_of hsm hcnt
  obtain ⟨⟨ja, jc, hds⟩, la, lc, hks⟩ := hjt.shapes
  subst hds
  subst hks
  have hb3 := heap_alloc_new w3 (.cells #[.int .i64 jt.tag, .int .i64 jt.typ, .int .i64 jt.int, .slice ja jt.data.length jc, .slice la jt.kids.length lc] 26)
  have oJ := (Only.refl (fun _ => False) w3).alloc (.cells #[.int .i64 jt.tag, .int .i64 jt.typ, .int .i64 jt.int, .slice ja jt.data.length jc, .slice la jt.kids.length lc] 26)
  have HFairJ := hide hfair
  have HO4 := hide ((unhide HO2).trans (o3.trans oJ (fun _ _ e => e)) (fun _ _ e => e))
  have HJT := hide (ItAt.mono (R := fun k => w.heap.size ≤ k) (fun k _ hq => by have := (unhide HO2).size; omega) 31 (hjt.same oJ))
  have HIT4 := hide ((unhide HIT).same (o3.trans oJ (fun _ _ e => e)))
  have HB14 := hide ((o3.trans oJ (fun _ _ e => e)).heap (unhide HB1) (fun e => e))
  have HB3 := hide hb3
  clear hjt hsm hcnt o3 hfair HTree2 oJ hb3 HB1 HIT HO2
  go_upto_region 3 with fail
  generalize w3.alloc (.cells #[.int .i64 jt.tag, .int .i64 jt.typ, .int .i64 jt.int, .slice ja jt.data.length jc, .slice la jt.kids.length lc] 26) = w4 at *
  generalize w3.heap.size = b3 at *
  have hSmI : it.small 140737488355328 := small_le it (by decide) (unhide HFair).small
  have hSmJ : jt.small 140737488355328 := small_le jt (by decide) (unhide HFairJ).small
  have hzI := (unhide HFair).size
  have hzJ := (unhide HFairJ).size
  obtain ⟨a, ha⟩ : ∃ a, a = it.size := ⟨_, rfl⟩
  obtain ⟨b, hb⟩ : ∃ b, b = jt.size := ⟨_, rfl⟩
  have HA := hide ha
  have HB := hide hb
  have ha2 : a ≤ 1240 := by omega
  have hb2 : b ≤ 1240 := by omega
  have HEnI := hide (fun W (o : Only (fun _ => False) w4 W) => Encode_any 31 it _ _ W ((unhide HIT4).same o) ((unhide HT).same ((unhide HO4).trans o (fun _ _ e => e))) (by decide) (by omega) hSmI)
  have HEnJ := hide (fun W (o : Only (fun _ => False) w4 W) => Encode_any 31 jt _ _ W ((unhide HJT).same o) ((unhide HT).same ((unhide HO4).trans o (fun _ _ e => e))) (by decide) (by omega) hSmJ)
  have HEnS := hide (fun (g : Nat) (W : World) (o : Only (fun _ => False) w4 W) (hw : w.heap.size ≤ g) (hg : W.heap[g]? = some (.cells #[.int .i64 it.tag, .int .i64 it.typ, .int .i64 it.int, .slice da it.data.length dc, .slice ka it.kids.length kc, .int .i64 jt.tag, .int .i64 jt.typ, .int .i64 jt.int, .slice ja jt.data.length jc, .slice la jt.kids.length lc] 26 (0, 0))) => Encode_any 32 (s2 it jt) _ _ W (itAt_of (kids_two hg (Q := fun k => w.heap.size ≤ k) hw ((unhide HIT4).same o) ((unhide HJT).same o)) 4325378 1 0) ((unhide HT).same ((unhide HO4).trans o (fun _ _ e => e))) (by decide) (by rw [s2_size]; omega) (s2_small hSmI hSmJ))
  have HSmI : Hid (it.small 4294967295) := small_le it (by decide) (unhide HFair).small
  have HSmJ : Hid (jt.small 4294967295) := small_le jt (by decide) (unhide HFairJ).small
  have HC1 := hide (cells_of5 (unhide HB14))
  have HC2 := hide (cells_of5 (unhide HB3))
  have HGW := hide (unhide HO4).size
  unfold ival at HEnI HEnJ HEnS
  clear hSmI hSmJ hzI hzJ ha hb HB14 HB3
  obtain ⟨c0, c1, c2, c3, c4⟩ := unhide HC1
  go_wp2_with fail
  refine (unhide HEnI _ (Only.refl _ _)).mono ?_
  rintro e w5 ⟨he, o5⟩
  obtain ⟨pa, pl, pc, er1, rfl, hp⟩ := encAs_split he
  have HP := hide hp
  have H45 := hide o5
  clear c0 c1 c2 c3 c4 he o5 hp
  obtain ⟨d0, d1, d2, d3, d4⟩ := unhide HC2
  have d0 := (unhide H45).cell d0 (fun e => e)
  have d1 := (unhide H45).cell d1 (fun e => e)
  have d2 := (unhide H45).cell d2 (fun e => e)
  have d3 := (unhide H45).cell d3 (fun e => e)
  have d4 := (unhide H45).cell d4 (fun e => e)
  go_wp2_with fail
  refine (unhide HEnJ _ (unhide H45)).mono ?_
  rintro e w6 ⟨he, o6⟩
  obtain ⟨qa, ql, qc, er2, rfl, hq⟩ := encAs_split he
  have HQ := hide hq
  have H56 := hide o6
  have H46 := hide ((unhide H45).trans o6 (fun _ _ e => e))
  clear d0 d1 d2 d3 d4 he o6 hq
  obtain ⟨c0, c1, c2, c3, c4⟩ := unhide HC1
  obtain ⟨d0, d1, d2, d3, d4⟩ := unhide HC2
  have c0 := (unhide H46).cell c0 (fun e => e)
  have c1 := (unhide H46).cell c1 (fun e => e)
  have c2 := (unhide H46).cell c2 (fun e => e)
  have c3 := (unhide H46).cell c3 (fun e => e)
  have c4 := (unhide H46).cell c4 (fun e => e)
  have d0 := (unhide H46).cell d0 (fun e => e)
  have d1 := (unhide H46).cell d1 (fun e => e)
  have d2 := (unhide H46).cell d2 (fun e => e)
  have d3 := (unhide H46).cell d3 (fun e => e)
  have d4 := (unhide H46).cell d4 (fun e => e)
  have oA := (Only.refl (fun _ => False) w6).alloc (.cells #[.int .i64 it.tag, .int .i64 it.typ, .int .i64 it.int, .slice da it.data.length dc, .slice ka it.kids.length kc, .int .i64 jt.tag, .int .i64 jt.typ, .int .i64 jt.int, .slice ja jt.data.length jc, .slice la jt.kids.length lc] 26)
  have hgA := heap_alloc_new w6 (.cells #[.int .i64 it.tag, .int .i64 it.typ, .int .i64 it.int, .slice da it.data.length dc, .slice ka it.kids.length kc, .int .i64 jt.tag, .int .i64 jt.typ, .int .i64 jt.int, .slice ja jt.data.length jc, .slice la jt.kids.length lc] 26)
  have H4A := hide ((unhide H46).trans oA (fun _ _ e => e))
  have H6A := hide oA
  have HES := hide (unhide HEnS _ _ (unhide H4A) (Nat.le_trans (unhide HGW) (unhide H46).size) hgA)
  clear oA hgA
  go_wp2_with fail
  refine (unhide HES).mono ?_
  rintro e w7 ⟨he, o7⟩
  obtain ⟨ra, rl, rc, er3, rfl, hr⟩ := encAs_split he
  have HR := hide hr
  have H67 := hide ((unhide H6A).trans o7 (fun _ _ e => e))
  have H47 := hide ((unhide H46).trans (unhide H67) (fun _ _ e => e))
  have HO7 := hide ((unhide HO4).trans (unhide H47) (fun _ _ e => e))
  clear c0 c1 c2 c3 c4 d0 d1 d2 d3 d4 he o7 hr HEnI HEnJ HEnS HES H4A H6A
  rcases unhide HP with ⟨rfl, hrI, hvI, rfl⟩ | ⟨rfl, _⟩
  case inr =>
    clear HP HQ HR
    go_wp2_with fail
    refine (unhide HKn _ (unhide HO7)).mono ?_
    rintro e w8 ⟨rfl, o8⟩
    have HO8 := hide ((unhide HO7).trans o8 (fun _ _ e => e))
    clear o8
    go_wp2_with fail
    refine (unhide HKn _ (unhide HO8)).mono ?_
    rintro e w9 ⟨rfl, o9⟩
    have HO9 := hide ((unhide HO8).trans o9 (fun _ _ e => e))
    clear o9
    go_wp2
    go_ret
    exact ⟨rfl, unhide HO9⟩
  rcases unhide HQ with ⟨rfl, hrJ, hvJ, rfl⟩ | ⟨rfl, _⟩
  case inr =>
    clear hrI hvI HP HQ HR
    go_wp2_with fail
    refine (unhide HKn _ (unhide HO7)).mono ?_
    rintro e w8 ⟨rfl, o8⟩
    have HO8 := hide ((unhide HO7).trans o8 (fun _ _ e => e))
    clear o8
    go_wp2_with fail
    refine (unhide HKn _ (unhide HO8)).mono ?_
    rintro e w9 ⟨rfl, o9⟩
    have HO9 := hide ((unhide HO8).trans o9 (fun _ _ e => e))
    clear o9
    go_wp2
    go_ret
    exact ⟨rfl, unhide HO9⟩
  rcases unhide HR with ⟨rfl, hrS, hvS, rfl⟩ | ⟨rfl, _⟩
  case inr =>
    clear hrI hvI hrJ hvJ HP HQ HR
    go_wp2_with fail
    refine (unhide HKn _ (unhide HO7)).mono ?_
    rintro e w8 ⟨rfl, o8⟩
    have HO8 := hide ((unhide HO7).trans o8 (fun _ _ e => e))
    clear o8
    go_wp2_with fail
    refine (unhide HKn _ (unhide HO8)).mono ?_
    rintro e w9 ⟨rfl, o9⟩
    have HO9 := hide ((unhide HO8).trans o9 (fun _ _ e => e))
    clear o9
    go_wp2
    go_ret
    exact ⟨rfl, unhide HO9⟩
  have hSS := s2_size it jt
  have HSS := hide hSS
  rw [hSS, ← unhide HA, ← unhide HB]
  rw [hSS, ← unhide HA, ← unhide HB] at hvS
  rw [← unhide HA] at hvI
  rw [← unhide HB] at hvJ
  have HVI := hide hvI
  have HVJ := hide hvJ
  have HVS := hide hvS
  have HRS := hide hrS
  have h8 : ¬ ((8 + a + b : Nat) : Int) < 8 := by omega
  clear hvI hvJ hvS hrI hrJ hrS HP HQ HR hSS
  go_wp2_with fail
  refine (unhide HKn _ (unhide HO7)).mono ?_
  rintro e w8 ⟨rfl, o8⟩
  have HO8 := hide ((unhide HO7).trans o8 (fun _ _ e => e))
  have HVS8 := hide ((unhide HVS).only o8 (fun _ _ _ e => e))
  have HDc := hide (Decode_any _ _ w8 (unhide HVS8) ((unhide HT).same (unhide HO8)) (by rw [lay_length, s2_size]; have := unhide HA; have := unhide HB; omega))
  rw [dAll_lay _ (unhide HRS) (s2_small (unhide HSmI) (unhide HSmJ))] at HDc
  have H48 := hide ((unhide H47).trans o8 (fun _ _ e => e))
  have H68 := hide ((unhide H67).trans o8 (fun _ _ e => e))
  have H58 := hide ((unhide H56).trans (unhide H68) (fun _ _ e => e))
  clear o8 H67 H47
  go_wp2_with fail
  refine (unhide HDc).mono ?_
  rintro e w9 ⟨he, o9⟩
  obtain ⟨xd, xk, rfl, hx⟩ := he
  obtain ⟨⟨xda, xdc, hxd⟩, xka, xkc, hxk⟩ := hx.shapes
  have e0 : (s2 it jt).data.length = 0 := rfl
  have e2 : (s2 it jt).kids.length = 2 := rfl
  rw [e0] at hxd
  rw [e2] at hxk
  subst hxd
  subst hxk
  obtain ⟨kb, ko, dv0, kv0, rfl, _, m0, m1, m2, m3, m4, hit0⟩ := hx.2.2.at 0 (by rw [e2]; omega)
  obtain ⟨kb', ko', dv1, kv1, ek, _, n0, n1, n2, n3, n4, hit1⟩ := hx.2.2.at 1 (by rw [e2]; omega)
  simp only [Option.some.injEq, Addr.mk.injEq, and_true] at ek
  obtain ⟨rfl, rfl⟩ := ek
  have hit0 : ItAt (fun k => w8.heap.size ≤ k) w9 12 it dv0 kv0 := hit0
  have hit1 : ItAt (fun k => w8.heap.size ≤ k) w9 12 jt dv1 kv1 := hit1
  obtain ⟨⟨da0, dc0, hd0⟩, ka0, kc0, hk0⟩ := hit0.shapes
  obtain ⟨⟨da1, dc1, hd1⟩, ka1, kc1, hk1⟩ := hit1.shapes
  subst hd0
  subst hk0
  subst hd1
  subst hk1
  have m0 : w9.cell? ⟨kb, ko, none⟩ = some (.int .i64 it.tag) := m0
  have m1 : w9.cell? ⟨kb, ko + 1, none⟩ = some (.int .i64 it.typ) := m1
  have m2 : w9.cell? ⟨kb, ko + 2, none⟩ = some (.int .i64 it.int) := m2
  have m3 : w9.cell? ⟨kb, ko + 3, none⟩ = some (.slice da0 it.data.length dc0) := m3
  have m4 : w9.cell? ⟨kb, ko + 4, none⟩ = some (.slice ka0 it.kids.length kc0) := m4
  have n0 : w9.cell? ⟨kb, ko + 5, none⟩ = some (.int .i64 jt.tag) := n0
  have n1 : w9.cell? ⟨kb, ko + 6, none⟩ = some (.int .i64 jt.typ) := n1
  have n2 : w9.cell? ⟨kb, ko + 7, none⟩ = some (.int .i64 jt.int) := n2
  have n3 : w9.cell? ⟨kb, ko + 8, none⟩ = some (.slice da1 jt.data.length dc1) := n3
  have n4 : w9.cell? ⟨kb, ko + 9, none⟩ = some (.slice ka1 jt.kids.length kc1) := n4
  obtain ⟨⟨z0, z1, z2, z3, z4⟩, oX⟩ := boxed w9 (.int .i64 (s2 it jt).tag) (.int .i64 (s2 it jt).typ) (.int .i64 (s2 it jt).int) (.slice xda 0 xdc) (.slice (some ⟨kb, ko, none⟩) 2 xkc)
  have HO10 := hide (((unhide HO8).trans o9 (fun _ _ e => e)).trans oX (fun _ _ e => e))
  have H410 := hide (((unhide H48).trans o9 (fun _ _ e => e)).trans oX (fun _ _ e => e))
  have H58' := hide ((unhide H58).trans (o9.trans oX (fun _ _ e => e)) (fun _ _ e => e))
  have H68' := hide ((unhide H68).trans (o9.trans oX (fun _ _ e => e)) (fun _ _ e => e))
  have hcI := str_conv ((unhide HVI).only (unhide H58') (fun _ _ _ e => e))
  have hcJ := str_conv ((unhide HVJ).only (unhide H68') (fun _ _ _ e => e))
  have hvs := (unhide HVS8).only (o9.trans oX (fun _ _ e => e)) (fun _ _ _ e => e)
  have HM := hide (And.intro (oX.cell m0 (fun e => e)) (And.intro (oX.cell m1 (fun e => e)) (And.intro (oX.cell m2 (fun e => e)) (And.intro (oX.cell m3 (fun e => e)) (oX.cell m4 (fun e => e))))))
  have HN := hide (And.intro (oX.cell n0 (fun e => e)) (And.intro (oX.cell n1 (fun e => e)) (And.intro (oX.cell n2 (fun e => e)) (And.intro (oX.cell n3 (fun e => e)) (oX.cell n4 (fun e => e))))))
  have HI0 := hide (ItAt.deeper 12 31 (by decide) (hit0.same oX))
  have HI1 := hide (ItAt.deeper 12 31 (by decide) (hit1.same oX))
  have HIT9 := hide ((unhide HIT4).same (unhide H410))
  have HJT9 := hide ((unhide HJT).same (unhide H410))
  clear m0 m1 m2 m3 m4 n0 n1 n2 n3 n4 hit0 hit1
  have HZ := hide (And.intro z0 (And.intro z1 (And.intro z2 (And.intro z3 z4))))


  have hlayS := s2_lay it jt (by have := unhide HA; have := unhide HB; omega)
  rw [hlayS] at hvs
  have hvlen : ([66, 0, 2, 1, 0, 0, UInt8.ofNat ((it.size + jt.size) / 256), UInt8.ofNat (it.size + jt.size)] ++ (it.lay ++ jt.lay)).length = 8 + a + b := by rw [← hlayS, lay_length, s2_size, ← unhide HA, ← unhide HB]
  obtain ⟨rb, ro, rfl, hjunk, hcells⟩ := hvs.at (by omega)
  clear hjunk
  have k3 := hcells 3 (by rw [hvlen]; omega)
  have k4 := hcells 4 (by rw [hvlen]; omega)
  have k5 := hcells 5 (by rw [hvlen]; omega)
  have k6 := hcells 6 (by rw [hvlen]; omega)
  have k7 := hcells 7 (by rw [hvlen]; omega)
  have hback := Has.back (n := 8) hvs (by rw [hvlen]; omega)
  rw [← unhide HA, ← unhide HB] at k3 k4 k5 k6 k7
  simp only [List.cons_append, List.nil_append, List.getElem_cons_succ, List.getElem_cons_zero] at k3 k4 k5 k6 k7
  have u3 : bv 1 = .int .u8 1 := rfl
  have u4 : bv 0 = .int .u8 0 := rfl
  obtain ⟨p, hp⟩ : ∃ p : Nat, bv (UInt8.ofNat ((a + b) / 256)) = .int .u8 p ∧ p = (a + b) / 256 := ⟨_, by unfold bv; rfl, by simp [UInt8.toNat_ofNat]; omega⟩
  obtain ⟨q, hq⟩ : ∃ q : Nat, bv (UInt8.ofNat (a + b)) = .int .u8 q ∧ q = (a + b) % 256 := ⟨_, by unfold bv; rfl, by simp [UInt8.toNat_ofNat]⟩
  rw [hp.1] at k6
  rw [hq.1] at k7
  rw [u3] at k3
  rw [u4] at k4 k5
  have hpq : Hid (p * 256 + q = a + b) := by show _ = _; have h1 := hp.2; have h2 := hq.2; omega
  have hp2 : p < 256 := by have := hp.2; omega
  have hq2 : q < 256 := by have := hq.2; omega
  have hbk : Has (w9.alloc (.cells #[.int .i64 (s2 it jt).tag, .int .i64 (s2 it jt).typ, .int .i64 (s2 it jt).int, .slice xda 0 xdc, .slice (some ⟨kb, ko, none⟩) 2 xkc] 26)) (.slice (some ⟨rb, ro + 8, none⟩) (8 + a + b - 8) (rc - 8)) (it.lay ++ jt.lay) := by
    rw [hvlen] at hback
    exact hback
  have HBK := hide hbk
  have HHI := hide ((unhide HVI).only (unhide H58') (fun _ _ _ e => e))
  have HHJ := hide ((unhide HVJ).only (unhide H68') (fun _ _ _ e => e))
  have HK := hide (And.intro k3 (And.intro k4 (And.intro k5 (And.intro k6 k7))))
  have hcap : 8 + a + b ≤ rc := by
    obtain ⟨_, _, e, h, _⟩ := hvs.shape
    simp only [Value.slice.injEq] at e
    rw [hvlen] at h
    omega
  have hrc : ¬ rc = 8 := by have := size_ge it; have := unhide HA; omega
  have hsum : ¬ 9223372036854775807 < (str it.lay).size + (str jt.lay).size := by rw [str_size, str_size, lay_length, lay_length, ← unhide HA, ← unhide HB]; omega
  have happ := str_app it.lay jt.lay
  have HS := hide hlayS
  clear hlayS hvlen hcells hback hp hq u3 u4 hvs hcI hcJ hbk k3 k4 k5 k6 k7 z0 z1 z2 z3 z4 oX o9 hx
  go_upto_region 10 with fail
  generalize w9.alloc (.cells #[.int .i64 (s2 it jt).tag, .int .i64 (s2 it jt).typ, .int .i64 (s2 it jt).int, .slice xda 0 xdc, .slice (some ⟨kb, ko, none⟩) 2 xkc] 26) = wA at *
  generalize w9.heap.size = bX at *
  have HS0 := hide (fun W' (o : Only (fun _ => False) wA W') => rsame_any 31 it it _ _ _ _ W' ((unhide HI0).same o) ((unhide HIT9).same o))
  have HS1 := hide (fun W' (o : Only (fun _ => False) wA W') => rsame_any 31 jt jt _ _ _ _ W' ((unhide HI1).same o) ((unhide HJT9).same o))
  rw [sameB_refl2] at HS0 HS1
  unfold ival at HS0 HS1
  have hm8 : ((a : Int) + (b : Int)) % 8 = 0 := by have h1 := size_mod it; have h2 := size_mod jt; have := unhide HA; have := unhide HB; omega
  have hi3 : (3 : Int) < 8 + (a : Int) + (b : Int) := by omega
  have hi4 : (4 : Int) < 8 + (a : Int) + (b : Int) := by omega
  have hi5 : (5 : Int) < 8 + (a : Int) + (b : Int) := by omega
  have hi6 : (6 : Int) < 8 + (a : Int) + (b : Int) := by omega
  have hi7 : (7 : Int) < 8 + (a : Int) + (b : Int) := by omega
  simp only [List.append_eq, List.cons_append, List.nil_append]
  refine wp_region_held_drew (S := (fun w' => Only (fun _ => False) wA w')) (by kernel_rfl) ((Only.refl _ _).drew) (fun hHeld => ?_)
  refine wpAnyH_take (i := 0) (v := ?v1) rfl (by kernel_rfl) (by kernel_rfl) (by kernel_rfl) (fun _ _ _ h => h) (Or.inl ⟨by rfl, ?hy1⟩) (by assumption) ?rest1
  case hy1 =>
    intro w hSw
    go_simp
    try with_reducible rfl
  try simp only [Act.put, List.setIfInBounds_toArray, List.set_cons_zero, List.set_cons_succ, List.getElem_toArray, List.getElem_cons_succ, List.getElem_cons_zero]
  refine wpAnyH_take (i := 1) (v := ?v2) rfl (by kernel_rfl) (by kernel_rfl) (by kernel_rfl) (fun _ _ _ h => h) (Or.inl ⟨by rfl, ?hy2⟩) (by assumption) ?rest2
  case hy2 =>
    intro w hSw
    go_simp
    try with_reducible rfl
  try simp only [Act.put, List.setIfInBounds_toArray, List.set_cons_zero, List.set_cons_succ, List.getElem_toArray, List.getElem_cons_succ, List.getElem_cons_zero]
  refine wpAnyH_take (i := 2) (v := ?v3) rfl (by kernel_rfl) (by kernel_rfl) (by kernel_rfl) (fun _ _ _ h => h) (Or.inl ⟨by rfl, ?hy3⟩) (by assumption) ?rest3
  case hy3 =>
    intro w hSw
    (have hcv := str_conv ((unhide HBK).only hSw (fun _ _ _ e => e)); go_simp; try with_reducible rfl)
  try simp only [Act.put, List.setIfInBounds_toArray, List.set_cons_zero, List.set_cons_succ, List.getElem_toArray, List.getElem_cons_succ, List.getElem_cons_zero]
  refine wpAnyH_take (i := 3) (v := ?v4) rfl (by kernel_rfl) (by kernel_rfl) (by kernel_rfl) (fun _ _ _ h => h) (Or.inl ⟨by rfl, ?hy4⟩) (by assumption) ?rest4
  case hy4 =>
    intro w hSw
    go_simp
    try with_reducible rfl
  try simp only [Act.put, List.setIfInBounds_toArray, List.set_cons_zero, List.set_cons_succ, List.getElem_toArray, List.getElem_cons_succ, List.getElem_cons_zero]
  refine wpAnyH_take (i := 4) (v := ?v5) rfl (by kernel_rfl) (by kernel_rfl) (by kernel_rfl) (fun _ _ _ h => h) (Or.inl ⟨by rfl, ?hy5⟩) (by assumption) ?rest5
  case hy5 =>
    intro w hSw
    (have hcv := str_conv ((unhide HHI).only hSw (fun _ _ _ e => e)); go_simp; try with_reducible rfl)
  try simp only [Act.put, List.setIfInBounds_toArray, List.set_cons_zero, List.set_cons_succ, List.getElem_toArray, List.getElem_cons_succ, List.getElem_cons_zero]
  refine wpAnyH_take (i := 5) (v := ?v6) rfl (by kernel_rfl) (by kernel_rfl) (by kernel_rfl) (fun _ _ _ h => h) (Or.inl ⟨by rfl, ?hy6⟩) (by assumption) ?rest6
  case hy6 =>
    intro w hSw
    go_simp
    try with_reducible rfl
  try simp only [Act.put, List.setIfInBounds_toArray, List.set_cons_zero, List.set_cons_succ, List.getElem_toArray, List.getElem_cons_succ, List.getElem_cons_zero]
  refine wpAnyH_take (i := 6) (v := ?v7) rfl (by kernel_rfl) (by kernel_rfl) (by kernel_rfl) (fun _ _ _ h => h) (Or.inl ⟨by rfl, ?hy7⟩) (by assumption) ?rest7
  case hy7 =>
    intro w hSw
    (have hcv := str_conv ((unhide HHJ).only hSw (fun _ _ _ e => e)); go_simp; try with_reducible rfl)
  try simp only [Act.put, List.setIfInBounds_toArray, List.set_cons_zero, List.set_cons_succ, List.getElem_toArray, List.getElem_cons_succ, List.getElem_cons_zero]
  refine wpAnyH_take (i := 7) (v := ?v8) rfl (by kernel_rfl) (by kernel_rfl) (by kernel_rfl) (fun _ _ _ h => h) (Or.inl ⟨by rfl, ?hy8⟩) (by assumption) ?rest8
  case hy8 =>
    intro w hSw
    go_simp
    try with_reducible rfl
  try simp only [Act.put, List.setIfInBounds_toArray, List.set_cons_zero, List.set_cons_succ, List.getElem_toArray, List.getElem_cons_succ, List.getElem_cons_zero]
  refine wpAnyH_take (i := 8) (v := ?v9) rfl (by kernel_rfl) (by kernel_rfl) (by kernel_rfl) (fun _ _ _ h => h) (Or.inl ⟨by rfl, ?hy9⟩) (by assumption) ?rest9
  case hy9 =>
    intro w hSw
    go_simp
    try with_reducible rfl
  try simp only [Act.put, List.setIfInBounds_toArray, List.set_cons_zero, List.set_cons_succ, List.getElem_toArray, List.getElem_cons_succ, List.getElem_cons_zero]
  refine wpAnyH_take (i := 9) (v := ?v10) rfl (by kernel_rfl) (by kernel_rfl) (by kernel_rfl) (fun _ _ _ h => h) (Or.inl ⟨by rfl, ?hy10⟩) (by assumption) ?rest10
  case hy10 =>
    intro w hSw
    go_simp
    try with_reducible rfl
  try simp only [Act.put, List.setIfInBounds_toArray, List.set_cons_zero, List.set_cons_succ, List.getElem_toArray, List.getElem_cons_succ, List.getElem_cons_zero]
  refine wpAnyH_take (i := 10) (v := ?v11) rfl (by kernel_rfl) (by kernel_rfl) (by kernel_rfl) (fun _ _ _ h => h) (Or.inl ⟨by rfl, ?hy11⟩) (by assumption) ?rest11
  case hy11 =>
    intro w hSw
    go_simp
    try with_reducible rfl
  try simp only [Act.put, List.setIfInBounds_toArray, List.set_cons_zero, List.set_cons_succ, List.getElem_toArray, List.getElem_cons_succ, List.getElem_cons_zero]
  refine wpAnyH_take (i := 11) (v := ?v12) rfl (by kernel_rfl) (by kernel_rfl) (by kernel_rfl) (fun _ _ _ h => h) (Or.inl ⟨by rfl, ?hy12⟩) (by assumption) ?rest12
  case hy12 =>
    intro w hSw
    go_simp
    try with_reducible rfl
  try simp only [Act.put, List.setIfInBounds_toArray, List.set_cons_zero, List.set_cons_succ, List.getElem_toArray, List.getElem_cons_succ, List.getElem_cons_zero]
  refine wpAnyH_take (i := 12) (v := ?v13) rfl (by kernel_rfl) (by kernel_rfl) (by kernel_rfl) (fun _ _ _ h => h) (Or.inl ⟨by rfl, ?hy13⟩) (by assumption) ?rest13
  case hy13 =>
    intro w hSw
    (obtain ⟨q3, q4, q5, q6, q7⟩ := unhide HK; have q3 := hSw.cell q3 (fun e => e); have q4 := hSw.cell q4 (fun e => e); have q5 := hSw.cell q5 (fun e => e); have q6 := hSw.cell q6 (fun e => e); have q7 := hSw.cell q7 (fun e => e); go_simp; try with_reducible rfl)
  try simp only [Act.put, List.setIfInBounds_toArray, List.set_cons_zero, List.set_cons_succ, List.getElem_toArray, List.getElem_cons_succ, List.getElem_cons_zero]
  refine wpAnyH_take (i := 13) (v := ?v14) rfl (by kernel_rfl) (by kernel_rfl) (by kernel_rfl) (fun _ _ _ h => h) (Or.inl ⟨by rfl, ?hy14⟩) (by assumption) ?rest14
  case hy14 =>
    intro w hSw
    go_simp
    try with_reducible rfl
  try simp only [Act.put, List.setIfInBounds_toArray, List.set_cons_zero, List.set_cons_succ, List.getElem_toArray, List.getElem_cons_succ, List.getElem_cons_zero]
  refine wpAnyH_take (i := 14) (v := ?v15) rfl (by kernel_rfl) (by kernel_rfl) (by kernel_rfl) (fun _ _ _ h => h) (Or.inl ⟨by rfl, ?hy15⟩) (by assumption) ?rest15
  case hy15 =>
    intro w hSw
    go_simp
    try with_reducible rfl
  try simp only [Act.put, List.setIfInBounds_toArray, List.set_cons_zero, List.set_cons_succ, List.getElem_toArray, List.getElem_cons_succ, List.getElem_cons_zero]
  refine wpAnyH_take (i := 15) (v := ?v16) rfl (by kernel_rfl) (by kernel_rfl) (by kernel_rfl) (fun _ _ _ h => h) (Or.inl ⟨by rfl, ?hy16⟩) (by assumption) ?rest16
  case hy16 =>
    intro w hSw
    go_simp
    try with_reducible rfl
  try simp only [Act.put, List.setIfInBounds_toArray, List.set_cons_zero, List.set_cons_succ, List.getElem_toArray, List.getElem_cons_succ, List.getElem_cons_zero]
  refine wpAnyH_take (i := 16) (v := ?v17) rfl (by kernel_rfl) (by kernel_rfl) (by kernel_rfl) (fun _ _ _ h => h) (Or.inl ⟨by rfl, ?hy17⟩) (by assumption) ?rest17
  case hy17 =>
    intro w hSw
    go_simp
    try with_reducible rfl
  try simp only [Act.put, List.setIfInBounds_toArray, List.set_cons_zero, List.set_cons_succ, List.getElem_toArray, List.getElem_cons_succ, List.getElem_cons_zero]
  refine wpAnyH_take (i := 17) (v := ?v18) rfl (by kernel_rfl) (by kernel_rfl) (by kernel_rfl) (fun _ _ _ h => h) (Or.inl ⟨by rfl, ?hy18⟩) (by assumption) ?rest18
  case hy18 =>
    intro w hSw
    (obtain ⟨q3, q4, q5, q6, q7⟩ := unhide HK; have q3 := hSw.cell q3 (fun e => e); have q4 := hSw.cell q4 (fun e => e); have q5 := hSw.cell q5 (fun e => e); have q6 := hSw.cell q6 (fun e => e); have q7 := hSw.cell q7 (fun e => e); go_simp; try with_reducible rfl)
  try simp only [Act.put, List.setIfInBounds_toArray, List.set_cons_zero, List.set_cons_succ, List.getElem_toArray, List.getElem_cons_succ, List.getElem_cons_zero]
  refine wpAnyH_take (i := 18) (v := ?v19) rfl (by kernel_rfl) (by kernel_rfl) (by kernel_rfl) (fun _ _ _ h => h) (Or.inl ⟨by rfl, ?hy19⟩) (by assumption) ?rest19
  case hy19 =>
    intro w hSw
    go_simp
    try with_reducible rfl
  try simp only [Act.put, List.setIfInBounds_toArray, List.set_cons_zero, List.set_cons_succ, List.getElem_toArray, List.getElem_cons_succ, List.getElem_cons_zero]
  refine wpAnyH_take (i := 19) (v := ?v20) rfl (by kernel_rfl) (by kernel_rfl) (by kernel_rfl) (fun _ _ _ h => h) (Or.inl ⟨by rfl, ?hy20⟩) (by assumption) ?rest20
  case hy20 =>
    intro w hSw
    go_simp
    try with_reducible rfl
  try simp only [Act.put, List.setIfInBounds_toArray, List.set_cons_zero, List.set_cons_succ, List.getElem_toArray, List.getElem_cons_succ, List.getElem_cons_zero]
  refine wpAnyH_take (i := 20) (v := ?v21) rfl (by kernel_rfl) (by kernel_rfl) (by kernel_rfl) (fun _ _ _ h => h) (Or.inl ⟨by rfl, ?hy21⟩) (by assumption) ?rest21
  case hy21 =>
    intro w hSw
    go_simp
    try with_reducible rfl
  try simp only [Act.put, List.setIfInBounds_toArray, List.set_cons_zero, List.set_cons_succ, List.getElem_toArray, List.getElem_cons_succ, List.getElem_cons_zero]
  refine wpAnyH_take (i := 21) (v := ?v22) rfl (by kernel_rfl) (by kernel_rfl) (by kernel_rfl) (fun _ _ _ h => h) (Or.inl ⟨by rfl, ?hy22⟩) (by assumption) ?rest22
  case hy22 =>
    intro w hSw
    go_simp
    try with_reducible rfl
  try simp only [Act.put, List.setIfInBounds_toArray, List.set_cons_zero, List.set_cons_succ, List.getElem_toArray, List.getElem_cons_succ, List.getElem_cons_zero]
  refine wpAnyH_take (i := 22) (v := ?v23) rfl (by kernel_rfl) (by kernel_rfl) (by kernel_rfl) (fun _ _ _ h => h) (Or.inl ⟨by rfl, ?hy23⟩) (by assumption) ?rest23
  case hy23 =>
    intro w hSw
    go_simp
    try with_reducible rfl
  try simp only [Act.put, List.setIfInBounds_toArray, List.set_cons_zero, List.set_cons_succ, List.getElem_toArray, List.getElem_cons_succ, List.getElem_cons_zero]
  refine wpAnyH_take (i := 23) (v := ?v24) rfl (by kernel_rfl) (by kernel_rfl) (by kernel_rfl) (fun _ _ _ h => h) (Or.inl ⟨by rfl, ?hy24⟩) (by assumption) ?rest24
  case hy24 =>
    intro w hSw
    (obtain ⟨q3, q4, q5, q6, q7⟩ := unhide HK; have q3 := hSw.cell q3 (fun e => e); have q4 := hSw.cell q4 (fun e => e); have q5 := hSw.cell q5 (fun e => e); have q6 := hSw.cell q6 (fun e => e); have q7 := hSw.cell q7 (fun e => e); go_simp; try with_reducible rfl)
  try simp only [Act.put, List.setIfInBounds_toArray, List.set_cons_zero, List.set_cons_succ, List.getElem_toArray, List.getElem_cons_succ, List.getElem_cons_zero]
  refine wpAnyH_take (i := 24) (v := ?v25) rfl (by kernel_rfl) (by kernel_rfl) (by kernel_rfl) (fun _ _ _ h => h) (Or.inl ⟨by rfl, ?hy25⟩) (by assumption) ?rest25
  case hy25 =>
    intro w hSw
    go_simp
    try with_reducible rfl
  try simp only [Act.put, List.setIfInBounds_toArray, List.set_cons_zero, List.set_cons_succ, List.getElem_toArray, List.getElem_cons_succ, List.getElem_cons_zero]
  refine wpAnyH_take (i := 25) (v := ?v26) rfl (by kernel_rfl) (by kernel_rfl) (by kernel_rfl) (fun _ _ _ h => h) (Or.inl ⟨by rfl, ?hy26⟩) (by assumption) ?rest26
  case hy26 =>
    intro w hSw
    go_simp
    try with_reducible rfl
  try simp only [Act.put, List.setIfInBounds_toArray, List.set_cons_zero, List.set_cons_succ, List.getElem_toArray, List.getElem_cons_succ, List.getElem_cons_zero]
  refine wpAnyH_take (i := 26) (v := ?v27) rfl (by kernel_rfl) (by kernel_rfl) (by kernel_rfl) (fun _ _ _ h => h) (Or.inl ⟨by rfl, ?hy27⟩) (by assumption) ?rest27
  case hy27 =>
    intro w hSw
    go_simp
    try with_reducible rfl
  try simp only [Act.put, List.setIfInBounds_toArray, List.set_cons_zero, List.set_cons_succ, List.getElem_toArray, List.getElem_cons_succ, List.getElem_cons_zero]
  refine wpAnyH_take (i := 27) (v := ?v28) rfl (by kernel_rfl) (by kernel_rfl) (by kernel_rfl) (fun _ _ _ h => h) (Or.inl ⟨by rfl, ?hy28⟩) (by assumption) ?rest28
  case hy28 =>
    intro w hSw
    go_simp
    try with_reducible rfl
  try simp only [Act.put, List.setIfInBounds_toArray, List.set_cons_zero, List.set_cons_succ, List.getElem_toArray, List.getElem_cons_succ, List.getElem_cons_zero]
  refine wpAnyH_take (i := 28) (v := ?v29) rfl (by kernel_rfl) (by kernel_rfl) (by kernel_rfl) (fun _ _ _ h => h) (Or.inl ⟨by rfl, ?hy29⟩) (by assumption) ?rest29
  case hy29 =>
    intro w hSw
    go_simp
    try with_reducible rfl
  try simp only [Act.put, List.setIfInBounds_toArray, List.set_cons_zero, List.set_cons_succ, List.getElem_toArray, List.getElem_cons_succ, List.getElem_cons_zero]
  refine wpAnyH_take (i := 29) (v := ?v30) rfl (by kernel_rfl) (by kernel_rfl) (by kernel_rfl) (fun _ _ _ h => h) (Or.inl ⟨by rfl, ?hy30⟩) (by assumption) ?rest30
  case hy30 =>
    intro w hSw
    (obtain ⟨q3, q4, q5, q6, q7⟩ := unhide HK; have q3 := hSw.cell q3 (fun e => e); have q4 := hSw.cell q4 (fun e => e); have q5 := hSw.cell q5 (fun e => e); have q6 := hSw.cell q6 (fun e => e); have q7 := hSw.cell q7 (fun e => e); go_simp; try with_reducible rfl)
  try simp only [Act.put, List.setIfInBounds_toArray, List.set_cons_zero, List.set_cons_succ, List.getElem_toArray, List.getElem_cons_succ, List.getElem_cons_zero]
  refine wpAnyH_take (i := 30) (v := ?v31) rfl (by kernel_rfl) (by kernel_rfl) (by kernel_rfl) (fun _ _ _ h => h) (Or.inl ⟨by rfl, ?hy31⟩) (by assumption) ?rest31
  case hy31 =>
    intro w hSw
    go_simp
    try with_reducible rfl
  try simp only [Act.put, List.setIfInBounds_toArray, List.set_cons_zero, List.set_cons_succ, List.getElem_toArray, List.getElem_cons_succ, List.getElem_cons_zero]
  refine wpAnyH_take (i := 31) (v := ?v32) rfl (by kernel_rfl) (by kernel_rfl) (by kernel_rfl) (fun _ _ _ h => h) (Or.inl ⟨by rfl, ?hy32⟩) (by assumption) ?rest32
  case hy32 =>
    intro w hSw
    go_simp
    try with_reducible rfl
  try simp only [Act.put, List.setIfInBounds_toArray, List.set_cons_zero, List.set_cons_succ, List.getElem_toArray, List.getElem_cons_succ, List.getElem_cons_zero]
  rw [be_sum p q ((a : Int) + (b : Int)) hp2 hq2 (by have := unhide hpq; omega)]
  refine wpAnyH_take (i := 32) (v := ?v33) rfl (by kernel_rfl) (by kernel_rfl) (by kernel_rfl) (fun _ _ _ h => h) (Or.inl ⟨by rfl, ?hy33⟩) (by assumption) ?rest33
  case hy33 =>
    intro w hSw
    go_simp
    try with_reducible rfl
  try simp only [Act.put, List.setIfInBounds_toArray, List.set_cons_zero, List.set_cons_succ, List.getElem_toArray, List.getElem_cons_succ, List.getElem_cons_zero]
  refine wpAnyH_take (i := 33) (v := ?v34) rfl (by kernel_rfl) (by kernel_rfl) (by kernel_rfl) (fun _ _ _ h => h) (Or.inl ⟨by rfl, ?hy34⟩) (by assumption) ?rest34
  case hy34 =>
    intro w hSw
    go_simp
    try with_reducible rfl
  try simp only [Act.put, List.setIfInBounds_toArray, List.set_cons_zero, List.set_cons_succ, List.getElem_toArray, List.getElem_cons_succ, List.getElem_cons_zero]
  refine wpAnyH_take (i := 34) (v := ?v35) rfl (by kernel_rfl) (by kernel_rfl) (by kernel_rfl) (fun _ _ _ h => h) (Or.inl ⟨by rfl, ?hy35⟩) (by assumption) ?rest35
  case hy35 =>
    intro w hSw
    go_simp
    try with_reducible rfl
  try simp only [Act.put, List.setIfInBounds_toArray, List.set_cons_zero, List.set_cons_succ, List.getElem_toArray, List.getElem_cons_succ, List.getElem_cons_zero]
  refine wpAnyH_take (i := 35) (v := ?v36) rfl (by kernel_rfl) (by kernel_rfl) (by kernel_rfl) (fun _ _ _ h => h) (Or.inl ⟨by rfl, ?hy36⟩) (by assumption) ?rest36
  case hy36 =>
    intro w hSw
    go_simp
    try with_reducible rfl
  try simp only [Act.put, List.setIfInBounds_toArray, List.set_cons_zero, List.set_cons_succ, List.getElem_toArray, List.getElem_cons_succ, List.getElem_cons_zero]
  refine wpAnyH_take (i := 36) (v := ?v37) rfl (by kernel_rfl) (by kernel_rfl) (by kernel_rfl) (fun _ _ _ h => h) (Or.inl ⟨by rfl, ?hy37⟩) (by assumption) ?rest37
  case hy37 =>
    intro w hSw
    go_simp
    try with_reducible rfl
  try simp only [Act.put, List.setIfInBounds_toArray, List.set_cons_zero, List.set_cons_succ, List.getElem_toArray, List.getElem_cons_succ, List.getElem_cons_zero]
  refine wpAnyH_take (i := 37) (v := ?v38) rfl (by kernel_rfl) (by kernel_rfl) (by kernel_rfl) (fun _ _ _ h => h) (Or.inl ⟨by rfl, ?hy38⟩) (by assumption) ?rest38
  case hy38 =>
    intro w hSw
    go_simp
    try with_reducible rfl
  try simp only [Act.put, List.setIfInBounds_toArray, List.set_cons_zero, List.set_cons_succ, List.getElem_toArray, List.getElem_cons_succ, List.getElem_cons_zero]
  refine wpAnyH_take (i := 38) (v := ?v39) rfl (by kernel_rfl) (by kernel_rfl) (by kernel_rfl) (fun _ _ _ h => h) (Or.inl ⟨by rfl, ?hy39⟩) (by assumption) ?rest39
  case hy39 =>
    intro w hSw
    (obtain ⟨q3, q4, q5, q6, q7⟩ := unhide HK; have q3 := hSw.cell q3 (fun e => e); go_simp; try with_reducible rfl)
  try simp only [Act.put, List.setIfInBounds_toArray, List.set_cons_zero, List.set_cons_succ, List.getElem_toArray, List.getElem_cons_succ, List.getElem_cons_zero]
  refine wpAnyH_take (i := 39) (v := ?v40) rfl (by kernel_rfl) (by kernel_rfl) (by kernel_rfl) (fun _ _ _ h => h) (Or.inl ⟨by rfl, ?hy40⟩) (by assumption) ?rest40
  case hy40 =>
    intro w hSw
    go_simp
    try with_reducible rfl
  try simp only [Act.put, List.setIfInBounds_toArray, List.set_cons_zero, List.set_cons_succ, List.getElem_toArray, List.getElem_cons_succ, List.getElem_cons_zero]
  refine wpAnyH_take (i := 40) (v := ?v41) rfl (by kernel_rfl) (by kernel_rfl) (by kernel_rfl) (fun _ _ _ h => h) (Or.inl ⟨by rfl, ?hy41⟩) (by assumption) ?rest41
  case hy41 =>
    intro w hSw
    go_simp
    try with_reducible rfl
  try simp only [Act.put, List.setIfInBounds_toArray, List.set_cons_zero, List.set_cons_succ, List.getElem_toArray, List.getElem_cons_succ, List.getElem_cons_zero]
  refine wpAnyH_take (i := 41) (v := ?v42) rfl (by kernel_rfl) (by kernel_rfl) (by kernel_rfl) (fun _ _ _ h => h) (Or.inl ⟨by rfl, ?hy42⟩) (by assumption) ?rest42
  case hy42 =>
    intro w hSw
    go_simp
    try with_reducible rfl
  try simp only [Act.put, List.setIfInBounds_toArray, List.set_cons_zero, List.set_cons_succ, List.getElem_toArray, List.getElem_cons_succ, List.getElem_cons_zero]
  refine wpAnyH_take (i := 42) (v := ?v43) rfl (by kernel_rfl) (by kernel_rfl) (by kernel_rfl) (fun _ _ _ h => h) (Or.inl ⟨by rfl, ?hy43⟩) (by assumption) ?rest43
  case hy43 =>
    intro w hSw
    go_simp
    try with_reducible rfl
  try simp only [Act.put, List.setIfInBounds_toArray, List.set_cons_zero, List.set_cons_succ, List.getElem_toArray, List.getElem_cons_succ, List.getElem_cons_zero]
  refine wpAnyH_take (i := 43) (v := ?v44) rfl (by kernel_rfl) (by kernel_rfl) (by kernel_rfl) (fun _ _ _ h => h) (Or.inl ⟨by rfl, ?hy44⟩) (by assumption) ?rest44
  case hy44 =>
    intro w hSw
    go_simp
    try with_reducible rfl
  try simp only [Act.put, List.setIfInBounds_toArray, List.set_cons_zero, List.set_cons_succ, List.getElem_toArray, List.getElem_cons_succ, List.getElem_cons_zero]
  refine wpAnyH_take (i := 44) (v := ?v45) rfl (by kernel_rfl) (by kernel_rfl) (by kernel_rfl) (fun _ _ _ h => h) (Or.inl ⟨by rfl, ?hy45⟩) (by assumption) ?rest45
  case hy45 =>
    intro w hSw
    go_simp
    try with_reducible rfl
  try simp only [Act.put, List.setIfInBounds_toArray, List.set_cons_zero, List.set_cons_succ, List.getElem_toArray, List.getElem_cons_succ, List.getElem_cons_zero]
  refine wpAnyH_take (i := 45) (v := ?v46) rfl (by kernel_rfl) (by kernel_rfl) (by kernel_rfl) (fun _ _ _ h => h) (Or.inl ⟨by rfl, ?hy46⟩) (by assumption) ?rest46
  case hy46 =>
    intro w hSw
    go_simp
    try with_reducible rfl
  try simp only [Act.put, List.setIfInBounds_toArray, List.set_cons_zero, List.set_cons_succ, List.getElem_toArray, List.getElem_cons_succ, List.getElem_cons_zero]
  refine wpAnyH_take (i := 46) (v := ?v47) rfl (by kernel_rfl) (by kernel_rfl) (by kernel_rfl) (fun _ _ _ h => h) (Or.inl ⟨by rfl, ?hy47⟩) (by assumption) ?rest47
  case hy47 =>
    intro w hSw
    go_simp
    try with_reducible rfl
  try simp only [Act.put, List.setIfInBounds_toArray, List.set_cons_zero, List.set_cons_succ, List.getElem_toArray, List.getElem_cons_succ, List.getElem_cons_zero]
  refine wpAnyH_take (i := 47) (v := ?v48) rfl (by kernel_rfl) (by kernel_rfl) (by kernel_rfl) (fun _ _ _ h => h) (Or.inl ⟨by rfl, ?hy48⟩) (by assumption) ?rest48
  case hy48 =>
    intro w hSw
    (obtain ⟨_, _, _, _, q4⟩ := unhide HZ; have q4 := hSw.cell q4 (fun e => e); go_simp; try with_reducible rfl)
  try simp only [Act.put, List.setIfInBounds_toArray, List.set_cons_zero, List.set_cons_succ, List.getElem_toArray, List.getElem_cons_succ, List.getElem_cons_zero]
  refine wpAnyH_take (i := 48) (v := ?v49) rfl (by kernel_rfl) (by kernel_rfl) (by kernel_rfl) (fun _ _ _ h => h) (Or.inl ⟨by rfl, ?hy49⟩) (by assumption) ?rest49
  case hy49 =>
    intro w hSw
    go_simp
    try with_reducible rfl
  try simp only [Act.put, List.setIfInBounds_toArray, List.set_cons_zero, List.set_cons_succ, List.getElem_toArray, List.getElem_cons_succ, List.getElem_cons_zero]
  refine wpAnyH_take (i := 49) (v := ?v50) rfl (by kernel_rfl) (by kernel_rfl) (by kernel_rfl) (fun _ _ _ h => h) (Or.inl ⟨by rfl, ?hy50⟩) (by assumption) ?rest50
  case hy50 =>
    intro w hSw
    go_simp
    try with_reducible rfl
  try simp only [Act.put, List.setIfInBounds_toArray, List.set_cons_zero, List.set_cons_succ, List.getElem_toArray, List.getElem_cons_succ, List.getElem_cons_zero]
  refine wpAnyH_take (i := 50) (v := ?v51) rfl (by kernel_rfl) (by kernel_rfl) (by kernel_rfl) (fun _ _ _ h => h) (Or.inl ⟨by rfl, ?hy51⟩) (by assumption) ?rest51
  case hy51 =>
    intro w hSw
    go_simp
    try with_reducible rfl
  try simp only [Act.put, List.setIfInBounds_toArray, List.set_cons_zero, List.set_cons_succ, List.getElem_toArray, List.getElem_cons_succ, List.getElem_cons_zero]
  refine wpAnyH_take (i := 51) (v := ?v52) rfl (by kernel_rfl) (by kernel_rfl) (by kernel_rfl) (fun _ _ _ h => h) (Or.inl ⟨by rfl, ?hy52⟩) (by assumption) ?rest52
  case hy52 =>
    intro w hSw
    go_simp
    try with_reducible rfl
  try simp only [Act.put, List.setIfInBounds_toArray, List.set_cons_zero, List.set_cons_succ, List.getElem_toArray, List.getElem_cons_succ, List.getElem_cons_zero]
  refine wpAnyH_take (i := 52) (v := ?v53) rfl (by kernel_rfl) (by kernel_rfl) (by kernel_rfl) (fun _ _ _ h => h) (Or.inl ⟨by rfl, ?hy53⟩) (by assumption) ?rest53
  case hy53 =>
    intro w hSw
    go_simp
    try with_reducible rfl
  try simp only [Act.put, List.setIfInBounds_toArray, List.set_cons_zero, List.set_cons_succ, List.getElem_toArray, List.getElem_cons_succ, List.getElem_cons_zero]
  refine wpAnyH_take (i := 53) (v := ?v54) rfl (by kernel_rfl) (by kernel_rfl) (by kernel_rfl) (fun _ _ _ h => h) (Or.inl ⟨by rfl, ?hy54⟩) (by assumption) ?rest54
  case hy54 =>
    intro w hSw
    (obtain ⟨_, _, _, _, q4⟩ := unhide HZ; have q4 := hSw.cell q4 (fun e => e); go_simp; try with_reducible rfl)
  try simp only [Act.put, List.setIfInBounds_toArray, List.set_cons_zero, List.set_cons_succ, List.getElem_toArray, List.getElem_cons_succ, List.getElem_cons_zero]
  refine wpAnyH_take (i := 54) (v := ?v55) rfl (by kernel_rfl) (by kernel_rfl) (by kernel_rfl) (fun _ _ _ h => h) (Or.inl ⟨by rfl, ?hy55⟩) (by assumption) ?rest55
  case hy55 =>
    intro w hSw
    go_simp
    try with_reducible rfl
  try simp only [Act.put, List.setIfInBounds_toArray, List.set_cons_zero, List.set_cons_succ, List.getElem_toArray, List.getElem_cons_succ, List.getElem_cons_zero]
  refine wpAnyH_take (i := 55) (v := ?v56) rfl (by kernel_rfl) (by kernel_rfl) (by kernel_rfl) (fun _ _ _ h => h) (Or.inl ⟨by rfl, ?hy56⟩) (by assumption) ?rest56
  case hy56 =>
    intro w hSw
    (obtain ⟨q0, q1, q2, q3, q4⟩ := unhide HM; have q0 := hSw.cell q0 (fun e => e); have q1 := hSw.cell q1 (fun e => e); have q2 := hSw.cell q2 (fun e => e); have q3 := hSw.cell q3 (fun e => e); have q4 := hSw.cell q4 (fun e => e); go_simp; try with_reducible rfl)
  try simp only [Act.put, List.setIfInBounds_toArray, List.set_cons_zero, List.set_cons_succ, List.getElem_toArray, List.getElem_cons_succ, List.getElem_cons_zero]
  refine wpAnyH_take (i := 56) (v := ?v57) rfl (by kernel_rfl) (by kernel_rfl) (by kernel_rfl) (fun _ _ _ h => h) (Or.inl ⟨by rfl, ?hy57⟩) (by assumption) ?rest57
  case hy57 =>
    intro w hSw
    (obtain ⟨q0, q1, q2, q3, q4⟩ := unhide HC1; have q0 := hSw.cell ((unhide H410).cell q0 (fun e => e)) (fun e => e); have q1 := hSw.cell ((unhide H410).cell q1 (fun e => e)) (fun e => e); have q2 := hSw.cell ((unhide H410).cell q2 (fun e => e)) (fun e => e); have q3 := hSw.cell ((unhide H410).cell q3 (fun e => e)) (fun e => e); have q4 := hSw.cell ((unhide H410).cell q4 (fun e => e)) (fun e => e); go_simp; try with_reducible rfl)
  try simp only [Act.put, List.setIfInBounds_toArray, List.set_cons_zero, List.set_cons_succ, List.getElem_toArray, List.getElem_cons_succ, List.getElem_cons_zero]
  refine wpAnyH_ready (rs := [57]) (by kernel_rfl) (by simp) ?_
  refine AllReadyH.cons rfl (fun K hK => ?_) AllReadyH.nil
  go_simp
  go_wp2_with fail; refine (unhide HS0 _ (by first | exact Only.refl _ _ | exact (Only.refl _ _).drew)).mono ?_; rintro e xa ⟨rfl, ya⟩; have HNa : Hid (Only (fun _ => False) wA xa) := Only.trans (by first | exact Only.refl _ _ | exact (Only.refl _ _).drew) ya (fun _ _ e => e)
  refine hK.out _ _ ((unhide HNa)) (fun hHeld => ?_)
  clear hK K
  try simp only [Act.put, List.setIfInBounds_toArray, List.set_cons_zero, List.set_cons_succ, List.getElem_toArray, List.getElem_cons_succ, List.getElem_cons_zero]
  refine wpAnyH_take (i := 58) (v := ?v58) rfl (by kernel_rfl) (by kernel_rfl) (by kernel_rfl) (fun _ _ _ h => h) (Or.inl ⟨by rfl, ?hy58⟩) (by assumption) ?rest58
  case hy58 =>
    intro w hSw
    go_simp
    try with_reducible rfl
  try simp only [Act.put, List.setIfInBounds_toArray, List.set_cons_zero, List.set_cons_succ, List.getElem_toArray, List.getElem_cons_succ, List.getElem_cons_zero]
  refine wpAnyH_take (i := 59) (v := ?v59) rfl (by kernel_rfl) (by kernel_rfl) (by kernel_rfl) (fun _ _ _ h => h) (Or.inl ⟨by rfl, ?hy59⟩) (by assumption) ?rest59
  case hy59 =>
    intro w hSw
    go_simp
    try with_reducible rfl
  try simp only [Act.put, List.setIfInBounds_toArray, List.set_cons_zero, List.set_cons_succ, List.getElem_toArray, List.getElem_cons_succ, List.getElem_cons_zero]
  refine wpAnyH_take (i := 60) (v := ?v60) rfl (by kernel_rfl) (by kernel_rfl) (by kernel_rfl) (fun _ _ _ h => h) (Or.inl ⟨by rfl, ?hy60⟩) (by assumption) ?rest60
  case hy60 =>
    intro w hSw
    go_simp
    try with_reducible rfl
  try simp only [Act.put, List.setIfInBounds_toArray, List.set_cons_zero, List.set_cons_succ, List.getElem_toArray, List.getElem_cons_succ, List.getElem_cons_zero]
  refine wpAnyH_take (i := 61) (v := ?v61) rfl (by kernel_rfl) (by kernel_rfl) (by kernel_rfl) (fun _ _ _ h => h) (Or.inl ⟨by rfl, ?hy61⟩) (by assumption) ?rest61
  case hy61 =>
    intro w hSw
    (obtain ⟨_, _, _, _, q4⟩ := unhide HZ; have q4 := hSw.cell q4 (fun e => e); go_simp; try with_reducible rfl)
  try simp only [Act.put, List.setIfInBounds_toArray, List.set_cons_zero, List.set_cons_succ, List.getElem_toArray, List.getElem_cons_succ, List.getElem_cons_zero]
  refine wpAnyH_take (i := 62) (v := ?v62) rfl (by kernel_rfl) (by kernel_rfl) (by kernel_rfl) (fun _ _ _ h => h) (Or.inl ⟨by rfl, ?hy62⟩) (by assumption) ?rest62
  case hy62 =>
    intro w hSw
    go_simp
    try with_reducible rfl
  try simp only [Act.put, List.setIfInBounds_toArray, List.set_cons_zero, List.set_cons_succ, List.getElem_toArray, List.getElem_cons_succ, List.getElem_cons_zero]
  refine wpAnyH_take (i := 63) (v := ?v63) rfl (by kernel_rfl) (by kernel_rfl) (by kernel_rfl) (fun _ _ _ h => h) (Or.inl ⟨by rfl, ?hy63⟩) (by assumption) ?rest63
  case hy63 =>
    intro w hSw
    (obtain ⟨q0, q1, q2, q3, q4⟩ := unhide HN; have q0 := hSw.cell q0 (fun e => e); have q1 := hSw.cell q1 (fun e => e); have q2 := hSw.cell q2 (fun e => e); have q3 := hSw.cell q3 (fun e => e); have q4 := hSw.cell q4 (fun e => e); go_simp; try with_reducible rfl)
  try simp only [Act.put, List.setIfInBounds_toArray, List.set_cons_zero, List.set_cons_succ, List.getElem_toArray, List.getElem_cons_succ, List.getElem_cons_zero]
  refine wpAnyH_take (i := 64) (v := ?v64) rfl (by kernel_rfl) (by kernel_rfl) (by kernel_rfl) (fun _ _ _ h => h) (Or.inl ⟨by rfl, ?hy64⟩) (by assumption) ?rest64
  case hy64 =>
    intro w hSw
    (obtain ⟨q0, q1, q2, q3, q4⟩ := unhide HC2; have q0 := hSw.cell ((unhide H410).cell q0 (fun e => e)) (fun e => e); have q1 := hSw.cell ((unhide H410).cell q1 (fun e => e)) (fun e => e); have q2 := hSw.cell ((unhide H410).cell q2 (fun e => e)) (fun e => e); have q3 := hSw.cell ((unhide H410).cell q3 (fun e => e)) (fun e => e); have q4 := hSw.cell ((unhide H410).cell q4 (fun e => e)) (fun e => e); go_simp; try with_reducible rfl)
  try simp only [Act.put, List.setIfInBounds_toArray, List.set_cons_zero, List.set_cons_succ, List.getElem_toArray, List.getElem_cons_succ, List.getElem_cons_zero]
  refine wpAnyH_ready (rs := [65]) (by kernel_rfl) (by simp) ?_
  refine AllReadyH.cons rfl (fun K hK => ?_) AllReadyH.nil
  go_simp
  go_wp2_with fail; refine (unhide HS1 _ (by first | exact unhide HNa | exact (unhide HNa).drew)).mono ?_; rintro e xb ⟨rfl, yb⟩; have HNb : Hid (Only (fun _ => False) wA xb) := Only.trans (by first | exact unhide HNa | exact (unhide HNa).drew) yb (fun _ _ e => e)
  refine hK.out _ _ ((unhide HNb)) (fun hHeld => ?_)
  clear hK K
  try simp only [Act.put, List.setIfInBounds_toArray, List.set_cons_zero, List.set_cons_succ, List.getElem_toArray, List.getElem_cons_succ, List.getElem_cons_zero]
  refine wpAnyH_take (i := 66) (v := ?v65) rfl (by kernel_rfl) (by kernel_rfl) (by kernel_rfl) (fun _ _ _ h => h) (Or.inl ⟨by rfl, ?hy65⟩) (by assumption) ?rest65
  case hy65 =>
    intro w hSw
    go_simp
    try with_reducible rfl
  try simp only [Act.put, List.setIfInBounds_toArray, List.set_cons_zero, List.set_cons_succ, List.getElem_toArray, List.getElem_cons_succ, List.getElem_cons_zero]
  refine wpAnyH_take (i := 67) (v := ?v66) rfl (by kernel_rfl) (by kernel_rfl) (by kernel_rfl) (fun _ _ _ h => h) (Or.inl ⟨by rfl, ?hy66⟩) (by assumption) ?rest66
  case hy66 =>
    intro w hSw
    go_simp
    try with_reducible rfl
  try simp only [Act.put, List.setIfInBounds_toArray, List.set_cons_zero, List.set_cons_succ, List.getElem_toArray, List.getElem_cons_succ, List.getElem_cons_zero]
  refine wpAnyH_take (i := 68) (v := ?v67) rfl (by kernel_rfl) (by kernel_rfl) (by kernel_rfl) (fun _ _ _ h => h) (Or.inl ⟨by rfl, ?hy67⟩) (by assumption) ?rest67
  case hy67 =>
    intro w hSw
    go_simp
    try with_reducible rfl
  try simp only [Act.put, List.setIfInBounds_toArray, List.set_cons_zero, List.set_cons_succ, List.getElem_toArray, List.getElem_cons_succ, List.getElem_cons_zero]
  refine wpAnyH_ready (rs := [69]) (by kernel_rfl) (by simp) ?_
  refine AllReadyH.cons rfl (fun K hK => ?_) AllReadyH.nil
  go_simp
  go_wp2_with fail; refine (pick_any ((a : Int) + (b : Int)) 8 _ (by omega) (by omega)).mono ?_; rintro e xq ⟨rfl, hxq⟩; subst hxq
  refine hK.out _ _ ((by first | exact unhide HNb | exact (unhide HNb).drew)) (fun hHeld => ?_)
  clear hK K
  try simp only [Act.put, List.setIfInBounds_toArray, List.set_cons_zero, List.set_cons_succ, List.getElem_toArray, List.getElem_cons_succ, List.getElem_cons_zero]
  refine wpAnyH_take (i := 70) (v := ?v68) rfl (by kernel_rfl) (by kernel_rfl) (by kernel_rfl) (fun _ _ _ h => h) (Or.inl ⟨by rfl, ?hy68⟩) (by assumption) ?rest68
  case hy68 =>
    intro w hSw
    go_simp
    try with_reducible rfl
  try simp only [Act.put, List.setIfInBounds_toArray, List.set_cons_zero, List.set_cons_succ, List.getElem_toArray, List.getElem_cons_succ, List.getElem_cons_zero]
  refine wpAnyH_take (i := 71) (v := ?v69) rfl (by kernel_rfl) (by kernel_rfl) (by kernel_rfl) (fun _ _ _ h => h) (Or.inl ⟨by rfl, ?hy69⟩) (by assumption) ?rest69
  case hy69 =>
    intro w hSw
    go_simp
    try with_reducible rfl
  try simp only [Act.put, List.setIfInBounds_toArray, List.set_cons_zero, List.set_cons_succ, List.getElem_toArray, List.getElem_cons_succ, List.getElem_cons_zero]
  refine wpAnyH_take (i := 72) (v := ?v70) rfl (by kernel_rfl) (by kernel_rfl) (by kernel_rfl) (fun _ _ _ h => h) (Or.inl ⟨by rfl, ?hy70⟩) (by assumption) ?rest70
  case hy70 =>
    intro w hSw
    go_simp
    try with_reducible rfl
  try simp only [Act.put, List.setIfInBounds_toArray, List.set_cons_zero, List.set_cons_succ, List.getElem_toArray, List.getElem_cons_succ, List.getElem_cons_zero]
  refine wpAnyH_done (by kernel_rfl) ?_ _
  go_wp2
  go_ret
  exact ⟨rfl, (unhide HO10).trans (unhide HNb) (fun _ _ e => e)⟩
end Tt
end Go.Proofs.YtedmfjnmclbkpabDoor
