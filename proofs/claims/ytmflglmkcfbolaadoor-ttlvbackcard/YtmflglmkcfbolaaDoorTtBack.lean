/-
  The law: what is encoded is decoded to the same; what is decoded is right, and is encoded as the same bytes.
-/
import Derived.Test.YtmflglmkcfbolaaDoorTtCuts
import Derived.Test.YtmflglmkcfbolaaDoorTtPsame
namespace Go.Proofs.YtmflglmkcfbolaaDoor
open Go.RowKit
set_option linter.unusedSimpArgs false
set_option linter.unusedVariables false
namespace Tt

mutual
theorem sameB_refl : ∀ (i : It), sameB i i = true
  | .mk t y n d ks => by rw [sameB_eq, sameAllB_refl ks]; simp
theorem sameAllB_refl : ∀ (ks : List It), sameAllB ks ks = true
  | [] => by rw [sameAllB]
  | k :: r => by rw [sameAllB, sameB_refl k, sameAllB_refl r]; rfl
end

set_option maxHeartbeats 8000000 in
set_option maxRecDepth 100000 in
theorem ttlvBack_any (lv : Value) (m : Nat) (X : Nat → Raw6) (rv : Value) (raw : List UInt8) (w : World) (hr : Raws6 w lv m X) (hT : Tabs w) (hrv : Has w rv raw) (hrl : raw.length ≤ 140737488355328) :
    Calls Tryd.prog 6 #[lv, rv] w fun e w' => e = .returned (.bool true) ∧ Only (fun _ => False) w w' := by
  obtain ⟨ra, rc, hrs, _⟩ := hrv.shape
  subst hrs
  have HTree := hide (tree_any lv m X 30 0 w hr (by omega) (by omega))
  have HT := hide hT
  have HRV := hide hrv
  have HKn := hide (fun W (o : Only (fun _ => False) w W) => known_any W ((unhide HT).same o))
  have HRaw := hide (fun W (o : Only (fun _ => False) w W) => Decode_any (.slice ra raw.length rc) raw W (hrv.only o (fun _ _ _ e => e)) ((unhide HT).same o) hrl)
  clear hr hT hrv
  go_enter Tryd.func6, Tryd.ntmps6
  go_wp2_with fail
  refine (unhide HTree).mono ?_
  rintro e w1 ⟨it, dv, kv, rfl, hit, hsm, hcnt, o1⟩
  have hfair := fair_of hsm hcnt
  obtain ⟨⟨da, dc, hds⟩, ka, kc, hks⟩ := hit.shapes
  subst hds
  subst hks
  obtain ⟨⟨x0, x1, x2, x3, x4⟩, oI⟩ := boxed w1 (.int .i64 it.tag) (.int .i64 it.typ) (.int .i64 it.int) (.slice da it.data.length dc) (.slice ka it.kids.length kc)
  have HFair := hide hfair
  have HO1 := hide (o1.trans oI (fun _ _ e => e))
  have HIT := hide (hit.same oI)
  have HSM : Hid (it.small 140737488355328) := small_le it (by decide) hsm
  have HSZ : Hid (it.size ≤ 2147483648) := by show _ ≤ _; have := hfair.size; omega
  have HEn := hide (Encode_any 31 it _ _ _ (unhide HIT) ((unhide HT).same (unhide HO1)) (by decide) (unhide HSZ) (unhide HSM))
  unfold ival at HEn
  clear hit hsm hcnt o1 hfair HTree oI
  go_upto_region 2 with fail
  generalize w1.alloc (.cells #[.int .i64 it.tag, .int .i64 it.typ, .int .i64 it.int, .slice da it.data.length dc, .slice ka it.kids.length kc] 25) = w2 at *
  go_wp2_with fail
  refine (unhide HEn).mono ?_
  rintro e w3 ⟨he, o3⟩
  have HO3 := hide ((unhide HO1).trans o3 (fun _ _ e => e))
  have HIT3 := hide ((unhide HIT).same o3)
  have y0 := o3.cell x0 (fun e => e)
  have y1 := o3.cell x1 (fun e => e)
  have y2 := o3.cell x2 (fun e => e)
  have y3 := o3.cell x3 (fun e => e)
  have y4 := o3.cell x4 (fun e => e)
  clear o3 HEn HO1 HIT x0 x1 x2 x3 x4
  unfold EncAs at he
  cases hrb : rightB it with
  | false =>
    rw [hrb, if_neg (by decide)] at he
    subst he
    clear hrb y0 y1 y2 y3 y4
    go_wp2_with fail
    refine (unhide HRaw _ (unhide HO3)).mono ?_
    rintro e v5 ⟨he5, p5⟩
    have HP5 := hide ((unhide HO3).trans p5 (fun _ _ e => e))
    clear p5 HRaw
    cases hR : dAll raw with
    | err er =>
      rw [hR] at he5
      have hep := dAll_err _ _ hR
      have he6 : e = .returned (.tuple #[zeroI, .int .i64 er]) := he5
      subst he6
      have e4 : (er == 0) = false := by rw [beq_eq_false_iff_ne]; omega
      have HP6 := hide ((unhide HP5).trans ((Only.refl (fun _ => False) v5).alloc (.cells #[.int .i64 0, .int .i64 0, .int .i64 0, .slice none 0 0, .slice none 0 0] 25)) (fun _ _ e => e))
      clear he5 hR hep
      go_upto_region 8 with fail
      generalize v5.alloc (.cells #[.int .i64 0, .int .i64 0, .int .i64 0, .slice none 0 0, .slice none 0 0] 25) = v6 at *
      go_wp2_with fail
      refine (unhide HKn _ (unhide HP6)).mono ?_
      rintro e v7 ⟨rfl, p7⟩
      have HP7 := hide ((unhide HP6).trans p7 (fun _ _ e => e))
      clear p7
      go_wp2_with fail
      refine (unhide HKn _ (unhide HP7)).mono ?_
      rintro e v8 ⟨rfl, p8⟩
      have HP8 := hide ((unhide HP7).trans p8 (fun _ _ e => e))
      clear p8
      go_wp2
      go_ret
      exact ⟨rfl, unhide HP8⟩
    | ok j =>
      rw [hR] at he5
      obtain ⟨hraw, hjr, hjs⟩ := dAll_ok _ _ hR
      obtain ⟨jd, jk, rfl, hji⟩ := he5
      obtain ⟨⟨ja, jc, hjd⟩, jka, jkc, hjk⟩ := hji.shapes
      subst hjd
      subst hjk
      obtain ⟨⟨z0, z1, z2, z3, z4⟩, pI⟩ := boxed v5 (.int .i64 j.tag) (.int .i64 j.typ) (.int .i64 j.int) (.slice ja j.data.length jc) (.slice jka j.kids.length jkc)
      have HP6 := hide ((unhide HP5).trans pI (fun _ _ e => e))
      have HJI := hide (hji.same pI)
      have HJR := hide hjr
      have HRawE := hide hraw
      have HJS : Hid (j.small 140737488355328) := small_le j (by decide) hjs
      have HJZ : Hid (j.size ≤ 2147483648) := by
        show _ ≤ _
        unfold rightB at hjr
        simp only [Bool.and_eq_true, decide_eq_true_eq] at hjr
        omega
      clear hji pI hR hjr hjs hraw
      go_upto_region 8 with fail
      generalize v5.alloc (.cells #[.int .i64 j.tag, .int .i64 j.typ, .int .i64 j.int, .slice ja j.data.length jc, .slice jka j.kids.length jkc] 25) = v6 at *
      go_wp2_with fail
      refine (unhide HKn _ (unhide HP6)).mono ?_
      rintro e v7 ⟨rfl, p7⟩
      have HP7 := hide ((unhide HP6).trans p7 (fun _ _ e => e))
      have u0 := p7.cell z0 (fun e => e)
      have u1 := p7.cell z1 (fun e => e)
      have u2 := p7.cell z2 (fun e => e)
      have u3 := p7.cell z3 (fun e => e)
      have u4 := p7.cell z4 (fun e => e)
      have HJ7 := hide ((unhide HJI).same p7)
      have HEj := hide (Encode_any 13 j _ _ v7 (unhide HJ7) ((unhide HT).same (unhide HP7)) (by decide) (unhide HJZ) (unhide HJS))
      unfold ival at HEj
      clear p7 z0 z1 z2 z3 z4 HJI
      go_wp2_with fail
      refine (unhide HEj).mono ?_
      rintro e v8 ⟨he8, p8⟩
      unfold EncAs at he8
      rw [unhide HJR, if_pos rfl] at he8
      obtain ⟨cv, rfl, hcv, _⟩ := he8
      obtain ⟨ca, cc, hcs, _⟩ := hcv.shape
      subst hcs
      have HP8 := hide ((unhide HP7).trans p8 (fun _ _ e => e))
      have s0 := p8.cell u0 (fun e => e)
      have s1 := p8.cell u1 (fun e => e)
      have s2 := p8.cell u2 (fun e => e)
      have s3 := p8.cell u3 (fun e => e)
      have s4 := p8.cell u4 (fun e => e)
      have HRj := hide (Right_any 13 j _ _ v8 ((unhide HJ7).same p8) ((unhide HT).same (unhide HP8)) (by decide) (unhide HJZ) (unhide HJS))
      rw [unhide HJR] at HRj
      unfold ival at HRj
      have HCV := hide hcv
      clear p8 u0 u1 u2 u3 u4 hcv HEj
      go_wp2_with fail
      refine (unhide HRj).mono ?_
      rintro e v9 ⟨rfl, p9⟩
      have HP9 := hide ((unhide HP8).trans p9 (fun _ _ e => e))
      have k1 := str_conv ((unhide HCV).only p9 (fun _ _ _ e => e))
      have k2 := str_conv ((unhide HRV).only (unhide HP9) (fun _ _ _ e => e))
      have k3 : str j.lay = str raw := by rw [unhide HRawE]
      rw [k3] at k1
      generalize str raw = S at *
      clear p9 HRj HCV HRawE k3
      generalize j.lay.length = jl at *
      generalize raw.length = rl at *
      go_wp2
      go_ret
      exact ⟨rfl, unhide HP9⟩
  | true =>
    rw [hrb, if_pos rfl] at he
    obtain ⟨v, rfl, hv, _⟩ := he
    obtain ⟨va, vc, hvs, _⟩ := hv.shape
    subst hvs
    have HRB := hide hrb
    have HDc := hide (Decode_any _ it.lay w3 hv ((unhide HT).same (unhide HO3)) (by rw [lay_length]; have := (unhide HFair).size; omega))
    rw [dAll_lay it hrb (small_le it (by decide) (unhide HFair).small)] at HDc
    clear hv hrb
    go_wp2_with fail
    refine (unhide HDc).mono ?_
    rintro e w4 ⟨he4, o4⟩
    obtain ⟨jd, jk, rfl, hji⟩ := he4
    obtain ⟨⟨ja, jc, hjd⟩, jka, jkc, hjk⟩ := hji.shapes
    subst hjd
    subst hjk
    obtain ⟨⟨z0, z1, z2, z3, z4⟩, oJ⟩ := boxed w4 (.int .i64 it.tag) (.int .i64 it.typ) (.int .i64 it.int) (.slice ja it.data.length jc) (.slice jka it.kids.length jkc)
    have o45 := o4.trans oJ (fun _ _ e => e)
    have HO5 := hide ((unhide HO3).trans o45 (fun _ _ e => e))
    have HIT5 := hide ((unhide HIT3).same o45)
    have HJ5 := hide (ItAt.deeper 13 31 (by decide) (hji.same oJ))
    have c0 := o45.cell y0 (fun e => e)
    have c1 := o45.cell y1 (fun e => e)
    have c2 := o45.cell y2 (fun e => e)
    have c3 := o45.cell y3 (fun e => e)
    have c4 := o45.cell y4 (fun e => e)
    have HSame := hide (psame_any 31 _ _ it it _ _ _ _ _ (unhide HIT5) (unhide HJ5))
    rw [sameB_refl] at HSame
    unfold ival at HSame
    have hlay : it.lay.length = it.size := lay_length it
    have hmod := size_mod it
    rw [hlay] at HDc ⊢
    clear o4 oJ o45 hji y0 y1 y2 y3 y4 HDc HIT3
    go_upto_region 5 with fail
    generalize w4.alloc (.cells #[.int .i64 it.tag, .int .i64 it.typ, .int .i64 it.int, .slice ja it.data.length jc, .slice jka it.kids.length jkc] 25) = w5 at *
    go_wp2_with fail
    refine (unhide HSame).mono ?_
    rintro e w6 ⟨rfl, o6⟩
    have HO6 := hide ((unhide HO5).trans o6 (fun _ _ e => e))
    have HIT6 := hide ((unhide HIT5).same o6)
    have d0 := o6.cell c0 (fun e => e)
    have d1 := o6.cell c1 (fun e => e)
    have d2 := o6.cell c2 (fun e => e)
    have d3 := o6.cell c3 (fun e => e)
    have d4 := o6.cell c4 (fun e => e)
    have HSz := hide (Size_any 31 it _ _ w6 (unhide HIT6) (by decide) (unhide HSZ) (unhide HSM))
    unfold ival at HSz
    clear o6 c0 c1 c2 c3 c4 z0 z1 z2 z3 z4 HSame HO5 HIT5 HJ5
    go_wp2_with fail
    refine (unhide HSz).mono ?_
    rintro e w7 ⟨rfl, o7⟩
    have HO7 := hide ((unhide HO6).trans o7 (fun _ _ e => e))
    have f0 := o7.cell d0 (fun e => e)
    have f1 := o7.cell d1 (fun e => e)
    have f2 := o7.cell d2 (fun e => e)
    have f3 := o7.cell d3 (fun e => e)
    have f4 := o7.cell d4 (fun e => e)
    have HRt := hide (Right_any 31 it _ _ w7 ((unhide HIT6).same o7) ((unhide HT).same (unhide HO7)) (by decide) (unhide HSZ) (unhide HSM))
    rw [unhide HRB] at HRt
    unfold ival at HRt
    have hm8 : ((it.size : Int)) % 8 = 0 := by omega
    have HM8 := hide hm8
    clear o7 d0 d1 d2 d3 d4 HSz HO6 HIT6 hmod hlay hm8
    generalize it.size = sz at *
    have hm8 := unhide HM8
    go_wp2_with fail
    refine (unhide HRt).mono ?_
    rintro e w8 ⟨rfl, o8⟩
    have HO8 := hide ((unhide HO7).trans o8 (fun _ _ e => e))
    clear o8 f0 f1 f2 f3 f4 HRt
    go_wp2_with fail
    refine (unhide HRaw _ (unhide HO8)).mono ?_
    rintro e v5 ⟨he5, p5⟩
    have HP5 := hide ((unhide HO8).trans p5 (fun _ _ e => e))
    clear p5 HRaw
    cases hR : dAll raw with
    | err er =>
      rw [hR] at he5
      have hep := dAll_err _ _ hR
      have he6 : e = .returned (.tuple #[zeroI, .int .i64 er]) := he5
      subst he6
      have e4 : (er == 0) = false := by rw [beq_eq_false_iff_ne]; omega
      have HP6 := hide ((unhide HP5).trans ((Only.refl (fun _ => False) v5).alloc (.cells #[.int .i64 0, .int .i64 0, .int .i64 0, .slice none 0 0, .slice none 0 0] 25)) (fun _ _ e => e))
      clear he5 hR hep
      go_upto_region 8 with fail
      generalize v5.alloc (.cells #[.int .i64 0, .int .i64 0, .int .i64 0, .slice none 0 0, .slice none 0 0] 25) = v6 at *
      go_wp2_with fail
      refine (unhide HKn _ (unhide HP6)).mono ?_
      rintro e v7 ⟨rfl, p7⟩
      have HP7 := hide ((unhide HP6).trans p7 (fun _ _ e => e))
      clear p7
      go_wp2_with fail
      refine (unhide HKn _ (unhide HP7)).mono ?_
      rintro e v8 ⟨rfl, p8⟩
      have HP8 := hide ((unhide HP7).trans p8 (fun _ _ e => e))
      clear p8
      go_wp2
      go_ret
      exact ⟨rfl, unhide HP8⟩
    | ok j =>
      rw [hR] at he5
      obtain ⟨hraw, hjr, hjs⟩ := dAll_ok _ _ hR
      obtain ⟨jd, jk, rfl, hji⟩ := he5
      obtain ⟨⟨ja, jc, hjd⟩, jka, jkc, hjk⟩ := hji.shapes
      subst hjd
      subst hjk
      obtain ⟨⟨z0, z1, z2, z3, z4⟩, pI⟩ := boxed v5 (.int .i64 j.tag) (.int .i64 j.typ) (.int .i64 j.int) (.slice ja j.data.length jc) (.slice jka j.kids.length jkc)
      have HP6 := hide ((unhide HP5).trans pI (fun _ _ e => e))
      have HJI := hide (hji.same pI)
      have HJR := hide hjr
      have HRawE := hide hraw
      have HJS : Hid (j.small 140737488355328) := small_le j (by decide) hjs
      have HJZ : Hid (j.size ≤ 2147483648) := by
        show _ ≤ _
        unfold rightB at hjr
        simp only [Bool.and_eq_true, decide_eq_true_eq] at hjr
        omega
      clear hji pI hR hjr hjs hraw
      go_upto_region 8 with fail
      generalize v5.alloc (.cells #[.int .i64 j.tag, .int .i64 j.typ, .int .i64 j.int, .slice ja j.data.length jc, .slice jka j.kids.length jkc] 25) = v6 at *
      go_wp2_with fail
      refine (unhide HKn _ (unhide HP6)).mono ?_
      rintro e v7 ⟨rfl, p7⟩
      have HP7 := hide ((unhide HP6).trans p7 (fun _ _ e => e))
      have u0 := p7.cell z0 (fun e => e)
      have u1 := p7.cell z1 (fun e => e)
      have u2 := p7.cell z2 (fun e => e)
      have u3 := p7.cell z3 (fun e => e)
      have u4 := p7.cell z4 (fun e => e)
      have HJ7 := hide ((unhide HJI).same p7)
      have HEj := hide (Encode_any 13 j _ _ v7 (unhide HJ7) ((unhide HT).same (unhide HP7)) (by decide) (unhide HJZ) (unhide HJS))
      unfold ival at HEj
      clear p7 z0 z1 z2 z3 z4 HJI
      go_wp2_with fail
      refine (unhide HEj).mono ?_
      rintro e v8 ⟨he8, p8⟩
      unfold EncAs at he8
      rw [unhide HJR, if_pos rfl] at he8
      obtain ⟨cv, rfl, hcv, _⟩ := he8
      obtain ⟨ca, cc, hcs, _⟩ := hcv.shape
      subst hcs
      have HP8 := hide ((unhide HP7).trans p8 (fun _ _ e => e))
      have s0 := p8.cell u0 (fun e => e)
      have s1 := p8.cell u1 (fun e => e)
      have s2 := p8.cell u2 (fun e => e)
      have s3 := p8.cell u3 (fun e => e)
      have s4 := p8.cell u4 (fun e => e)
      have HRj := hide (Right_any 13 j _ _ v8 ((unhide HJ7).same p8) ((unhide HT).same (unhide HP8)) (by decide) (unhide HJZ) (unhide HJS))
      rw [unhide HJR] at HRj
      unfold ival at HRj
      have HCV := hide hcv
      clear p8 u0 u1 u2 u3 u4 hcv HEj
      go_wp2_with fail
      refine (unhide HRj).mono ?_
      rintro e v9 ⟨rfl, p9⟩
      have HP9 := hide ((unhide HP8).trans p9 (fun _ _ e => e))
      have k1 := str_conv ((unhide HCV).only p9 (fun _ _ _ e => e))
      have k2 := str_conv ((unhide HRV).only (unhide HP9) (fun _ _ _ e => e))
      have k3 : str j.lay = str raw := by rw [unhide HRawE]
      rw [k3] at k1
      generalize str raw = S at *
      clear p9 HRj HCV HRawE k3
      generalize j.lay.length = jl at *
      generalize raw.length = rl at *
      go_wp2
      go_ret
      exact ⟨rfl, unhide HP9⟩
end Tt
end Go.Proofs.YtmflglmkcfbolaaDoor
