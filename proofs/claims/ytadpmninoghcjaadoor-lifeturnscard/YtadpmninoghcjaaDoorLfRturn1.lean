/-
  The reference's Revoke.
-/
import Derived.Test.YtadpmninoghcjaaDoorLfRturn
import Derived.Test.YtadpmninoghcjaaDoorLfAns1
import Derived.Test.YtadpmninoghcjaaDoorU8
namespace Go.Proofs.YtadpmninoghcjaaDoor
open Go.RowKit
set_option linter.unusedSimpArgs false
set_option linter.unusedVariables false
namespace Ob
theorem badR_ref (r : Int) (msg : List UInt8) (oc : Bool × Int) (t : Int) : badR r msg oc t = (decide (r < 1) || decide (7 < r) || !isMsg msg || (oc.1 && decide (t < oc.2)) || (!oc.1 && !decide (oc.2 = 0))) := by
  unfold badR isText
  cases msg with
  | nil => rfl
  | cons a l => simp
theorem revU_same (o : Ob) (r : Int) (msg : List UInt8) (oc : Bool × Int) (t : Int) : (revU o r msg oc t).mat = o.mat ∧ (revU o r msg oc t).names = o.names ∧ (revU o r msg oc t).links = o.links ∧ (revU o r msg oc t).custom = o.custom := by
  unfold revU dput
  simp only
  split <;> exact ⟨rfl, rfl, rfl, rfl⟩
theorem dput_again (o : Ob) (i : Nat) (a b : Bool × Int) : dput (dput o i a) i b = dput o i b := by
  unfold dput
  simp only [List.set_set]
set_option maxRecDepth 100000 in
set_option maxHeartbeats 16000000 in
theorem rrevoke_any (o : Ob) (mv nv lv cv : Value) (r : Int) (msg : List UInt8) (oc : Bool × Int) (t : Int) (w : World) (I : In w o mv nv lv cv) (ht : W64 t) (hr64 : W64 r) (hoc : W64 oc.2) (hl : msg.length ≤ maxLen) (hT : Tabs w) (hs1 : 1 ≤ o.state) (hs6 : o.state ≤ 6) :
    Calls Tryd.prog 18 #[val o mv nv lv cv, .int .i64 r, .string (str msg), .agg #[.bool oc.1, .int .i64 oc.2], .int .i64 t] w fun e w' => RAns w w' e (told (revE o r msg oc t) (revU o r msg oc t)) (revE o r msg oc t) (Apart o mv nv lv cv) := by
  obtain ⟨oh, oa⟩ := oc
  have hd := I.ten
  obtain ⟨w1, k1, e1, ek1, hb1, o1, hz1⟩ := boxed w (cells o mv nv lv cv).toArray 32
  obtain ⟨wd, kd, ed, ekd, hbd, od, hzd⟩ := boxed w1 #[.bool oh, .int .i64 oa] 24
  obtain ⟨w2, k2, e2, ek2, hb2, o2, hz2⟩ := boxed wd Zo.toArray 32
  rw [List.toList_toArray] at hb1
  have OW := hide ((o1.trans od (fun _ _ e => e)).trans o2 (fun _ _ e => e))
  have HBO := hide ((hb1.same od).same o2)
  have HBD : Hid (Bx w2 kd 24 [.bool oh, .int .i64 oa]) := hbd.same o2
  have HZ : Hid (Bx w2 k2 32 Zo) := hb2
  have hk1 : w.heap.size ≤ k1 := by omega
  have hkd : k1 < kd := by omega
  have hk2 : kd < k2 := by omega
  have HI := hide I
  have HD0 := hide hd
  have HT := hide ht
  have HR64 := hide hr64
  have HOC := hide hoc
  have HL := hide hl
  have HTB := hide (hT.same (unhide OW))
  have HE1 := hide e1
  have HEK1 := hide ek1
  have HED := hide ed
  have HE2 := hide e2
  have HK1d : Hid (k1 + 1 = kd) := by show _ = _; omega
  have HKd2 : Hid (kd + 1 = k2) := by show _ = _; omega
  obtain ⟨dsc, hdu, hdr⟩ := row_desc Tryd.rowObj
  have hst : o.state = 1 ∨ o.state = 2 ∨ o.state = 3 ∨ o.state = 4 ∨ o.state = 5 ∨ o.state = 6 := by omega
  unfold val
  obtain ⟨A, hA⟩ : ∃ A, A = cells o mv nv lv cv := ⟨_, rfl⟩
  rw [← hA] at HE1 ⊢
  clear hA hb1 hbd hb2 o1 od o2 e1 ek1 ed ekd e2 ek2 hz1 hzd hz2 hd I ht hs1 hs6 hT hr64 hoc hl
  go_enter Tryd.func18, Tryd.ntmps18
  go_upto_region 1 with fail
  rw [zo_eq, ← unhide HE1, ← unhide HEK1, ← unhide HED, unhide HK1d, ← unhide HE2, unhide HKd2]
  clear HE1 HEK1 HED HE2
  go_cut [12] (fun s wx => s = .bool (badR r msg (oh, oa) t) ∧ Hid (Only (fun _ => False) w2 wx))
  case first =>
    as_aux_lemma =>
      have HV := hide (valid_any msg w2 (by have := unhide HL; unfold maxLen at this; omega) (unhide HTB))
      have hz := str_size msg
      rw [show (⟨msg.toArray⟩ : ByteArray) = str msg from rfl] at HV
      have d0 := (unhide HBD).cell 0 (.bool oh) rfl
      have d1 := (unhide HBD).cell 1 (.int .i64 oa) rfl
      have HBR : Hid (badR r msg (oh, oa) t = (decide (r < 1) || decide (7 < r) || !(decide (msg.length ≤ 120) && Lib.validD msg) || (oh && decide (t < oa)) || (!oh && !decide (oa = 0)))) := badR_ref r msg (oh, oa) t
      clear hst HBO HBD HZ HI HD0 HT HR64 HOC HL HTB OW
      generalize badR r msg (oh, oa) t = BR at *
      generalize str msg = S at *
      generalize Lib.validD msg = V at *
      generalize msg.length = L at *
      by_cases h0 : r < 1
      · have HB : Hid (BR = true) := by show _ = _; rw [unhide HBR, decide_eq_true h0]; rfl
        clear d0 d1 HV
        go_wp2_with fail
        go_meet
        case rel => exact ⟨by rw [unhide HB]; first | done | rfl, Only.refl _ _⟩
      by_cases h7 : 7 < r
      · have HB : Hid (BR = true) := by show _ = _; rw [unhide HBR, decide_eq_true h7, Bool.or_true]; rfl
        clear d0 d1 HV
        go_wp2_with fail
        go_meet
        case rel => exact ⟨by rw [unhide HB]; first | done | rfl, Only.refl _ _⟩
      by_cases hL : 120 < (L : Int)
      · have HB : Hid (BR = true) := by show _ = _; rw [unhide HBR, decide_eq_false (show ¬ L ≤ 120 by omega), Bool.false_and, Bool.not_false, Bool.or_true]; rfl
        clear d0 d1 HV
        go_wp2_with fail
        go_meet
        case rel => exact ⟨by rw [unhide HB]; first | done | rfl, Only.refl _ _⟩
      replace HBR : Hid (BR = (!V || (oh && decide (t < oa)) || (!oh && !decide (oa = 0)))) := by show _ = _; rw [unhide HBR, decide_eq_true (show L ≤ 120 by omega), decide_eq_false h0, decide_eq_false h7]; rfl
      cases V with
      | false =>
        have HB : Hid (BR = true) := by show _ = _; rw [unhide HBR]; rfl
        go_wp2_with fail
        refine (unhide HV).mono ?_
        rintro e wx ⟨rfl, ox⟩
        have OX := hide ox
        clear d0 d1 ox HV
        go_wp2_with fail
        go_meet
        case rel => exact ⟨by rw [unhide HB]; first | done | rfl, unhide OX⟩
      | true =>
        cases oh with
        | true =>
          replace HBR : Hid (BR = decide (t < oa)) := by show _ = _; rw [unhide HBR]; simp
          by_cases hc : t < oa
          · skip
            have HB : Hid (BR = true) := by show _ = _; rw [unhide HBR, decide_eq_true hc]; first | done | rfl
            go_wp2_with fail
            refine (unhide HV).mono ?_
            rintro e wx ⟨rfl, ox⟩
            have OX := hide ox
            have f0 := ox.cell d0 (fun e => e)
            have f1 := ox.cell d1 (fun e => e)
            clear d0 d1 ox HV
            go_wp2_with fail
            go_meet
            case rel => exact ⟨by rw [unhide HB]; first | done | rfl | rw [decide_eq_true (show t < oa by omega)], unhide OX⟩
          · skip
            have HB : Hid (BR = false) := by show _ = _; rw [unhide HBR, decide_eq_false hc]; first | done | rfl
            go_wp2_with fail
            refine (unhide HV).mono ?_
            rintro e wx ⟨rfl, ox⟩
            have OX := hide ox
            have f0 := ox.cell d0 (fun e => e)
            have f1 := ox.cell d1 (fun e => e)
            clear d0 d1 ox HV
            go_wp2_with fail
            go_meet
            case rel => exact ⟨by rw [unhide HB]; first | done | rfl | rw [decide_eq_false (show ¬ t < oa by omega)], unhide OX⟩
        | false =>
          replace HBR : Hid (BR = !decide (oa = 0)) := by show _ = _; rw [unhide HBR]; simp
          by_cases hc : oa = 0
          · rw [hc] at d1
            have HB : Hid (BR = false) := by show _ = _; rw [unhide HBR, decide_eq_true hc]; first | done | rfl
            clear hc
            go_wp2_with fail
            refine (unhide HV).mono ?_
            rintro e wx ⟨rfl, ox⟩
            have OX := hide ox
            have f0 := ox.cell d0 (fun e => e)
            have f1 := ox.cell d1 (fun e => e)
            clear d0 d1 ox HV
            go_wp2_with fail
            go_meet
            case rel => exact ⟨by rw [unhide HB]; first | done | rfl, unhide OX⟩
          · have HC0 : Hid ((oa != 0) = true) := (bne_iff_ne).2 hc
            have HB : Hid (BR = true) := by show _ = _; rw [unhide HBR, decide_eq_false hc]; first | done | rfl
            go_wp2_with fail
            refine (unhide HV).mono ?_
            rintro e wx ⟨rfl, ox⟩
            have OX := hide ox
            have f0 := ox.cell d0 (fun e => e)
            have f1 := ox.cell d1 (fun e => e)
            clear d0 d1 ox HV
            go_wp2_with fail
            go_meet
            case rel => exact ⟨by rw [unhide HB]; first | done | rfl | (rw [unhide HC0]), unhide OX⟩
  case rest =>
    as_aux_lemma =>
      rename World => x0
      obtain ⟨rfl, OX⟩ := hcut
      have HB0 := hide ((unhide HBO).same (unhide OX))
      have Q0 : Hid (Only (fun j => j = k1) w2 x0) := (Only.refl _ _).trans (unhide OX) (fun _ _ e => e.elim)
      clear OX HBO HTB
      obtain ⟨MS, hMS⟩ : ∃ MS, MS = str msg := ⟨_, rfl⟩
      have HMS := hide hMS
      rw [← hMS]
      clear hMS
      have ca := (unhide HB0).cell 36 _ (cells_back o mv nv lv cv (unhide HD0) 9)
      have c6 := (unhide HB0).cell 6 _ (cell_state o mv nv lv cv)
      cases hb : badR r msg (oh, oa) t with
      | true =>
        have HE : Hid (revE o r msg (oh, oa) t = 7) := by show _ = _; unfold revE; rw [hb]; rfl
        clear ca c6 hst hb
        have HNO := hide (no_any 7 x0)
        go_wp2_with fail
        refine (unhide HNO).mono ?_
        rintro e y ⟨rfl, oy⟩
        have hzy := ((unhide HZ).only (unhide Q0) (by show ¬ k2 = k1; omega)).same oy
        obtain ⟨hth, hfb, hin, hof⟩ := fin37 (in_zero y) (fun j hj => by simp [blk] at hj) hzy (cs0 := Zo) rfl
        rw [← zo_cells] at hth hfb hin hof
        have OF : Hid (Only (fun _ => False) w (y.setCells k2 0 Zo)) := (((unhide OW).trans (T := fun j => j = k1) (unhide Q0) (fun j hj e => by omega)).trans oy (fun _ _ e => e)).trans (T := fun j => j = k2) hof (fun j hj e => by omega)
        have HTH := hide hth
        have HFB := hide hfb
        have HIN := hide hin
        clear hth hfb hin hof hzy oy HNO
        go_wp2_with (refine wpList_store_mid rfl 32 (.tmp 10) (.tmp 50) rfl k2 0 Zo.toArray rfl rfl (unhide HTH) Tryd.sizeObj zo_one ?_)
        refine bodyPost_ret (results_st2 rfl _ _ k2 32 Zo.toArray rfl (unhide HFB) Tryd.rowObjM Tryd.sizeObj) rfl ?_
        exact ⟨.slice none 0 0, .slice none 0 0, .slice none 0 0, .slice none 0 0, by rw [unhide HE]; rfl, by rw [unhide HE]; exact unhide HIN, unhide OF, fun k _ => by rw [unhide HE]; exact (⟨fun g => absurd rfl g, fun g => absurd rfl g, fun g => absurd rfl g, fun g => absurd rfl g⟩ : Apart zero _ _ _ _ k)⟩
      | false =>
      cases ha : o.arch with
      | true =>
        rw [ha] at ca
        have HE : Hid (revE o r msg (oh, oa) t = 13) := by show _ = _; unfold revE; rw [hb, ha]; rfl
        clear c6 hst hb ha
        have HNO := hide (no_any 13 x0)
        go_wp2_with fail
        refine (unhide HNO).mono ?_
        rintro e y ⟨rfl, oy⟩
        have hzy := ((unhide HZ).only (unhide Q0) (by show ¬ k2 = k1; omega)).same oy
        obtain ⟨hth, hfb, hin, hof⟩ := fin37 (in_zero y) (fun j hj => by simp [blk] at hj) hzy (cs0 := Zo) rfl
        rw [← zo_cells] at hth hfb hin hof
        have OF : Hid (Only (fun _ => False) w (y.setCells k2 0 Zo)) := (((unhide OW).trans (T := fun j => j = k1) (unhide Q0) (fun j hj e => by omega)).trans oy (fun _ _ e => e)).trans (T := fun j => j = k2) hof (fun j hj e => by omega)
        have HTH := hide hth
        have HFB := hide hfb
        have HIN := hide hin
        clear hth hfb hin hof hzy oy HNO
        go_wp2_with (refine wpList_store_mid rfl 32 (.tmp 10) (.tmp 56) rfl k2 0 Zo.toArray rfl rfl (unhide HTH) Tryd.sizeObj zo_one ?_)
        refine bodyPost_ret (results_st2 rfl _ _ k2 32 Zo.toArray rfl (unhide HFB) Tryd.rowObjM Tryd.sizeObj) rfl ?_
        exact ⟨.slice none 0 0, .slice none 0 0, .slice none 0 0, .slice none 0 0, by rw [unhide HE]; rfl, by rw [unhide HE]; exact unhide HIN, unhide OF, fun k _ => by rw [unhide HE]; exact (⟨fun g => absurd rfl g, fun g => absurd rfl g, fun g => absurd rfl g, fun g => absurd rfl g⟩ : Apart zero _ _ _ _ k)⟩
      | false =>
      rw [ha] at ca
      rcases hst with hst | hst | hst | hst | hst | hst
      · rw [hst] at c6
        by_cases hr : r = 2
        · as_aux_lemma =>
            subst hr
            have HWR : Hid (whenR o 2 = 4) := by show _ = _; unfold whenR; rw [if_pos rfl, hst]; rfl
            have HE0 : Hid (revE o 2 msg (oh, oa) t = 0) := by show _ = _; unfold revE; rw [hb, ha, unhide HWR, hst]; rfl
            clear hb ha hst
            go_upto_region 10 with fail
            clear ca c6
            have cS := (unhide HB0).cell 6 _ (cell_state o mv nv lv cv)
            have fS := (unhide HB0).free 6
            obtain ⟨P1, hP1⟩ : ∃ P, P = ({ o with state := 4 } : Ob) := ⟨_, rfl⟩
            have HB1 : Hid (Bx (x0.setCell ⟨k1, 6, none⟩ (.int .i64 4)) k1 32 (cells P1 mv nv lv cv)) := by
              have h := (unhide HB0).set 6 ((.int .i64 4))
              rw [set_state o mv nv lv cv (unhide HD0) 4, ← hP1] at h
              exact h
            have HD1 : Hid (P1.dates.length = 10) := by rw [hP1]; exact unhide HD0
            have HP1 := hide hP1
            have Q1 : Hid (Only (fun j => j = k1) w2 (x0.setCell ⟨k1, 6, none⟩ (.int .i64 4))) := (unhide Q0).here _ _
            clear hP1 HB0 Q0 HD0
            go_upto_region 11 with fail
            generalize (x0.setCell ⟨k1, 6, none⟩ (.int .i64 4)) = x1 at *
            clear cS fS
            as_aux_lemma =>
              have HON := hide (rdate_any t x1)
              go_wp2_with fail
              refine (unhide HON).mono ?_
              rintro e y1 ⟨rfl, oy⟩
              have HBy := hide ((unhide HB1).same oy)
              have QY := hide ((unhide Q1).trans oy (fun _ _ e => e.elim))
              clear oy HON
              have hdy := get_date P1 mv nv lv cv (unhide HD1) 7 (by decide)
              have ca := (unhide HBy).cell 21 _ hdy.1
              have cb := (unhide HBy).cell 22 _ hdy.2
              have fy := (unhide HBy).free
              obtain ⟨P2, hP2⟩ : ∃ P, P = dput P1 7 (true, t) := ⟨_, rfl⟩
              have HB2 : Hid (Bx ((y1.setCell ⟨k1, 21, none⟩ (.bool true)).setCell ⟨k1, 22, none⟩ (.int .i64 t)) k1 32 (cells P2 mv nv lv cv)) := by
                have h := setCells_blk [.bool true, .int .i64 t] y1 21 _ (unhide HBy)
                rw [set_date P1 mv nv lv cv (unhide HD1) 7 (by decide) true t] at h
                rw [hP2]
                exact h
              have HD2 : Hid (P2.dates.length = 10) := by rw [hP2]; show (List.set _ _ _).length = 10; rw [List.length_set]; exact unhide HD1
              have HP2 := hide hP2
              have Q2 : Hid (Only (fun j => j = k1) w2 ((y1.setCell ⟨k1, 21, none⟩ (.bool true)).setCell ⟨k1, 22, none⟩ (.int .i64 t))) := ((unhide QY).here _ _).here _ _
              clear hP2 hdy HB1 Q1 HD1
              go_upto_region 12 with fail
              generalize ((y1.setCell ⟨k1, 21, none⟩ (.bool true)).setCell ⟨k1, 22, none⟩ (.int .i64 t)) = x2 at *
              clear ca cb fy
              as_aux_lemma =>
                clear HBy QY
                have HBK := hide ((unhide HBD).only (unhide Q2) (by show ¬ kd = k1; omega))
                cases oh with
                | true =>
                  have HE := HE0
                  clear HE0
                  have d0 := (unhide HBK).cell 0 (.bool true) rfl
                  have d1 := (unhide HBK).cell 1 (.int .i64 oa) rfl
                  have hdy := get_date P2 mv nv lv cv (unhide HD2) 6 (by decide)
                  have ca := (unhide HB2).cell 19 _ hdy.1
                  have cb := (unhide HB2).cell 20 _ hdy.2
                  have fy := (unhide HB2).free
                  obtain ⟨P3, hP3⟩ : ∃ P, P = dput P2 6 (true, oa) := ⟨_, rfl⟩
                  have HB3 : Hid (Bx ((x2.setCell ⟨k1, 19, none⟩ (.bool true)).setCell ⟨k1, 20, none⟩ (.int .i64 oa)) k1 32 (cells P3 mv nv lv cv)) := by
                    have h := setCells_blk [.bool true, .int .i64 oa] x2 19 _ (unhide HB2)
                    rw [set_date P2 mv nv lv cv (unhide HD2) 6 (by decide) true oa] at h
                    rw [hP3]
                    exact h
                  have HD3 : Hid (P3.dates.length = 10) := by rw [hP3]; show (List.set _ _ _).length = 10; rw [List.length_set]; exact unhide HD2
                  have HP3 := hide hP3
                  have Q3 : Hid (Only (fun j => j = k1) w2 ((x2.setCell ⟨k1, 19, none⟩ (.bool true)).setCell ⟨k1, 20, none⟩ (.int .i64 oa))) := ((unhide Q2).here _ _).here _ _
                  clear hP3 hdy HB2 Q2 HD2
                  go_upto_region 13 with fail
                  generalize ((x2.setCell ⟨k1, 19, none⟩ (.bool true)).setCell ⟨k1, 20, none⟩ (.int .i64 oa)) = x3 at *
                  clear ca cb fy
                  as_aux_lemma =>
                    clear d0 d1
                    have HBK3 := hide ((unhide HBD).only (unhide Q3) (by show ¬ kd = k1; omega))
                    have d0 := (unhide HBK3).cell 0 (.bool true) rfl
                    go_upto_region 17 with fail
                    clear d0 HBK3
                    have cS := (unhide HB3).cell 27 _ (cells_back P3 mv nv lv cv (unhide HD3) 0)
                    have fS := (unhide HB3).free 27
                    obtain ⟨P4, hP4⟩ : ∃ P, P = ({ P3 with reason := 2 } : Ob) := ⟨_, rfl⟩
                    have HB4 : Hid (Bx (x3.setCell ⟨k1, 27, none⟩ (.int .i64 2)) k1 32 (cells P4 mv nv lv cv)) := by
                      have h := (unhide HB3).set 27 ((.int .i64 2))
                      rw [set_reason P3 mv nv lv cv (unhide HD3) 2, ← hP4] at h
                      exact h
                    have HD4 : Hid (P4.dates.length = 10) := by rw [hP4]; exact unhide HD3
                    have HP4 := hide hP4
                    have Q4 : Hid (Only (fun j => j = k1) w2 (x3.setCell ⟨k1, 27, none⟩ (.int .i64 2))) := (unhide Q3).here _ _
                    clear hP4 HB3 Q3 HD3
                    go_upto_region 18 with fail
                    generalize (x3.setCell ⟨k1, 27, none⟩ (.int .i64 2)) = x4 at *
                    clear cS fS
                    as_aux_lemma =>
                      have hsm := set_msg P4 mv nv lv cv (unhide HD4) msg
                      rw [← unhide HMS] at hsm
                      have cS := (unhide HB4).cell 28 _ (cells_back P4 mv nv lv cv (unhide HD4) 1)
                      have fS := (unhide HB4).free 28
                      obtain ⟨P5, hP5⟩ : ∃ P, P = ({ P4 with msg := msg } : Ob) := ⟨_, rfl⟩
                      have HB5 : Hid (Bx (x4.setCell ⟨k1, 28, none⟩ (.string MS)) k1 32 (cells P5 mv nv lv cv)) := by
                        have h := (unhide HB4).set 28 ((.string MS))
                        rw [hsm, ← hP5] at h
                        exact h
                      have HD5 : Hid (P5.dates.length = 10) := by rw [hP5]; exact unhide HD4
                      have HP5 := hide hP5
                      have Q5 : Hid (Only (fun j => j = k1) w2 (x4.setCell ⟨k1, 28, none⟩ (.string MS))) := (unhide Q4).here _ _
                      clear hP5 HB4 Q4 HD4
                      go_upto_region 19 with fail
                      generalize (x4.setCell ⟨k1, 28, none⟩ (.string MS)) = x5 at *
                      clear cS fS
                      as_aux_lemma =>
                        have HON := hide (rdate_any t x5)
                        go_wp2_with fail
                        refine (unhide HON).mono ?_
                        rintro e y5 ⟨rfl, oy⟩
                        have HBy := hide ((unhide HB5).same oy)
                        have QY := hide ((unhide Q5).trans oy (fun _ _ e => e.elim))
                        clear oy HON
                        have hdy := get_date P5 mv nv lv cv (unhide HD5) 9 (by decide)
                        have ca := (unhide HBy).cell 25 _ hdy.1
                        have cb := (unhide HBy).cell 26 _ hdy.2
                        have fy := (unhide HBy).free
                        obtain ⟨P6, hP6⟩ : ∃ P, P = dput P5 9 (true, t) := ⟨_, rfl⟩
                        have HB6 : Hid (Bx ((y5.setCell ⟨k1, 25, none⟩ (.bool true)).setCell ⟨k1, 26, none⟩ (.int .i64 t)) k1 32 (cells P6 mv nv lv cv)) := by
                          have h := setCells_blk [.bool true, .int .i64 t] y5 25 _ (unhide HBy)
                          rw [set_date P5 mv nv lv cv (unhide HD5) 9 (by decide) true t] at h
                          rw [hP6]
                          exact h
                        have HD6 : Hid (P6.dates.length = 10) := by rw [hP6]; show (List.set _ _ _).length = 10; rw [List.length_set]; exact unhide HD5
                        have HP6 := hide hP6
                        have Q6 : Hid (Only (fun j => j = k1) w2 ((y5.setCell ⟨k1, 25, none⟩ (.bool true)).setCell ⟨k1, 26, none⟩ (.int .i64 t))) := ((unhide QY).here _ _).here _ _
                        clear hP6 hdy HB5 Q5 HD5
                        go_upto_region 20 with fail
                        generalize ((y5.setCell ⟨k1, 25, none⟩ (.bool true)).setCell ⟨k1, 26, none⟩ (.int .i64 t)) = x6 at *
                        clear ca cb fy
                        as_aux_lemma =>
                          clear HBy QY
                          have OWn : Hid (Only (fun _ => False) w x6) := (unhide OW).trans (T := fun j => j = k1) (unhide Q6) (fun j hj e => by omega)
                          have IU : In x6 (revU o 2 msg (true, oa) t) mv nv lv cv := by rw [revU_eq]; exact in_dput (in_revM ((unhide HI).same (unhide OWn)) 2 msg (true, oa) t (unhide HR64) (unhide HOC) (unhide HL) (unhide HT)) 9 (true, t) (unhide HT)
                          have hfin : P6 = revU o 2 msg (true, oa) t := by
                            rw [revU_eq]
                            unfold revM revP
                            rw [if_pos rfl, unhide HWR, unhide HP6, unhide HP5, unhide HP4, unhide HP3, unhide HP2, unhide HP1]
                            rfl
                          have HBF := unhide HB6
                          rw [hfin] at HBF
                          clear hfin
                          have HAPU : Apart (revU o 2 msg (true, oa) t) mv nv lv cv k2 := by
                            have hs := (unhide OW).size
                            have hi := unhide HI
                            have hm : ∀ j, (blk mv = some j ∧ o.mat ≠ [] ∨ blk nv = some j ∧ o.names ≠ [] ∨ blk lv = some j ∧ o.links ≠ [] ∨ blk cv = some j ∧ o.custom ≠ []) → ¬ j = k2 := fun j hj e => by
                              rcases hj with ⟨h, g⟩ | ⟨h, g⟩ | ⟨h, g⟩ | ⟨h, g⟩
                              · have := hi.mat.blk_lt g j h; omega
                              · have := hi.names.lt g j h; omega
                              · have := hi.links.lt g j h; omega
                              · have := hi.custom.lt g j h; omega
                            exact ⟨fun g j h => hm j (Or.inl ⟨h, fun e => g ((revU_same _ _ _ _ _).1.trans e)⟩), fun g j h => hm j (Or.inr (Or.inl ⟨h, fun e => g ((revU_same _ _ _ _ _).2.1.trans e)⟩)), fun g j h => hm j (Or.inr (Or.inr (Or.inl ⟨h, fun e => g ((revU_same _ _ _ _ _).2.2.1.trans e)⟩))), fun g j h => hm j (Or.inr (Or.inr (Or.inr ⟨h, fun e => g ((revU_same _ _ _ _ _).2.2.2.trans e)⟩)))⟩
                          obtain ⟨hth, hfb, hin, hof⟩ := store_var IU HAPU ((unhide HZ).only (unhide Q6) (by show ¬ k2 = k1; omega)) (cs0 := Zo) rfl
                          have HONE := hide IU.one
                          have HR := hide (Bx.whole HBF IU.ten)
                          have HSZB := hide (size_cells (revU o 2 msg (true, oa) t) mv nv lv cv IU.ten)
                          have HSZA := hide (size_cellsA (revU o 2 msg (true, oa) t) mv nv lv cv IU.ten)
                          have HTH := hide hth
                          have HFB := hide hfb
                          have HIN := hide hin
                          have HOF := hide hof
                          obtain ⟨B, hB⟩ : ∃ B, B = cells (revU o 2 msg (true, oa) t) mv nv lv cv := ⟨_, rfl⟩
                          rw [← hB] at HONE HR HSZA HSZB HTH HFB HIN HOF
                          have HBB := hide hB
                          clear hth hfb hin hof IU HAPU hB HBF HB6 Q6 HD6
                          go_wp2_with (first | (refine wpList_load_mid rfl 32 (.tmp 5) rfl k1 0 rfl B dsc (unhide HR) hdu hdr (unhide HSZB) ?_) | (refine wpList_store_mid rfl 32 (.tmp 10) (.tmp 128) rfl k2 0 B.toArray rfl rfl (unhide HTH) (unhide HSZA) (unhide HONE) ?_))
                          refine bodyPost_ret (results_st2 rfl _ _ k2 32 B.toArray rfl (unhide HFB) Tryd.rowObjM (unhide HSZA)) rfl ?_
                          exact ⟨mv, nv, lv, cv, by rw [unhide HE, unhide HBB]; rfl, by rw [unhide HE]; exact unhide HIN, (unhide OWn).trans (T := fun j => j = k2) (unhide HOF) (fun j hj e => by omega), fun k hA => by rw [unhide HE]; exact (⟨fun g j h => hA.mat (fun e => g ((revU_same _ _ _ _ _).1.trans e)) j h, fun g j h => hA.names (fun e => g ((revU_same _ _ _ _ _).2.1.trans e)) j h, fun g j h => hA.links (fun e => g ((revU_same _ _ _ _ _).2.2.1.trans e)) j h, fun g j h => hA.custom (fun e => g ((revU_same _ _ _ _ _).2.2.2.trans e)) j h⟩ : Apart (revU o 2 msg (true, oa) t) mv nv lv cv k)⟩
                | false =>
                  have HE := HE0
                  clear HE0
                  have d0 := (unhide HBK).cell 0 (.bool false) rfl
                  have d1 := (unhide HBK).cell 1 (.int .i64 oa) rfl
                  have hdy := get_date P2 mv nv lv cv (unhide HD2) 6 (by decide)
                  have ca := (unhide HB2).cell 19 _ hdy.1
                  have cb := (unhide HB2).cell 20 _ hdy.2
                  have fy := (unhide HB2).free
                  obtain ⟨P3, hP3⟩ : ∃ P, P = dput P2 6 (false, oa) := ⟨_, rfl⟩
                  have HB3 : Hid (Bx ((x2.setCell ⟨k1, 19, none⟩ (.bool false)).setCell ⟨k1, 20, none⟩ (.int .i64 oa)) k1 32 (cells P3 mv nv lv cv)) := by
                    have h := setCells_blk [.bool false, .int .i64 oa] x2 19 _ (unhide HB2)
                    rw [set_date P2 mv nv lv cv (unhide HD2) 6 (by decide) false oa] at h
                    rw [hP3]
                    exact h
                  have HD3 : Hid (P3.dates.length = 10) := by rw [hP3]; show (List.set _ _ _).length = 10; rw [List.length_set]; exact unhide HD2
                  have HP3 := hide hP3
                  have Q3 : Hid (Only (fun j => j = k1) w2 ((x2.setCell ⟨k1, 19, none⟩ (.bool false)).setCell ⟨k1, 20, none⟩ (.int .i64 oa))) := ((unhide Q2).here _ _).here _ _
                  clear hP3 hdy HB2 Q2 HD2
                  go_upto_region 13 with fail
                  generalize ((x2.setCell ⟨k1, 19, none⟩ (.bool false)).setCell ⟨k1, 20, none⟩ (.int .i64 oa)) = x3 at *
                  clear ca cb fy
                  as_aux_lemma =>
                    clear d0 d1
                    have HBK3 := hide ((unhide HBD).only (unhide Q3) (by show ¬ kd = k1; omega))
                    have d0 := (unhide HBK3).cell 0 (.bool false) rfl
                    go_upto_region 14 with fail
                    clear d0 HBK3
                    have hg := get_date P3 mv nv lv cv (unhide HD3) 0 (by decide)
                    have HG : Hid (P3.dates.getD 0 (false, 0) = dget o 0) := by
                      show dget P3 0 = dget o 0
                      rw [unhide HP3, unhide HP2, unhide HP1, dget_dput _ 6 0 _ (by decide), dget_dput _ 7 0 _ (by decide)]
                      rfl
                    rw [unhide HG] at hg
                    obtain ⟨g1, hg1⟩ : ∃ g, g = (dget o 0).1 := ⟨_, rfl⟩
                    obtain ⟨g2, hg2⟩ : ∃ g, g = (dget o 0).2 := ⟨_, rfl⟩
                    rw [← hg1, ← hg2] at hg
                    have HGG : Hid ((g1, g2) = dget o 0) := by show _ = _; rw [hg1, hg2]
                    have q1 := (unhide HB3).cell 7 _ hg.1
                    have q2 := (unhide HB3).cell 8 _ hg.2
                    clear hg hg1 hg2 HG
                    have hdy := get_date P3 mv nv lv cv (unhide HD3) 6 (by decide)
                    have ca := (unhide HB3).cell 19 _ hdy.1
                    have cb := (unhide HB3).cell 20 _ hdy.2
                    have fy := (unhide HB3).free
                    obtain ⟨P4, hP4⟩ : ∃ P, P = dput P3 6 (g1, g2) := ⟨_, rfl⟩
                    have HB4 : Hid (Bx ((x3.setCell ⟨k1, 19, none⟩ (.bool g1)).setCell ⟨k1, 20, none⟩ (.int .i64 g2)) k1 32 (cells P4 mv nv lv cv)) := by
                      have h := setCells_blk [.bool g1, .int .i64 g2] x3 19 _ (unhide HB3)
                      rw [set_date P3 mv nv lv cv (unhide HD3) 6 (by decide) g1 g2] at h
                      rw [hP4]
                      exact h
                    have HD4 : Hid (P4.dates.length = 10) := by rw [hP4]; show (List.set _ _ _).length = 10; rw [List.length_set]; exact unhide HD3
                    have HP4 := hide hP4
                    have Q4 : Hid (Only (fun j => j = k1) w2 ((x3.setCell ⟨k1, 19, none⟩ (.bool g1)).setCell ⟨k1, 20, none⟩ (.int .i64 g2))) := ((unhide Q3).here _ _).here _ _
                    clear hP4 hdy HB3 Q3 HD3
                    go_upto_region 17 with fail
                    generalize ((x3.setCell ⟨k1, 19, none⟩ (.bool g1)).setCell ⟨k1, 20, none⟩ (.int .i64 g2)) = x4 at *
                    clear ca cb fy
                    as_aux_lemma =>
                      clear q1 q2
                      have cS := (unhide HB4).cell 27 _ (cells_back P4 mv nv lv cv (unhide HD4) 0)
                      have fS := (unhide HB4).free 27
                      obtain ⟨P5, hP5⟩ : ∃ P, P = ({ P4 with reason := 2 } : Ob) := ⟨_, rfl⟩
                      have HB5 : Hid (Bx (x4.setCell ⟨k1, 27, none⟩ (.int .i64 2)) k1 32 (cells P5 mv nv lv cv)) := by
                        have h := (unhide HB4).set 27 ((.int .i64 2))
                        rw [set_reason P4 mv nv lv cv (unhide HD4) 2, ← hP5] at h
                        exact h
                      have HD5 : Hid (P5.dates.length = 10) := by rw [hP5]; exact unhide HD4
                      have HP5 := hide hP5
                      have Q5 : Hid (Only (fun j => j = k1) w2 (x4.setCell ⟨k1, 27, none⟩ (.int .i64 2))) := (unhide Q4).here _ _
                      clear hP5 HB4 Q4 HD4
                      go_upto_region 18 with fail
                      generalize (x4.setCell ⟨k1, 27, none⟩ (.int .i64 2)) = x5 at *
                      clear cS fS
                      as_aux_lemma =>
                        have hsm := set_msg P5 mv nv lv cv (unhide HD5) msg
                        rw [← unhide HMS] at hsm
                        have cS := (unhide HB5).cell 28 _ (cells_back P5 mv nv lv cv (unhide HD5) 1)
                        have fS := (unhide HB5).free 28
                        obtain ⟨P6, hP6⟩ : ∃ P, P = ({ P5 with msg := msg } : Ob) := ⟨_, rfl⟩
                        have HB6 : Hid (Bx (x5.setCell ⟨k1, 28, none⟩ (.string MS)) k1 32 (cells P6 mv nv lv cv)) := by
                          have h := (unhide HB5).set 28 ((.string MS))
                          rw [hsm, ← hP6] at h
                          exact h
                        have HD6 : Hid (P6.dates.length = 10) := by rw [hP6]; exact unhide HD5
                        have HP6 := hide hP6
                        have Q6 : Hid (Only (fun j => j = k1) w2 (x5.setCell ⟨k1, 28, none⟩ (.string MS))) := (unhide Q5).here _ _
                        clear hP6 HB5 Q5 HD5
                        go_upto_region 19 with fail
                        generalize (x5.setCell ⟨k1, 28, none⟩ (.string MS)) = x6 at *
                        clear cS fS
                        as_aux_lemma =>
                          have HON := hide (rdate_any t x6)
                          go_wp2_with fail
                          refine (unhide HON).mono ?_
                          rintro e y6 ⟨rfl, oy⟩
                          have HBy := hide ((unhide HB6).same oy)
                          have QY := hide ((unhide Q6).trans oy (fun _ _ e => e.elim))
                          clear oy HON
                          have hdy := get_date P6 mv nv lv cv (unhide HD6) 9 (by decide)
                          have ca := (unhide HBy).cell 25 _ hdy.1
                          have cb := (unhide HBy).cell 26 _ hdy.2
                          have fy := (unhide HBy).free
                          obtain ⟨P7, hP7⟩ : ∃ P, P = dput P6 9 (true, t) := ⟨_, rfl⟩
                          have HB7 : Hid (Bx ((y6.setCell ⟨k1, 25, none⟩ (.bool true)).setCell ⟨k1, 26, none⟩ (.int .i64 t)) k1 32 (cells P7 mv nv lv cv)) := by
                            have h := setCells_blk [.bool true, .int .i64 t] y6 25 _ (unhide HBy)
                            rw [set_date P6 mv nv lv cv (unhide HD6) 9 (by decide) true t] at h
                            rw [hP7]
                            exact h
                          have HD7 : Hid (P7.dates.length = 10) := by rw [hP7]; show (List.set _ _ _).length = 10; rw [List.length_set]; exact unhide HD6
                          have HP7 := hide hP7
                          have Q7 : Hid (Only (fun j => j = k1) w2 ((y6.setCell ⟨k1, 25, none⟩ (.bool true)).setCell ⟨k1, 26, none⟩ (.int .i64 t))) := ((unhide QY).here _ _).here _ _
                          clear hP7 hdy HB6 Q6 HD6
                          go_upto_region 20 with fail
                          generalize ((y6.setCell ⟨k1, 25, none⟩ (.bool true)).setCell ⟨k1, 26, none⟩ (.int .i64 t)) = x7 at *
                          clear ca cb fy
                          as_aux_lemma =>
                            clear HBy QY
                            have OWn : Hid (Only (fun _ => False) w x7) := (unhide OW).trans (T := fun j => j = k1) (unhide Q7) (fun j hj e => by omega)
                            have IU : In x7 (revU o 2 msg (false, oa) t) mv nv lv cv := by rw [revU_eq]; exact in_dput (in_revM ((unhide HI).same (unhide OWn)) 2 msg (false, oa) t (unhide HR64) (unhide HOC) (unhide HL) (unhide HT)) 9 (true, t) (unhide HT)
                            have hfin : P7 = revU o 2 msg (false, oa) t := by
                              rw [revU_eq]
                              unfold revM revP
                              rw [if_pos rfl, unhide HWR, if_neg (show ¬ (false, oa).fst = true from Bool.false_ne_true), ← unhide HGG, unhide HP7, unhide HP6, unhide HP5, unhide HP4, unhide HP3, dput_again, unhide HP2, unhide HP1]
                              rfl
                            have HBF := unhide HB7
                            rw [hfin] at HBF
                            clear hfin
                            have HAPU : Apart (revU o 2 msg (false, oa) t) mv nv lv cv k2 := by
                              have hs := (unhide OW).size
                              have hi := unhide HI
                              have hm : ∀ j, (blk mv = some j ∧ o.mat ≠ [] ∨ blk nv = some j ∧ o.names ≠ [] ∨ blk lv = some j ∧ o.links ≠ [] ∨ blk cv = some j ∧ o.custom ≠ []) → ¬ j = k2 := fun j hj e => by
                                rcases hj with ⟨h, g⟩ | ⟨h, g⟩ | ⟨h, g⟩ | ⟨h, g⟩
                                · have := hi.mat.blk_lt g j h; omega
                                · have := hi.names.lt g j h; omega
                                · have := hi.links.lt g j h; omega
                                · have := hi.custom.lt g j h; omega
                              exact ⟨fun g j h => hm j (Or.inl ⟨h, fun e => g ((revU_same _ _ _ _ _).1.trans e)⟩), fun g j h => hm j (Or.inr (Or.inl ⟨h, fun e => g ((revU_same _ _ _ _ _).2.1.trans e)⟩)), fun g j h => hm j (Or.inr (Or.inr (Or.inl ⟨h, fun e => g ((revU_same _ _ _ _ _).2.2.1.trans e)⟩))), fun g j h => hm j (Or.inr (Or.inr (Or.inr ⟨h, fun e => g ((revU_same _ _ _ _ _).2.2.2.trans e)⟩)))⟩
                            obtain ⟨hth, hfb, hin, hof⟩ := store_var IU HAPU ((unhide HZ).only (unhide Q7) (by show ¬ k2 = k1; omega)) (cs0 := Zo) rfl
                            have HONE := hide IU.one
                            have HR := hide (Bx.whole HBF IU.ten)
                            have HSZB := hide (size_cells (revU o 2 msg (false, oa) t) mv nv lv cv IU.ten)
                            have HSZA := hide (size_cellsA (revU o 2 msg (false, oa) t) mv nv lv cv IU.ten)
                            have HTH := hide hth
                            have HFB := hide hfb
                            have HIN := hide hin
                            have HOF := hide hof
                            obtain ⟨B, hB⟩ : ∃ B, B = cells (revU o 2 msg (false, oa) t) mv nv lv cv := ⟨_, rfl⟩
                            rw [← hB] at HONE HR HSZA HSZB HTH HFB HIN HOF
                            have HBB := hide hB
                            clear hth hfb hin hof IU HAPU hB HBF HB7 Q7 HD7
                            go_wp2_with (first | (refine wpList_load_mid rfl 32 (.tmp 5) rfl k1 0 rfl B dsc (unhide HR) hdu hdr (unhide HSZB) ?_) | (refine wpList_store_mid rfl 32 (.tmp 10) (.tmp 128) rfl k2 0 B.toArray rfl rfl (unhide HTH) (unhide HSZA) (unhide HONE) ?_))
                            refine bodyPost_ret (results_st2 rfl _ _ k2 32 B.toArray rfl (unhide HFB) Tryd.rowObjM (unhide HSZA)) rfl ?_
                            exact ⟨mv, nv, lv, cv, by rw [unhide HE, unhide HBB]; rfl, by rw [unhide HE]; exact unhide HIN, (unhide OWn).trans (T := fun j => j = k2) (unhide HOF) (fun j hj e => by omega), fun k hA => by rw [unhide HE]; exact (⟨fun g j h => hA.mat (fun e => g ((revU_same _ _ _ _ _).1.trans e)) j h, fun g j h => hA.names (fun e => g ((revU_same _ _ _ _ _).2.1.trans e)) j h, fun g j h => hA.links (fun e => g ((revU_same _ _ _ _ _).2.2.1.trans e)) j h, fun g j h => hA.custom (fun e => g ((revU_same _ _ _ _ _).2.2.2.trans e)) j h⟩ : Apart (revU o 2 msg (false, oa) t) mv nv lv cv k)⟩
        · as_aux_lemma =>
            have HE : Hid (revE o r msg (oh, oa) t = 11) := by
              show _ = _
              unfold revE whenR
              rw [hb, ha, hst, if_neg hr]
              rfl
            clear hb ha hst
            have HNO := hide (no_any 11 x0)
            go_wp2_with fail
            refine (unhide HNO).mono ?_
            rintro e y ⟨rfl, oy⟩
            have hzy := ((unhide HZ).only (unhide Q0) (by show ¬ k2 = k1; omega)).same oy
            obtain ⟨hth, hfb, hin, hof⟩ := fin37 (in_zero y) (fun j hj => by simp [blk] at hj) hzy (cs0 := Zo) rfl
            rw [← zo_cells] at hth hfb hin hof
            have OF : Hid (Only (fun _ => False) w (y.setCells k2 0 Zo)) := (((unhide OW).trans (T := fun j => j = k1) (unhide Q0) (fun j hj e => by omega)).trans oy (fun _ _ e => e)).trans (T := fun j => j = k2) hof (fun j hj e => by omega)
            have HTH := hide hth
            have HFB := hide hfb
            have HIN := hide hin
            clear hth hfb hin hof hzy oy HNO
            go_wp2_with (refine wpList_store_mid rfl 32 (.tmp 10) (.tmp 91) rfl k2 0 Zo.toArray rfl rfl (unhide HTH) Tryd.sizeObj zo_one ?_)
            refine bodyPost_ret (results_st2 rfl _ _ k2 32 Zo.toArray rfl (unhide HFB) Tryd.rowObjM Tryd.sizeObj) rfl ?_
            exact ⟨.slice none 0 0, .slice none 0 0, .slice none 0 0, .slice none 0 0, by rw [unhide HE]; rfl, by rw [unhide HE]; exact unhide HIN, unhide OF, fun k _ => by rw [unhide HE]; exact (⟨fun g => absurd rfl g, fun g => absurd rfl g, fun g => absurd rfl g, fun g => absurd rfl g⟩ : Apart zero _ _ _ _ k)⟩
      · rw [hst] at c6
        by_cases hr : r = 2
        · as_aux_lemma =>
            subst hr
            have HWR : Hid (whenR o 2 = 4) := by show _ = _; unfold whenR; rw [if_pos rfl, hst]; rfl
            have HE0 : Hid (revE o 2 msg (oh, oa) t = 0) := by show _ = _; unfold revE; rw [hb, ha, unhide HWR, hst]; rfl
            clear hb ha hst
            go_upto_region 10 with fail
            clear ca c6
            have cS := (unhide HB0).cell 6 _ (cell_state o mv nv lv cv)
            have fS := (unhide HB0).free 6
            obtain ⟨P1, hP1⟩ : ∃ P, P = ({ o with state := 4 } : Ob) := ⟨_, rfl⟩
            have HB1 : Hid (Bx (x0.setCell ⟨k1, 6, none⟩ (.int .i64 4)) k1 32 (cells P1 mv nv lv cv)) := by
              have h := (unhide HB0).set 6 ((.int .i64 4))
              rw [set_state o mv nv lv cv (unhide HD0) 4, ← hP1] at h
              exact h
            have HD1 : Hid (P1.dates.length = 10) := by rw [hP1]; exact unhide HD0
            have HP1 := hide hP1
            have Q1 : Hid (Only (fun j => j = k1) w2 (x0.setCell ⟨k1, 6, none⟩ (.int .i64 4))) := (unhide Q0).here _ _
            clear hP1 HB0 Q0 HD0
            go_upto_region 11 with fail
            generalize (x0.setCell ⟨k1, 6, none⟩ (.int .i64 4)) = x1 at *
            clear cS fS
            as_aux_lemma =>
              have HON := hide (rdate_any t x1)
              go_wp2_with fail
              refine (unhide HON).mono ?_
              rintro e y1 ⟨rfl, oy⟩
              have HBy := hide ((unhide HB1).same oy)
              have QY := hide ((unhide Q1).trans oy (fun _ _ e => e.elim))
              clear oy HON
              have hdy := get_date P1 mv nv lv cv (unhide HD1) 7 (by decide)
              have ca := (unhide HBy).cell 21 _ hdy.1
              have cb := (unhide HBy).cell 22 _ hdy.2
              have fy := (unhide HBy).free
              obtain ⟨P2, hP2⟩ : ∃ P, P = dput P1 7 (true, t) := ⟨_, rfl⟩
              have HB2 : Hid (Bx ((y1.setCell ⟨k1, 21, none⟩ (.bool true)).setCell ⟨k1, 22, none⟩ (.int .i64 t)) k1 32 (cells P2 mv nv lv cv)) := by
                have h := setCells_blk [.bool true, .int .i64 t] y1 21 _ (unhide HBy)
                rw [set_date P1 mv nv lv cv (unhide HD1) 7 (by decide) true t] at h
                rw [hP2]
                exact h
              have HD2 : Hid (P2.dates.length = 10) := by rw [hP2]; show (List.set _ _ _).length = 10; rw [List.length_set]; exact unhide HD1
              have HP2 := hide hP2
              have Q2 : Hid (Only (fun j => j = k1) w2 ((y1.setCell ⟨k1, 21, none⟩ (.bool true)).setCell ⟨k1, 22, none⟩ (.int .i64 t))) := ((unhide QY).here _ _).here _ _
              clear hP2 hdy HB1 Q1 HD1
              go_upto_region 12 with fail
              generalize ((y1.setCell ⟨k1, 21, none⟩ (.bool true)).setCell ⟨k1, 22, none⟩ (.int .i64 t)) = x2 at *
              clear ca cb fy
              as_aux_lemma =>
                clear HBy QY
                have HBK := hide ((unhide HBD).only (unhide Q2) (by show ¬ kd = k1; omega))
                cases oh with
                | true =>
                  have HE := HE0
                  clear HE0
                  have d0 := (unhide HBK).cell 0 (.bool true) rfl
                  have d1 := (unhide HBK).cell 1 (.int .i64 oa) rfl
                  have hdy := get_date P2 mv nv lv cv (unhide HD2) 6 (by decide)
                  have ca := (unhide HB2).cell 19 _ hdy.1
                  have cb := (unhide HB2).cell 20 _ hdy.2
                  have fy := (unhide HB2).free
                  obtain ⟨P3, hP3⟩ : ∃ P, P = dput P2 6 (true, oa) := ⟨_, rfl⟩
                  have HB3 : Hid (Bx ((x2.setCell ⟨k1, 19, none⟩ (.bool true)).setCell ⟨k1, 20, none⟩ (.int .i64 oa)) k1 32 (cells P3 mv nv lv cv)) := by
                    have h := setCells_blk [.bool true, .int .i64 oa] x2 19 _ (unhide HB2)
                    rw [set_date P2 mv nv lv cv (unhide HD2) 6 (by decide) true oa] at h
                    rw [hP3]
                    exact h
                  have HD3 : Hid (P3.dates.length = 10) := by rw [hP3]; show (List.set _ _ _).length = 10; rw [List.length_set]; exact unhide HD2
                  have HP3 := hide hP3
                  have Q3 : Hid (Only (fun j => j = k1) w2 ((x2.setCell ⟨k1, 19, none⟩ (.bool true)).setCell ⟨k1, 20, none⟩ (.int .i64 oa))) := ((unhide Q2).here _ _).here _ _
                  clear hP3 hdy HB2 Q2 HD2
                  go_upto_region 13 with fail
                  generalize ((x2.setCell ⟨k1, 19, none⟩ (.bool true)).setCell ⟨k1, 20, none⟩ (.int .i64 oa)) = x3 at *
                  clear ca cb fy
                  as_aux_lemma =>
                    clear d0 d1
                    have HBK3 := hide ((unhide HBD).only (unhide Q3) (by show ¬ kd = k1; omega))
                    have d0 := (unhide HBK3).cell 0 (.bool true) rfl
                    go_upto_region 17 with fail
                    clear d0 HBK3
                    have cS := (unhide HB3).cell 27 _ (cells_back P3 mv nv lv cv (unhide HD3) 0)
                    have fS := (unhide HB3).free 27
                    obtain ⟨P4, hP4⟩ : ∃ P, P = ({ P3 with reason := 2 } : Ob) := ⟨_, rfl⟩
                    have HB4 : Hid (Bx (x3.setCell ⟨k1, 27, none⟩ (.int .i64 2)) k1 32 (cells P4 mv nv lv cv)) := by
                      have h := (unhide HB3).set 27 ((.int .i64 2))
                      rw [set_reason P3 mv nv lv cv (unhide HD3) 2, ← hP4] at h
                      exact h
                    have HD4 : Hid (P4.dates.length = 10) := by rw [hP4]; exact unhide HD3
                    have HP4 := hide hP4
                    have Q4 : Hid (Only (fun j => j = k1) w2 (x3.setCell ⟨k1, 27, none⟩ (.int .i64 2))) := (unhide Q3).here _ _
                    clear hP4 HB3 Q3 HD3
                    go_upto_region 18 with fail
                    generalize (x3.setCell ⟨k1, 27, none⟩ (.int .i64 2)) = x4 at *
                    clear cS fS
                    as_aux_lemma =>
                      have hsm := set_msg P4 mv nv lv cv (unhide HD4) msg
                      rw [← unhide HMS] at hsm
                      have cS := (unhide HB4).cell 28 _ (cells_back P4 mv nv lv cv (unhide HD4) 1)
                      have fS := (unhide HB4).free 28
                      obtain ⟨P5, hP5⟩ : ∃ P, P = ({ P4 with msg := msg } : Ob) := ⟨_, rfl⟩
                      have HB5 : Hid (Bx (x4.setCell ⟨k1, 28, none⟩ (.string MS)) k1 32 (cells P5 mv nv lv cv)) := by
                        have h := (unhide HB4).set 28 ((.string MS))
                        rw [hsm, ← hP5] at h
                        exact h
                      have HD5 : Hid (P5.dates.length = 10) := by rw [hP5]; exact unhide HD4
                      have HP5 := hide hP5
                      have Q5 : Hid (Only (fun j => j = k1) w2 (x4.setCell ⟨k1, 28, none⟩ (.string MS))) := (unhide Q4).here _ _
                      clear hP5 HB4 Q4 HD4
                      go_upto_region 19 with fail
                      generalize (x4.setCell ⟨k1, 28, none⟩ (.string MS)) = x5 at *
                      clear cS fS
                      as_aux_lemma =>
                        have HON := hide (rdate_any t x5)
                        go_wp2_with fail
                        refine (unhide HON).mono ?_
                        rintro e y5 ⟨rfl, oy⟩
                        have HBy := hide ((unhide HB5).same oy)
                        have QY := hide ((unhide Q5).trans oy (fun _ _ e => e.elim))
                        clear oy HON
                        have hdy := get_date P5 mv nv lv cv (unhide HD5) 9 (by decide)
                        have ca := (unhide HBy).cell 25 _ hdy.1
                        have cb := (unhide HBy).cell 26 _ hdy.2
                        have fy := (unhide HBy).free
                        obtain ⟨P6, hP6⟩ : ∃ P, P = dput P5 9 (true, t) := ⟨_, rfl⟩
                        have HB6 : Hid (Bx ((y5.setCell ⟨k1, 25, none⟩ (.bool true)).setCell ⟨k1, 26, none⟩ (.int .i64 t)) k1 32 (cells P6 mv nv lv cv)) := by
                          have h := setCells_blk [.bool true, .int .i64 t] y5 25 _ (unhide HBy)
                          rw [set_date P5 mv nv lv cv (unhide HD5) 9 (by decide) true t] at h
                          rw [hP6]
                          exact h
                        have HD6 : Hid (P6.dates.length = 10) := by rw [hP6]; show (List.set _ _ _).length = 10; rw [List.length_set]; exact unhide HD5
                        have HP6 := hide hP6
                        have Q6 : Hid (Only (fun j => j = k1) w2 ((y5.setCell ⟨k1, 25, none⟩ (.bool true)).setCell ⟨k1, 26, none⟩ (.int .i64 t))) := ((unhide QY).here _ _).here _ _
                        clear hP6 hdy HB5 Q5 HD5
                        go_upto_region 20 with fail
                        generalize ((y5.setCell ⟨k1, 25, none⟩ (.bool true)).setCell ⟨k1, 26, none⟩ (.int .i64 t)) = x6 at *
                        clear ca cb fy
                        as_aux_lemma =>
                          clear HBy QY
                          have OWn : Hid (Only (fun _ => False) w x6) := (unhide OW).trans (T := fun j => j = k1) (unhide Q6) (fun j hj e => by omega)
                          have IU : In x6 (revU o 2 msg (true, oa) t) mv nv lv cv := by rw [revU_eq]; exact in_dput (in_revM ((unhide HI).same (unhide OWn)) 2 msg (true, oa) t (unhide HR64) (unhide HOC) (unhide HL) (unhide HT)) 9 (true, t) (unhide HT)
                          have hfin : P6 = revU o 2 msg (true, oa) t := by
                            rw [revU_eq]
                            unfold revM revP
                            rw [if_pos rfl, unhide HWR, unhide HP6, unhide HP5, unhide HP4, unhide HP3, unhide HP2, unhide HP1]
                            rfl
                          have HBF := unhide HB6
                          rw [hfin] at HBF
                          clear hfin
                          have HAPU : Apart (revU o 2 msg (true, oa) t) mv nv lv cv k2 := by
                            have hs := (unhide OW).size
                            have hi := unhide HI
                            have hm : ∀ j, (blk mv = some j ∧ o.mat ≠ [] ∨ blk nv = some j ∧ o.names ≠ [] ∨ blk lv = some j ∧ o.links ≠ [] ∨ blk cv = some j ∧ o.custom ≠ []) → ¬ j = k2 := fun j hj e => by
                              rcases hj with ⟨h, g⟩ | ⟨h, g⟩ | ⟨h, g⟩ | ⟨h, g⟩
                              · have := hi.mat.blk_lt g j h; omega
                              · have := hi.names.lt g j h; omega
                              · have := hi.links.lt g j h; omega
                              · have := hi.custom.lt g j h; omega
                            exact ⟨fun g j h => hm j (Or.inl ⟨h, fun e => g ((revU_same _ _ _ _ _).1.trans e)⟩), fun g j h => hm j (Or.inr (Or.inl ⟨h, fun e => g ((revU_same _ _ _ _ _).2.1.trans e)⟩)), fun g j h => hm j (Or.inr (Or.inr (Or.inl ⟨h, fun e => g ((revU_same _ _ _ _ _).2.2.1.trans e)⟩))), fun g j h => hm j (Or.inr (Or.inr (Or.inr ⟨h, fun e => g ((revU_same _ _ _ _ _).2.2.2.trans e)⟩)))⟩
                          obtain ⟨hth, hfb, hin, hof⟩ := store_var IU HAPU ((unhide HZ).only (unhide Q6) (by show ¬ k2 = k1; omega)) (cs0 := Zo) rfl
                          have HONE := hide IU.one
                          have HR := hide (Bx.whole HBF IU.ten)
                          have HSZB := hide (size_cells (revU o 2 msg (true, oa) t) mv nv lv cv IU.ten)
                          have HSZA := hide (size_cellsA (revU o 2 msg (true, oa) t) mv nv lv cv IU.ten)
                          have HTH := hide hth
                          have HFB := hide hfb
                          have HIN := hide hin
                          have HOF := hide hof
                          obtain ⟨B, hB⟩ : ∃ B, B = cells (revU o 2 msg (true, oa) t) mv nv lv cv := ⟨_, rfl⟩
                          rw [← hB] at HONE HR HSZA HSZB HTH HFB HIN HOF
                          have HBB := hide hB
                          clear hth hfb hin hof IU HAPU hB HBF HB6 Q6 HD6
                          go_wp2_with (first | (refine wpList_load_mid rfl 32 (.tmp 5) rfl k1 0 rfl B dsc (unhide HR) hdu hdr (unhide HSZB) ?_) | (refine wpList_store_mid rfl 32 (.tmp 10) (.tmp 128) rfl k2 0 B.toArray rfl rfl (unhide HTH) (unhide HSZA) (unhide HONE) ?_))
                          refine bodyPost_ret (results_st2 rfl _ _ k2 32 B.toArray rfl (unhide HFB) Tryd.rowObjM (unhide HSZA)) rfl ?_
                          exact ⟨mv, nv, lv, cv, by rw [unhide HE, unhide HBB]; rfl, by rw [unhide HE]; exact unhide HIN, (unhide OWn).trans (T := fun j => j = k2) (unhide HOF) (fun j hj e => by omega), fun k hA => by rw [unhide HE]; exact (⟨fun g j h => hA.mat (fun e => g ((revU_same _ _ _ _ _).1.trans e)) j h, fun g j h => hA.names (fun e => g ((revU_same _ _ _ _ _).2.1.trans e)) j h, fun g j h => hA.links (fun e => g ((revU_same _ _ _ _ _).2.2.1.trans e)) j h, fun g j h => hA.custom (fun e => g ((revU_same _ _ _ _ _).2.2.2.trans e)) j h⟩ : Apart (revU o 2 msg (true, oa) t) mv nv lv cv k)⟩
                | false =>
                  have HE := HE0
                  clear HE0
                  have d0 := (unhide HBK).cell 0 (.bool false) rfl
                  have d1 := (unhide HBK).cell 1 (.int .i64 oa) rfl
                  have hdy := get_date P2 mv nv lv cv (unhide HD2) 6 (by decide)
                  have ca := (unhide HB2).cell 19 _ hdy.1
                  have cb := (unhide HB2).cell 20 _ hdy.2
                  have fy := (unhide HB2).free
                  obtain ⟨P3, hP3⟩ : ∃ P, P = dput P2 6 (false, oa) := ⟨_, rfl⟩
                  have HB3 : Hid (Bx ((x2.setCell ⟨k1, 19, none⟩ (.bool false)).setCell ⟨k1, 20, none⟩ (.int .i64 oa)) k1 32 (cells P3 mv nv lv cv)) := by
                    have h := setCells_blk [.bool false, .int .i64 oa] x2 19 _ (unhide HB2)
                    rw [set_date P2 mv nv lv cv (unhide HD2) 6 (by decide) false oa] at h
                    rw [hP3]
                    exact h
                  have HD3 : Hid (P3.dates.length = 10) := by rw [hP3]; show (List.set _ _ _).length = 10; rw [List.length_set]; exact unhide HD2
                  have HP3 := hide hP3
                  have Q3 : Hid (Only (fun j => j = k1) w2 ((x2.setCell ⟨k1, 19, none⟩ (.bool false)).setCell ⟨k1, 20, none⟩ (.int .i64 oa))) := ((unhide Q2).here _ _).here _ _
                  clear hP3 hdy HB2 Q2 HD2
                  go_upto_region 13 with fail
                  generalize ((x2.setCell ⟨k1, 19, none⟩ (.bool false)).setCell ⟨k1, 20, none⟩ (.int .i64 oa)) = x3 at *
                  clear ca cb fy
                  as_aux_lemma =>
                    clear d0 d1
                    have HBK3 := hide ((unhide HBD).only (unhide Q3) (by show ¬ kd = k1; omega))
                    have d0 := (unhide HBK3).cell 0 (.bool false) rfl
                    go_upto_region 14 with fail
                    clear d0 HBK3
                    have hg := get_date P3 mv nv lv cv (unhide HD3) 0 (by decide)
                    have HG : Hid (P3.dates.getD 0 (false, 0) = dget o 0) := by
                      show dget P3 0 = dget o 0
                      rw [unhide HP3, unhide HP2, unhide HP1, dget_dput _ 6 0 _ (by decide), dget_dput _ 7 0 _ (by decide)]
                      rfl
                    rw [unhide HG] at hg
                    obtain ⟨g1, hg1⟩ : ∃ g, g = (dget o 0).1 := ⟨_, rfl⟩
                    obtain ⟨g2, hg2⟩ : ∃ g, g = (dget o 0).2 := ⟨_, rfl⟩
                    rw [← hg1, ← hg2] at hg
                    have HGG : Hid ((g1, g2) = dget o 0) := by show _ = _; rw [hg1, hg2]
                    have q1 := (unhide HB3).cell 7 _ hg.1
                    have q2 := (unhide HB3).cell 8 _ hg.2
                    clear hg hg1 hg2 HG
                    have hdy := get_date P3 mv nv lv cv (unhide HD3) 6 (by decide)
                    have ca := (unhide HB3).cell 19 _ hdy.1
                    have cb := (unhide HB3).cell 20 _ hdy.2
                    have fy := (unhide HB3).free
                    obtain ⟨P4, hP4⟩ : ∃ P, P = dput P3 6 (g1, g2) := ⟨_, rfl⟩
                    have HB4 : Hid (Bx ((x3.setCell ⟨k1, 19, none⟩ (.bool g1)).setCell ⟨k1, 20, none⟩ (.int .i64 g2)) k1 32 (cells P4 mv nv lv cv)) := by
                      have h := setCells_blk [.bool g1, .int .i64 g2] x3 19 _ (unhide HB3)
                      rw [set_date P3 mv nv lv cv (unhide HD3) 6 (by decide) g1 g2] at h
                      rw [hP4]
                      exact h
                    have HD4 : Hid (P4.dates.length = 10) := by rw [hP4]; show (List.set _ _ _).length = 10; rw [List.length_set]; exact unhide HD3
                    have HP4 := hide hP4
                    have Q4 : Hid (Only (fun j => j = k1) w2 ((x3.setCell ⟨k1, 19, none⟩ (.bool g1)).setCell ⟨k1, 20, none⟩ (.int .i64 g2))) := ((unhide Q3).here _ _).here _ _
                    clear hP4 hdy HB3 Q3 HD3
                    go_upto_region 17 with fail
                    generalize ((x3.setCell ⟨k1, 19, none⟩ (.bool g1)).setCell ⟨k1, 20, none⟩ (.int .i64 g2)) = x4 at *
                    clear ca cb fy
                    as_aux_lemma =>
                      clear q1 q2
                      have cS := (unhide HB4).cell 27 _ (cells_back P4 mv nv lv cv (unhide HD4) 0)
                      have fS := (unhide HB4).free 27
                      obtain ⟨P5, hP5⟩ : ∃ P, P = ({ P4 with reason := 2 } : Ob) := ⟨_, rfl⟩
                      have HB5 : Hid (Bx (x4.setCell ⟨k1, 27, none⟩ (.int .i64 2)) k1 32 (cells P5 mv nv lv cv)) := by
                        have h := (unhide HB4).set 27 ((.int .i64 2))
                        rw [set_reason P4 mv nv lv cv (unhide HD4) 2, ← hP5] at h
                        exact h
                      have HD5 : Hid (P5.dates.length = 10) := by rw [hP5]; exact unhide HD4
                      have HP5 := hide hP5
                      have Q5 : Hid (Only (fun j => j = k1) w2 (x4.setCell ⟨k1, 27, none⟩ (.int .i64 2))) := (unhide Q4).here _ _
                      clear hP5 HB4 Q4 HD4
                      go_upto_region 18 with fail
                      generalize (x4.setCell ⟨k1, 27, none⟩ (.int .i64 2)) = x5 at *
                      clear cS fS
                      as_aux_lemma =>
                        have hsm := set_msg P5 mv nv lv cv (unhide HD5) msg
                        rw [← unhide HMS] at hsm
                        have cS := (unhide HB5).cell 28 _ (cells_back P5 mv nv lv cv (unhide HD5) 1)
                        have fS := (unhide HB5).free 28
                        obtain ⟨P6, hP6⟩ : ∃ P, P = ({ P5 with msg := msg } : Ob) := ⟨_, rfl⟩
                        have HB6 : Hid (Bx (x5.setCell ⟨k1, 28, none⟩ (.string MS)) k1 32 (cells P6 mv nv lv cv)) := by
                          have h := (unhide HB5).set 28 ((.string MS))
                          rw [hsm, ← hP6] at h
                          exact h
                        have HD6 : Hid (P6.dates.length = 10) := by rw [hP6]; exact unhide HD5
                        have HP6 := hide hP6
                        have Q6 : Hid (Only (fun j => j = k1) w2 (x5.setCell ⟨k1, 28, none⟩ (.string MS))) := (unhide Q5).here _ _
                        clear hP6 HB5 Q5 HD5
                        go_upto_region 19 with fail
                        generalize (x5.setCell ⟨k1, 28, none⟩ (.string MS)) = x6 at *
                        clear cS fS
                        as_aux_lemma =>
                          have HON := hide (rdate_any t x6)
                          go_wp2_with fail
                          refine (unhide HON).mono ?_
                          rintro e y6 ⟨rfl, oy⟩
                          have HBy := hide ((unhide HB6).same oy)
                          have QY := hide ((unhide Q6).trans oy (fun _ _ e => e.elim))
                          clear oy HON
                          have hdy := get_date P6 mv nv lv cv (unhide HD6) 9 (by decide)
                          have ca := (unhide HBy).cell 25 _ hdy.1
                          have cb := (unhide HBy).cell 26 _ hdy.2
                          have fy := (unhide HBy).free
                          obtain ⟨P7, hP7⟩ : ∃ P, P = dput P6 9 (true, t) := ⟨_, rfl⟩
                          have HB7 : Hid (Bx ((y6.setCell ⟨k1, 25, none⟩ (.bool true)).setCell ⟨k1, 26, none⟩ (.int .i64 t)) k1 32 (cells P7 mv nv lv cv)) := by
                            have h := setCells_blk [.bool true, .int .i64 t] y6 25 _ (unhide HBy)
                            rw [set_date P6 mv nv lv cv (unhide HD6) 9 (by decide) true t] at h
                            rw [hP7]
                            exact h
                          have HD7 : Hid (P7.dates.length = 10) := by rw [hP7]; show (List.set _ _ _).length = 10; rw [List.length_set]; exact unhide HD6
                          have HP7 := hide hP7
                          have Q7 : Hid (Only (fun j => j = k1) w2 ((y6.setCell ⟨k1, 25, none⟩ (.bool true)).setCell ⟨k1, 26, none⟩ (.int .i64 t))) := ((unhide QY).here _ _).here _ _
                          clear hP7 hdy HB6 Q6 HD6
                          go_upto_region 20 with fail
                          generalize ((y6.setCell ⟨k1, 25, none⟩ (.bool true)).setCell ⟨k1, 26, none⟩ (.int .i64 t)) = x7 at *
                          clear ca cb fy
                          as_aux_lemma =>
                            clear HBy QY
                            have OWn : Hid (Only (fun _ => False) w x7) := (unhide OW).trans (T := fun j => j = k1) (unhide Q7) (fun j hj e => by omega)
                            have IU : In x7 (revU o 2 msg (false, oa) t) mv nv lv cv := by rw [revU_eq]; exact in_dput (in_revM ((unhide HI).same (unhide OWn)) 2 msg (false, oa) t (unhide HR64) (unhide HOC) (unhide HL) (unhide HT)) 9 (true, t) (unhide HT)
                            have hfin : P7 = revU o 2 msg (false, oa) t := by
                              rw [revU_eq]
                              unfold revM revP
                              rw [if_pos rfl, unhide HWR, if_neg (show ¬ (false, oa).fst = true from Bool.false_ne_true), ← unhide HGG, unhide HP7, unhide HP6, unhide HP5, unhide HP4, unhide HP3, dput_again, unhide HP2, unhide HP1]
                              rfl
                            have HBF := unhide HB7
                            rw [hfin] at HBF
                            clear hfin
                            have HAPU : Apart (revU o 2 msg (false, oa) t) mv nv lv cv k2 := by
                              have hs := (unhide OW).size
                              have hi := unhide HI
                              have hm : ∀ j, (blk mv = some j ∧ o.mat ≠ [] ∨ blk nv = some j ∧ o.names ≠ [] ∨ blk lv = some j ∧ o.links ≠ [] ∨ blk cv = some j ∧ o.custom ≠ []) → ¬ j = k2 := fun j hj e => by
                                rcases hj with ⟨h, g⟩ | ⟨h, g⟩ | ⟨h, g⟩ | ⟨h, g⟩
                                · have := hi.mat.blk_lt g j h; omega
                                · have := hi.names.lt g j h; omega
                                · have := hi.links.lt g j h; omega
                                · have := hi.custom.lt g j h; omega
                              exact ⟨fun g j h => hm j (Or.inl ⟨h, fun e => g ((revU_same _ _ _ _ _).1.trans e)⟩), fun g j h => hm j (Or.inr (Or.inl ⟨h, fun e => g ((revU_same _ _ _ _ _).2.1.trans e)⟩)), fun g j h => hm j (Or.inr (Or.inr (Or.inl ⟨h, fun e => g ((revU_same _ _ _ _ _).2.2.1.trans e)⟩))), fun g j h => hm j (Or.inr (Or.inr (Or.inr ⟨h, fun e => g ((revU_same _ _ _ _ _).2.2.2.trans e)⟩)))⟩
                            obtain ⟨hth, hfb, hin, hof⟩ := store_var IU HAPU ((unhide HZ).only (unhide Q7) (by show ¬ k2 = k1; omega)) (cs0 := Zo) rfl
                            have HONE := hide IU.one
                            have HR := hide (Bx.whole HBF IU.ten)
                            have HSZB := hide (size_cells (revU o 2 msg (false, oa) t) mv nv lv cv IU.ten)
                            have HSZA := hide (size_cellsA (revU o 2 msg (false, oa) t) mv nv lv cv IU.ten)
                            have HTH := hide hth
                            have HFB := hide hfb
                            have HIN := hide hin
                            have HOF := hide hof
                            obtain ⟨B, hB⟩ : ∃ B, B = cells (revU o 2 msg (false, oa) t) mv nv lv cv := ⟨_, rfl⟩
                            rw [← hB] at HONE HR HSZA HSZB HTH HFB HIN HOF
                            have HBB := hide hB
                            clear hth hfb hin hof IU HAPU hB HBF HB7 Q7 HD7
                            go_wp2_with (first | (refine wpList_load_mid rfl 32 (.tmp 5) rfl k1 0 rfl B dsc (unhide HR) hdu hdr (unhide HSZB) ?_) | (refine wpList_store_mid rfl 32 (.tmp 10) (.tmp 128) rfl k2 0 B.toArray rfl rfl (unhide HTH) (unhide HSZA) (unhide HONE) ?_))
                            refine bodyPost_ret (results_st2 rfl _ _ k2 32 B.toArray rfl (unhide HFB) Tryd.rowObjM (unhide HSZA)) rfl ?_
                            exact ⟨mv, nv, lv, cv, by rw [unhide HE, unhide HBB]; rfl, by rw [unhide HE]; exact unhide HIN, (unhide OWn).trans (T := fun j => j = k2) (unhide HOF) (fun j hj e => by omega), fun k hA => by rw [unhide HE]; exact (⟨fun g j h => hA.mat (fun e => g ((revU_same _ _ _ _ _).1.trans e)) j h, fun g j h => hA.names (fun e => g ((revU_same _ _ _ _ _).2.1.trans e)) j h, fun g j h => hA.links (fun e => g ((revU_same _ _ _ _ _).2.2.1.trans e)) j h, fun g j h => hA.custom (fun e => g ((revU_same _ _ _ _ _).2.2.2.trans e)) j h⟩ : Apart (revU o 2 msg (false, oa) t) mv nv lv cv k)⟩
        · as_aux_lemma =>
            have HWR : Hid (whenR o r = 3) := by show _ = _; unfold whenR; rw [if_neg hr]
            have HE0 : Hid (revE o r msg (oh, oa) t = 0) := by show _ = _; unfold revE; rw [hb, ha, unhide HWR, hst]; rfl
            have HRN := hide hr
            clear hb ha hst
            have HE := HE0
            clear HE0
            go_upto_region 15 with fail
            clear ca c6 hr
            have cS := (unhide HB0).cell 6 _ (cell_state o mv nv lv cv)
            have fS := (unhide HB0).free 6
            obtain ⟨P1, hP1⟩ : ∃ P, P = ({ o with state := 3 } : Ob) := ⟨_, rfl⟩
            have HB1 : Hid (Bx (x0.setCell ⟨k1, 6, none⟩ (.int .i64 3)) k1 32 (cells P1 mv nv lv cv)) := by
              have h := (unhide HB0).set 6 ((.int .i64 3))
              rw [set_state o mv nv lv cv (unhide HD0) 3, ← hP1] at h
              exact h
            have HD1 : Hid (P1.dates.length = 10) := by rw [hP1]; exact unhide HD0
            have HP1 := hide hP1
            have Q1 : Hid (Only (fun j => j = k1) w2 (x0.setCell ⟨k1, 6, none⟩ (.int .i64 3))) := (unhide Q0).here _ _
            clear hP1 HB0 Q0 HD0
            go_upto_region 16 with fail
            generalize (x0.setCell ⟨k1, 6, none⟩ (.int .i64 3)) = x1 at *
            clear cS fS
            as_aux_lemma =>
              have HON := hide (rdate_any t x1)
              go_wp2_with fail
              refine (unhide HON).mono ?_
              rintro e y1 ⟨rfl, oy⟩
              have HBy := hide ((unhide HB1).same oy)
              have QY := hide ((unhide Q1).trans oy (fun _ _ e => e.elim))
              clear oy HON
              have hdy := get_date P1 mv nv lv cv (unhide HD1) 4 (by decide)
              have ca := (unhide HBy).cell 15 _ hdy.1
              have cb := (unhide HBy).cell 16 _ hdy.2
              have fy := (unhide HBy).free
              obtain ⟨P2, hP2⟩ : ∃ P, P = dput P1 4 (true, t) := ⟨_, rfl⟩
              have HB2 : Hid (Bx ((y1.setCell ⟨k1, 15, none⟩ (.bool true)).setCell ⟨k1, 16, none⟩ (.int .i64 t)) k1 32 (cells P2 mv nv lv cv)) := by
                have h := setCells_blk [.bool true, .int .i64 t] y1 15 _ (unhide HBy)
                rw [set_date P1 mv nv lv cv (unhide HD1) 4 (by decide) true t] at h
                rw [hP2]
                exact h
              have HD2 : Hid (P2.dates.length = 10) := by rw [hP2]; show (List.set _ _ _).length = 10; rw [List.length_set]; exact unhide HD1
              have HP2 := hide hP2
              have Q2 : Hid (Only (fun j => j = k1) w2 ((y1.setCell ⟨k1, 15, none⟩ (.bool true)).setCell ⟨k1, 16, none⟩ (.int .i64 t))) := ((unhide QY).here _ _).here _ _
              clear hP2 hdy HB1 Q1 HD1
              go_upto_region 17 with fail
              generalize ((y1.setCell ⟨k1, 15, none⟩ (.bool true)).setCell ⟨k1, 16, none⟩ (.int .i64 t)) = x2 at *
              clear ca cb fy
              as_aux_lemma =>
                clear HBy QY
                have cS := (unhide HB2).cell 27 _ (cells_back P2 mv nv lv cv (unhide HD2) 0)
                have fS := (unhide HB2).free 27
                obtain ⟨P3, hP3⟩ : ∃ P, P = ({ P2 with reason := r } : Ob) := ⟨_, rfl⟩
                have HB3 : Hid (Bx (x2.setCell ⟨k1, 27, none⟩ (.int .i64 r)) k1 32 (cells P3 mv nv lv cv)) := by
                  have h := (unhide HB2).set 27 ((.int .i64 r))
                  rw [set_reason P2 mv nv lv cv (unhide HD2) r, ← hP3] at h
                  exact h
                have HD3 : Hid (P3.dates.length = 10) := by rw [hP3]; exact unhide HD2
                have HP3 := hide hP3
                have Q3 : Hid (Only (fun j => j = k1) w2 (x2.setCell ⟨k1, 27, none⟩ (.int .i64 r))) := (unhide Q2).here _ _
                clear hP3 HB2 Q2 HD2
                go_upto_region 18 with fail
                generalize (x2.setCell ⟨k1, 27, none⟩ (.int .i64 r)) = x3 at *
                clear cS fS
                as_aux_lemma =>
                  have hsm := set_msg P3 mv nv lv cv (unhide HD3) msg
                  rw [← unhide HMS] at hsm
                  have cS := (unhide HB3).cell 28 _ (cells_back P3 mv nv lv cv (unhide HD3) 1)
                  have fS := (unhide HB3).free 28
                  obtain ⟨P4, hP4⟩ : ∃ P, P = ({ P3 with msg := msg } : Ob) := ⟨_, rfl⟩
                  have HB4 : Hid (Bx (x3.setCell ⟨k1, 28, none⟩ (.string MS)) k1 32 (cells P4 mv nv lv cv)) := by
                    have h := (unhide HB3).set 28 ((.string MS))
                    rw [hsm, ← hP4] at h
                    exact h
                  have HD4 : Hid (P4.dates.length = 10) := by rw [hP4]; exact unhide HD3
                  have HP4 := hide hP4
                  have Q4 : Hid (Only (fun j => j = k1) w2 (x3.setCell ⟨k1, 28, none⟩ (.string MS))) := (unhide Q3).here _ _
                  clear hP4 HB3 Q3 HD3
                  go_upto_region 19 with fail
                  generalize (x3.setCell ⟨k1, 28, none⟩ (.string MS)) = x4 at *
                  clear cS fS
                  as_aux_lemma =>
                    have HON := hide (rdate_any t x4)
                    go_wp2_with fail
                    refine (unhide HON).mono ?_
                    rintro e y4 ⟨rfl, oy⟩
                    have HBy := hide ((unhide HB4).same oy)
                    have QY := hide ((unhide Q4).trans oy (fun _ _ e => e.elim))
                    clear oy HON
                    have hdy := get_date P4 mv nv lv cv (unhide HD4) 9 (by decide)
                    have ca := (unhide HBy).cell 25 _ hdy.1
                    have cb := (unhide HBy).cell 26 _ hdy.2
                    have fy := (unhide HBy).free
                    obtain ⟨P5, hP5⟩ : ∃ P, P = dput P4 9 (true, t) := ⟨_, rfl⟩
                    have HB5 : Hid (Bx ((y4.setCell ⟨k1, 25, none⟩ (.bool true)).setCell ⟨k1, 26, none⟩ (.int .i64 t)) k1 32 (cells P5 mv nv lv cv)) := by
                      have h := setCells_blk [.bool true, .int .i64 t] y4 25 _ (unhide HBy)
                      rw [set_date P4 mv nv lv cv (unhide HD4) 9 (by decide) true t] at h
                      rw [hP5]
                      exact h
                    have HD5 : Hid (P5.dates.length = 10) := by rw [hP5]; show (List.set _ _ _).length = 10; rw [List.length_set]; exact unhide HD4
                    have HP5 := hide hP5
                    have Q5 : Hid (Only (fun j => j = k1) w2 ((y4.setCell ⟨k1, 25, none⟩ (.bool true)).setCell ⟨k1, 26, none⟩ (.int .i64 t))) := ((unhide QY).here _ _).here _ _
                    clear hP5 hdy HB4 Q4 HD4
                    go_upto_region 20 with fail
                    generalize ((y4.setCell ⟨k1, 25, none⟩ (.bool true)).setCell ⟨k1, 26, none⟩ (.int .i64 t)) = x5 at *
                    clear ca cb fy
                    as_aux_lemma =>
                      clear HBy QY
                      have OWn : Hid (Only (fun _ => False) w x5) := (unhide OW).trans (T := fun j => j = k1) (unhide Q5) (fun j hj e => by omega)
                      have IU : In x5 (revU o r msg (oh, oa) t) mv nv lv cv := by rw [revU_eq]; exact in_dput (in_revM ((unhide HI).same (unhide OWn)) r msg (oh, oa) t (unhide HR64) (unhide HOC) (unhide HL) (unhide HT)) 9 (true, t) (unhide HT)
                      have hfin : P5 = revU o r msg (oh, oa) t := by
                        rw [revU_eq]
                        unfold revM revP
                        rw [if_neg (unhide HRN), unhide HWR, unhide HP5, unhide HP4, unhide HP3, unhide HP2, unhide HP1]
                        rfl
                      have HBF := unhide HB5
                      rw [hfin] at HBF
                      clear hfin
                      have HAPU : Apart (revU o r msg (oh, oa) t) mv nv lv cv k2 := by
                        have hs := (unhide OW).size
                        have hi := unhide HI
                        have hm : ∀ j, (blk mv = some j ∧ o.mat ≠ [] ∨ blk nv = some j ∧ o.names ≠ [] ∨ blk lv = some j ∧ o.links ≠ [] ∨ blk cv = some j ∧ o.custom ≠ []) → ¬ j = k2 := fun j hj e => by
                          rcases hj with ⟨h, g⟩ | ⟨h, g⟩ | ⟨h, g⟩ | ⟨h, g⟩
                          · have := hi.mat.blk_lt g j h; omega
                          · have := hi.names.lt g j h; omega
                          · have := hi.links.lt g j h; omega
                          · have := hi.custom.lt g j h; omega
                        exact ⟨fun g j h => hm j (Or.inl ⟨h, fun e => g ((revU_same _ _ _ _ _).1.trans e)⟩), fun g j h => hm j (Or.inr (Or.inl ⟨h, fun e => g ((revU_same _ _ _ _ _).2.1.trans e)⟩)), fun g j h => hm j (Or.inr (Or.inr (Or.inl ⟨h, fun e => g ((revU_same _ _ _ _ _).2.2.1.trans e)⟩))), fun g j h => hm j (Or.inr (Or.inr (Or.inr ⟨h, fun e => g ((revU_same _ _ _ _ _).2.2.2.trans e)⟩)))⟩
                      obtain ⟨hth, hfb, hin, hof⟩ := store_var IU HAPU ((unhide HZ).only (unhide Q5) (by show ¬ k2 = k1; omega)) (cs0 := Zo) rfl
                      have HONE := hide IU.one
                      have HR := hide (Bx.whole HBF IU.ten)
                      have HSZB := hide (size_cells (revU o r msg (oh, oa) t) mv nv lv cv IU.ten)
                      have HSZA := hide (size_cellsA (revU o r msg (oh, oa) t) mv nv lv cv IU.ten)
                      have HTH := hide hth
                      have HFB := hide hfb
                      have HIN := hide hin
                      have HOF := hide hof
                      obtain ⟨B, hB⟩ : ∃ B, B = cells (revU o r msg (oh, oa) t) mv nv lv cv := ⟨_, rfl⟩
                      rw [← hB] at HONE HR HSZA HSZB HTH HFB HIN HOF
                      have HBB := hide hB
                      clear hth hfb hin hof IU HAPU hB HBF HB5 Q5 HD5
                      go_wp2_with (first | (refine wpList_load_mid rfl 32 (.tmp 5) rfl k1 0 rfl B dsc (unhide HR) hdu hdr (unhide HSZB) ?_) | (refine wpList_store_mid rfl 32 (.tmp 10) (.tmp 128) rfl k2 0 B.toArray rfl rfl (unhide HTH) (unhide HSZA) (unhide HONE) ?_))
                      refine bodyPost_ret (results_st2 rfl _ _ k2 32 B.toArray rfl (unhide HFB) Tryd.rowObjM (unhide HSZA)) rfl ?_
                      exact ⟨mv, nv, lv, cv, by rw [unhide HE, unhide HBB]; rfl, by rw [unhide HE]; exact unhide HIN, (unhide OWn).trans (T := fun j => j = k2) (unhide HOF) (fun j hj e => by omega), fun k hA => by rw [unhide HE]; exact (⟨fun g j h => hA.mat (fun e => g ((revU_same _ _ _ _ _).1.trans e)) j h, fun g j h => hA.names (fun e => g ((revU_same _ _ _ _ _).2.1.trans e)) j h, fun g j h => hA.links (fun e => g ((revU_same _ _ _ _ _).2.2.1.trans e)) j h, fun g j h => hA.custom (fun e => g ((revU_same _ _ _ _ _).2.2.2.trans e)) j h⟩ : Apart (revU o r msg (oh, oa) t) mv nv lv cv k)⟩
      · rw [hst] at c6
        by_cases hr : r = 2
        · as_aux_lemma =>
            subst hr
            have HWR : Hid (whenR o 2 = 4) := by show _ = _; unfold whenR; rw [if_pos rfl, hst]; rfl
            have HE0 : Hid (revE o 2 msg (oh, oa) t = 0) := by show _ = _; unfold revE; rw [hb, ha, unhide HWR, hst]; rfl
            clear hb ha hst
            go_upto_region 10 with fail
            clear ca c6
            have cS := (unhide HB0).cell 6 _ (cell_state o mv nv lv cv)
            have fS := (unhide HB0).free 6
            obtain ⟨P1, hP1⟩ : ∃ P, P = ({ o with state := 4 } : Ob) := ⟨_, rfl⟩
            have HB1 : Hid (Bx (x0.setCell ⟨k1, 6, none⟩ (.int .i64 4)) k1 32 (cells P1 mv nv lv cv)) := by
              have h := (unhide HB0).set 6 ((.int .i64 4))
              rw [set_state o mv nv lv cv (unhide HD0) 4, ← hP1] at h
              exact h
            have HD1 : Hid (P1.dates.length = 10) := by rw [hP1]; exact unhide HD0
            have HP1 := hide hP1
            have Q1 : Hid (Only (fun j => j = k1) w2 (x0.setCell ⟨k1, 6, none⟩ (.int .i64 4))) := (unhide Q0).here _ _
            clear hP1 HB0 Q0 HD0
            go_upto_region 11 with fail
            generalize (x0.setCell ⟨k1, 6, none⟩ (.int .i64 4)) = x1 at *
            clear cS fS
            as_aux_lemma =>
              have HON := hide (rdate_any t x1)
              go_wp2_with fail
              refine (unhide HON).mono ?_
              rintro e y1 ⟨rfl, oy⟩
              have HBy := hide ((unhide HB1).same oy)
              have QY := hide ((unhide Q1).trans oy (fun _ _ e => e.elim))
              clear oy HON
              have hdy := get_date P1 mv nv lv cv (unhide HD1) 7 (by decide)
              have ca := (unhide HBy).cell 21 _ hdy.1
              have cb := (unhide HBy).cell 22 _ hdy.2
              have fy := (unhide HBy).free
              obtain ⟨P2, hP2⟩ : ∃ P, P = dput P1 7 (true, t) := ⟨_, rfl⟩
              have HB2 : Hid (Bx ((y1.setCell ⟨k1, 21, none⟩ (.bool true)).setCell ⟨k1, 22, none⟩ (.int .i64 t)) k1 32 (cells P2 mv nv lv cv)) := by
                have h := setCells_blk [.bool true, .int .i64 t] y1 21 _ (unhide HBy)
                rw [set_date P1 mv nv lv cv (unhide HD1) 7 (by decide) true t] at h
                rw [hP2]
                exact h
              have HD2 : Hid (P2.dates.length = 10) := by rw [hP2]; show (List.set _ _ _).length = 10; rw [List.length_set]; exact unhide HD1
              have HP2 := hide hP2
              have Q2 : Hid (Only (fun j => j = k1) w2 ((y1.setCell ⟨k1, 21, none⟩ (.bool true)).setCell ⟨k1, 22, none⟩ (.int .i64 t))) := ((unhide QY).here _ _).here _ _
              clear hP2 hdy HB1 Q1 HD1
              go_upto_region 12 with fail
              generalize ((y1.setCell ⟨k1, 21, none⟩ (.bool true)).setCell ⟨k1, 22, none⟩ (.int .i64 t)) = x2 at *
              clear ca cb fy
              as_aux_lemma =>
                clear HBy QY
                have HBK := hide ((unhide HBD).only (unhide Q2) (by show ¬ kd = k1; omega))
                cases oh with
                | true =>
                  have HE := HE0
                  clear HE0
                  have d0 := (unhide HBK).cell 0 (.bool true) rfl
                  have d1 := (unhide HBK).cell 1 (.int .i64 oa) rfl
                  have hdy := get_date P2 mv nv lv cv (unhide HD2) 6 (by decide)
                  have ca := (unhide HB2).cell 19 _ hdy.1
                  have cb := (unhide HB2).cell 20 _ hdy.2
                  have fy := (unhide HB2).free
                  obtain ⟨P3, hP3⟩ : ∃ P, P = dput P2 6 (true, oa) := ⟨_, rfl⟩
                  have HB3 : Hid (Bx ((x2.setCell ⟨k1, 19, none⟩ (.bool true)).setCell ⟨k1, 20, none⟩ (.int .i64 oa)) k1 32 (cells P3 mv nv lv cv)) := by
                    have h := setCells_blk [.bool true, .int .i64 oa] x2 19 _ (unhide HB2)
                    rw [set_date P2 mv nv lv cv (unhide HD2) 6 (by decide) true oa] at h
                    rw [hP3]
                    exact h
                  have HD3 : Hid (P3.dates.length = 10) := by rw [hP3]; show (List.set _ _ _).length = 10; rw [List.length_set]; exact unhide HD2
                  have HP3 := hide hP3
                  have Q3 : Hid (Only (fun j => j = k1) w2 ((x2.setCell ⟨k1, 19, none⟩ (.bool true)).setCell ⟨k1, 20, none⟩ (.int .i64 oa))) := ((unhide Q2).here _ _).here _ _
                  clear hP3 hdy HB2 Q2 HD2
                  go_upto_region 13 with fail
                  generalize ((x2.setCell ⟨k1, 19, none⟩ (.bool true)).setCell ⟨k1, 20, none⟩ (.int .i64 oa)) = x3 at *
                  clear ca cb fy
                  as_aux_lemma =>
                    clear d0 d1
                    have HBK3 := hide ((unhide HBD).only (unhide Q3) (by show ¬ kd = k1; omega))
                    have d0 := (unhide HBK3).cell 0 (.bool true) rfl
                    go_upto_region 17 with fail
                    clear d0 HBK3
                    have cS := (unhide HB3).cell 27 _ (cells_back P3 mv nv lv cv (unhide HD3) 0)
                    have fS := (unhide HB3).free 27
                    obtain ⟨P4, hP4⟩ : ∃ P, P = ({ P3 with reason := 2 } : Ob) := ⟨_, rfl⟩
                    have HB4 : Hid (Bx (x3.setCell ⟨k1, 27, none⟩ (.int .i64 2)) k1 32 (cells P4 mv nv lv cv)) := by
                      have h := (unhide HB3).set 27 ((.int .i64 2))
                      rw [set_reason P3 mv nv lv cv (unhide HD3) 2, ← hP4] at h
                      exact h
                    have HD4 : Hid (P4.dates.length = 10) := by rw [hP4]; exact unhide HD3
                    have HP4 := hide hP4
                    have Q4 : Hid (Only (fun j => j = k1) w2 (x3.setCell ⟨k1, 27, none⟩ (.int .i64 2))) := (unhide Q3).here _ _
                    clear hP4 HB3 Q3 HD3
                    go_upto_region 18 with fail
                    generalize (x3.setCell ⟨k1, 27, none⟩ (.int .i64 2)) = x4 at *
                    clear cS fS
                    as_aux_lemma =>
                      have hsm := set_msg P4 mv nv lv cv (unhide HD4) msg
                      rw [← unhide HMS] at hsm
                      have cS := (unhide HB4).cell 28 _ (cells_back P4 mv nv lv cv (unhide HD4) 1)
                      have fS := (unhide HB4).free 28
                      obtain ⟨P5, hP5⟩ : ∃ P, P = ({ P4 with msg := msg } : Ob) := ⟨_, rfl⟩
                      have HB5 : Hid (Bx (x4.setCell ⟨k1, 28, none⟩ (.string MS)) k1 32 (cells P5 mv nv lv cv)) := by
                        have h := (unhide HB4).set 28 ((.string MS))
                        rw [hsm, ← hP5] at h
                        exact h
                      have HD5 : Hid (P5.dates.length = 10) := by rw [hP5]; exact unhide HD4
                      have HP5 := hide hP5
                      have Q5 : Hid (Only (fun j => j = k1) w2 (x4.setCell ⟨k1, 28, none⟩ (.string MS))) := (unhide Q4).here _ _
                      clear hP5 HB4 Q4 HD4
                      go_upto_region 19 with fail
                      generalize (x4.setCell ⟨k1, 28, none⟩ (.string MS)) = x5 at *
                      clear cS fS
                      as_aux_lemma =>
                        have HON := hide (rdate_any t x5)
                        go_wp2_with fail
                        refine (unhide HON).mono ?_
                        rintro e y5 ⟨rfl, oy⟩
                        have HBy := hide ((unhide HB5).same oy)
                        have QY := hide ((unhide Q5).trans oy (fun _ _ e => e.elim))
                        clear oy HON
                        have hdy := get_date P5 mv nv lv cv (unhide HD5) 9 (by decide)
                        have ca := (unhide HBy).cell 25 _ hdy.1
                        have cb := (unhide HBy).cell 26 _ hdy.2
                        have fy := (unhide HBy).free
                        obtain ⟨P6, hP6⟩ : ∃ P, P = dput P5 9 (true, t) := ⟨_, rfl⟩
                        have HB6 : Hid (Bx ((y5.setCell ⟨k1, 25, none⟩ (.bool true)).setCell ⟨k1, 26, none⟩ (.int .i64 t)) k1 32 (cells P6 mv nv lv cv)) := by
                          have h := setCells_blk [.bool true, .int .i64 t] y5 25 _ (unhide HBy)
                          rw [set_date P5 mv nv lv cv (unhide HD5) 9 (by decide) true t] at h
                          rw [hP6]
                          exact h
                        have HD6 : Hid (P6.dates.length = 10) := by rw [hP6]; show (List.set _ _ _).length = 10; rw [List.length_set]; exact unhide HD5
                        have HP6 := hide hP6
                        have Q6 : Hid (Only (fun j => j = k1) w2 ((y5.setCell ⟨k1, 25, none⟩ (.bool true)).setCell ⟨k1, 26, none⟩ (.int .i64 t))) := ((unhide QY).here _ _).here _ _
                        clear hP6 hdy HB5 Q5 HD5
                        go_upto_region 20 with fail
                        generalize ((y5.setCell ⟨k1, 25, none⟩ (.bool true)).setCell ⟨k1, 26, none⟩ (.int .i64 t)) = x6 at *
                        clear ca cb fy
                        as_aux_lemma =>
                          clear HBy QY
                          have OWn : Hid (Only (fun _ => False) w x6) := (unhide OW).trans (T := fun j => j = k1) (unhide Q6) (fun j hj e => by omega)
                          have IU : In x6 (revU o 2 msg (true, oa) t) mv nv lv cv := by rw [revU_eq]; exact in_dput (in_revM ((unhide HI).same (unhide OWn)) 2 msg (true, oa) t (unhide HR64) (unhide HOC) (unhide HL) (unhide HT)) 9 (true, t) (unhide HT)
                          have hfin : P6 = revU o 2 msg (true, oa) t := by
                            rw [revU_eq]
                            unfold revM revP
                            rw [if_pos rfl, unhide HWR, unhide HP6, unhide HP5, unhide HP4, unhide HP3, unhide HP2, unhide HP1]
                            rfl
                          have HBF := unhide HB6
                          rw [hfin] at HBF
                          clear hfin
                          have HAPU : Apart (revU o 2 msg (true, oa) t) mv nv lv cv k2 := by
                            have hs := (unhide OW).size
                            have hi := unhide HI
                            have hm : ∀ j, (blk mv = some j ∧ o.mat ≠ [] ∨ blk nv = some j ∧ o.names ≠ [] ∨ blk lv = some j ∧ o.links ≠ [] ∨ blk cv = some j ∧ o.custom ≠ []) → ¬ j = k2 := fun j hj e => by
                              rcases hj with ⟨h, g⟩ | ⟨h, g⟩ | ⟨h, g⟩ | ⟨h, g⟩
                              · have := hi.mat.blk_lt g j h; omega
                              · have := hi.names.lt g j h; omega
                              · have := hi.links.lt g j h; omega
                              · have := hi.custom.lt g j h; omega
                            exact ⟨fun g j h => hm j (Or.inl ⟨h, fun e => g ((revU_same _ _ _ _ _).1.trans e)⟩), fun g j h => hm j (Or.inr (Or.inl ⟨h, fun e => g ((revU_same _ _ _ _ _).2.1.trans e)⟩)), fun g j h => hm j (Or.inr (Or.inr (Or.inl ⟨h, fun e => g ((revU_same _ _ _ _ _).2.2.1.trans e)⟩))), fun g j h => hm j (Or.inr (Or.inr (Or.inr ⟨h, fun e => g ((revU_same _ _ _ _ _).2.2.2.trans e)⟩)))⟩
                          obtain ⟨hth, hfb, hin, hof⟩ := store_var IU HAPU ((unhide HZ).only (unhide Q6) (by show ¬ k2 = k1; omega)) (cs0 := Zo) rfl
                          have HONE := hide IU.one
                          have HR := hide (Bx.whole HBF IU.ten)
                          have HSZB := hide (size_cells (revU o 2 msg (true, oa) t) mv nv lv cv IU.ten)
                          have HSZA := hide (size_cellsA (revU o 2 msg (true, oa) t) mv nv lv cv IU.ten)
                          have HTH := hide hth
                          have HFB := hide hfb
                          have HIN := hide hin
                          have HOF := hide hof
                          obtain ⟨B, hB⟩ : ∃ B, B = cells (revU o 2 msg (true, oa) t) mv nv lv cv := ⟨_, rfl⟩
                          rw [← hB] at HONE HR HSZA HSZB HTH HFB HIN HOF
                          have HBB := hide hB
                          clear hth hfb hin hof IU HAPU hB HBF HB6 Q6 HD6
                          go_wp2_with (first | (refine wpList_load_mid rfl 32 (.tmp 5) rfl k1 0 rfl B dsc (unhide HR) hdu hdr (unhide HSZB) ?_) | (refine wpList_store_mid rfl 32 (.tmp 10) (.tmp 128) rfl k2 0 B.toArray rfl rfl (unhide HTH) (unhide HSZA) (unhide HONE) ?_))
                          refine bodyPost_ret (results_st2 rfl _ _ k2 32 B.toArray rfl (unhide HFB) Tryd.rowObjM (unhide HSZA)) rfl ?_
                          exact ⟨mv, nv, lv, cv, by rw [unhide HE, unhide HBB]; rfl, by rw [unhide HE]; exact unhide HIN, (unhide OWn).trans (T := fun j => j = k2) (unhide HOF) (fun j hj e => by omega), fun k hA => by rw [unhide HE]; exact (⟨fun g j h => hA.mat (fun e => g ((revU_same _ _ _ _ _).1.trans e)) j h, fun g j h => hA.names (fun e => g ((revU_same _ _ _ _ _).2.1.trans e)) j h, fun g j h => hA.links (fun e => g ((revU_same _ _ _ _ _).2.2.1.trans e)) j h, fun g j h => hA.custom (fun e => g ((revU_same _ _ _ _ _).2.2.2.trans e)) j h⟩ : Apart (revU o 2 msg (true, oa) t) mv nv lv cv k)⟩
                | false =>
                  have HE := HE0
                  clear HE0
                  have d0 := (unhide HBK).cell 0 (.bool false) rfl
                  have d1 := (unhide HBK).cell 1 (.int .i64 oa) rfl
                  have hdy := get_date P2 mv nv lv cv (unhide HD2) 6 (by decide)
                  have ca := (unhide HB2).cell 19 _ hdy.1
                  have cb := (unhide HB2).cell 20 _ hdy.2
                  have fy := (unhide HB2).free
                  obtain ⟨P3, hP3⟩ : ∃ P, P = dput P2 6 (false, oa) := ⟨_, rfl⟩
                  have HB3 : Hid (Bx ((x2.setCell ⟨k1, 19, none⟩ (.bool false)).setCell ⟨k1, 20, none⟩ (.int .i64 oa)) k1 32 (cells P3 mv nv lv cv)) := by
                    have h := setCells_blk [.bool false, .int .i64 oa] x2 19 _ (unhide HB2)
                    rw [set_date P2 mv nv lv cv (unhide HD2) 6 (by decide) false oa] at h
                    rw [hP3]
                    exact h
                  have HD3 : Hid (P3.dates.length = 10) := by rw [hP3]; show (List.set _ _ _).length = 10; rw [List.length_set]; exact unhide HD2
                  have HP3 := hide hP3
                  have Q3 : Hid (Only (fun j => j = k1) w2 ((x2.setCell ⟨k1, 19, none⟩ (.bool false)).setCell ⟨k1, 20, none⟩ (.int .i64 oa))) := ((unhide Q2).here _ _).here _ _
                  clear hP3 hdy HB2 Q2 HD2
                  go_upto_region 13 with fail
                  generalize ((x2.setCell ⟨k1, 19, none⟩ (.bool false)).setCell ⟨k1, 20, none⟩ (.int .i64 oa)) = x3 at *
                  clear ca cb fy
                  as_aux_lemma =>
                    clear d0 d1
                    have HBK3 := hide ((unhide HBD).only (unhide Q3) (by show ¬ kd = k1; omega))
                    have d0 := (unhide HBK3).cell 0 (.bool false) rfl
                    go_upto_region 14 with fail
                    clear d0 HBK3
                    have hg := get_date P3 mv nv lv cv (unhide HD3) 0 (by decide)
                    have HG : Hid (P3.dates.getD 0 (false, 0) = dget o 0) := by
                      show dget P3 0 = dget o 0
                      rw [unhide HP3, unhide HP2, unhide HP1, dget_dput _ 6 0 _ (by decide), dget_dput _ 7 0 _ (by decide)]
                      rfl
                    rw [unhide HG] at hg
                    obtain ⟨g1, hg1⟩ : ∃ g, g = (dget o 0).1 := ⟨_, rfl⟩
                    obtain ⟨g2, hg2⟩ : ∃ g, g = (dget o 0).2 := ⟨_, rfl⟩
                    rw [← hg1, ← hg2] at hg
                    have HGG : Hid ((g1, g2) = dget o 0) := by show _ = _; rw [hg1, hg2]
                    have q1 := (unhide HB3).cell 7 _ hg.1
                    have q2 := (unhide HB3).cell 8 _ hg.2
                    clear hg hg1 hg2 HG
                    have hdy := get_date P3 mv nv lv cv (unhide HD3) 6 (by decide)
                    have ca := (unhide HB3).cell 19 _ hdy.1
                    have cb := (unhide HB3).cell 20 _ hdy.2
                    have fy := (unhide HB3).free
                    obtain ⟨P4, hP4⟩ : ∃ P, P = dput P3 6 (g1, g2) := ⟨_, rfl⟩
                    have HB4 : Hid (Bx ((x3.setCell ⟨k1, 19, none⟩ (.bool g1)).setCell ⟨k1, 20, none⟩ (.int .i64 g2)) k1 32 (cells P4 mv nv lv cv)) := by
                      have h := setCells_blk [.bool g1, .int .i64 g2] x3 19 _ (unhide HB3)
                      rw [set_date P3 mv nv lv cv (unhide HD3) 6 (by decide) g1 g2] at h
                      rw [hP4]
                      exact h
                    have HD4 : Hid (P4.dates.length = 10) := by rw [hP4]; show (List.set _ _ _).length = 10; rw [List.length_set]; exact unhide HD3
                    have HP4 := hide hP4
                    have Q4 : Hid (Only (fun j => j = k1) w2 ((x3.setCell ⟨k1, 19, none⟩ (.bool g1)).setCell ⟨k1, 20, none⟩ (.int .i64 g2))) := ((unhide Q3).here _ _).here _ _
                    clear hP4 hdy HB3 Q3 HD3
                    go_upto_region 17 with fail
                    generalize ((x3.setCell ⟨k1, 19, none⟩ (.bool g1)).setCell ⟨k1, 20, none⟩ (.int .i64 g2)) = x4 at *
                    clear ca cb fy
                    as_aux_lemma =>
                      clear q1 q2
                      have cS := (unhide HB4).cell 27 _ (cells_back P4 mv nv lv cv (unhide HD4) 0)
                      have fS := (unhide HB4).free 27
                      obtain ⟨P5, hP5⟩ : ∃ P, P = ({ P4 with reason := 2 } : Ob) := ⟨_, rfl⟩
                      have HB5 : Hid (Bx (x4.setCell ⟨k1, 27, none⟩ (.int .i64 2)) k1 32 (cells P5 mv nv lv cv)) := by
                        have h := (unhide HB4).set 27 ((.int .i64 2))
                        rw [set_reason P4 mv nv lv cv (unhide HD4) 2, ← hP5] at h
                        exact h
                      have HD5 : Hid (P5.dates.length = 10) := by rw [hP5]; exact unhide HD4
                      have HP5 := hide hP5
                      have Q5 : Hid (Only (fun j => j = k1) w2 (x4.setCell ⟨k1, 27, none⟩ (.int .i64 2))) := (unhide Q4).here _ _
                      clear hP5 HB4 Q4 HD4
                      go_upto_region 18 with fail
                      generalize (x4.setCell ⟨k1, 27, none⟩ (.int .i64 2)) = x5 at *
                      clear cS fS
                      as_aux_lemma =>
                        have hsm := set_msg P5 mv nv lv cv (unhide HD5) msg
                        rw [← unhide HMS] at hsm
                        have cS := (unhide HB5).cell 28 _ (cells_back P5 mv nv lv cv (unhide HD5) 1)
                        have fS := (unhide HB5).free 28
                        obtain ⟨P6, hP6⟩ : ∃ P, P = ({ P5 with msg := msg } : Ob) := ⟨_, rfl⟩
                        have HB6 : Hid (Bx (x5.setCell ⟨k1, 28, none⟩ (.string MS)) k1 32 (cells P6 mv nv lv cv)) := by
                          have h := (unhide HB5).set 28 ((.string MS))
                          rw [hsm, ← hP6] at h
                          exact h
                        have HD6 : Hid (P6.dates.length = 10) := by rw [hP6]; exact unhide HD5
                        have HP6 := hide hP6
                        have Q6 : Hid (Only (fun j => j = k1) w2 (x5.setCell ⟨k1, 28, none⟩ (.string MS))) := (unhide Q5).here _ _
                        clear hP6 HB5 Q5 HD5
                        go_upto_region 19 with fail
                        generalize (x5.setCell ⟨k1, 28, none⟩ (.string MS)) = x6 at *
                        clear cS fS
                        as_aux_lemma =>
                          have HON := hide (rdate_any t x6)
                          go_wp2_with fail
                          refine (unhide HON).mono ?_
                          rintro e y6 ⟨rfl, oy⟩
                          have HBy := hide ((unhide HB6).same oy)
                          have QY := hide ((unhide Q6).trans oy (fun _ _ e => e.elim))
                          clear oy HON
                          have hdy := get_date P6 mv nv lv cv (unhide HD6) 9 (by decide)
                          have ca := (unhide HBy).cell 25 _ hdy.1
                          have cb := (unhide HBy).cell 26 _ hdy.2
                          have fy := (unhide HBy).free
                          obtain ⟨P7, hP7⟩ : ∃ P, P = dput P6 9 (true, t) := ⟨_, rfl⟩
                          have HB7 : Hid (Bx ((y6.setCell ⟨k1, 25, none⟩ (.bool true)).setCell ⟨k1, 26, none⟩ (.int .i64 t)) k1 32 (cells P7 mv nv lv cv)) := by
                            have h := setCells_blk [.bool true, .int .i64 t] y6 25 _ (unhide HBy)
                            rw [set_date P6 mv nv lv cv (unhide HD6) 9 (by decide) true t] at h
                            rw [hP7]
                            exact h
                          have HD7 : Hid (P7.dates.length = 10) := by rw [hP7]; show (List.set _ _ _).length = 10; rw [List.length_set]; exact unhide HD6
                          have HP7 := hide hP7
                          have Q7 : Hid (Only (fun j => j = k1) w2 ((y6.setCell ⟨k1, 25, none⟩ (.bool true)).setCell ⟨k1, 26, none⟩ (.int .i64 t))) := ((unhide QY).here _ _).here _ _
                          clear hP7 hdy HB6 Q6 HD6
                          go_upto_region 20 with fail
                          generalize ((y6.setCell ⟨k1, 25, none⟩ (.bool true)).setCell ⟨k1, 26, none⟩ (.int .i64 t)) = x7 at *
                          clear ca cb fy
                          as_aux_lemma =>
                            clear HBy QY
                            have OWn : Hid (Only (fun _ => False) w x7) := (unhide OW).trans (T := fun j => j = k1) (unhide Q7) (fun j hj e => by omega)
                            have IU : In x7 (revU o 2 msg (false, oa) t) mv nv lv cv := by rw [revU_eq]; exact in_dput (in_revM ((unhide HI).same (unhide OWn)) 2 msg (false, oa) t (unhide HR64) (unhide HOC) (unhide HL) (unhide HT)) 9 (true, t) (unhide HT)
                            have hfin : P7 = revU o 2 msg (false, oa) t := by
                              rw [revU_eq]
                              unfold revM revP
                              rw [if_pos rfl, unhide HWR, if_neg (show ¬ (false, oa).fst = true from Bool.false_ne_true), ← unhide HGG, unhide HP7, unhide HP6, unhide HP5, unhide HP4, unhide HP3, dput_again, unhide HP2, unhide HP1]
                              rfl
                            have HBF := unhide HB7
                            rw [hfin] at HBF
                            clear hfin
                            have HAPU : Apart (revU o 2 msg (false, oa) t) mv nv lv cv k2 := by
                              have hs := (unhide OW).size
                              have hi := unhide HI
                              have hm : ∀ j, (blk mv = some j ∧ o.mat ≠ [] ∨ blk nv = some j ∧ o.names ≠ [] ∨ blk lv = some j ∧ o.links ≠ [] ∨ blk cv = some j ∧ o.custom ≠ []) → ¬ j = k2 := fun j hj e => by
                                rcases hj with ⟨h, g⟩ | ⟨h, g⟩ | ⟨h, g⟩ | ⟨h, g⟩
                                · have := hi.mat.blk_lt g j h; omega
                                · have := hi.names.lt g j h; omega
                                · have := hi.links.lt g j h; omega
                                · have := hi.custom.lt g j h; omega
                              exact ⟨fun g j h => hm j (Or.inl ⟨h, fun e => g ((revU_same _ _ _ _ _).1.trans e)⟩), fun g j h => hm j (Or.inr (Or.inl ⟨h, fun e => g ((revU_same _ _ _ _ _).2.1.trans e)⟩)), fun g j h => hm j (Or.inr (Or.inr (Or.inl ⟨h, fun e => g ((revU_same _ _ _ _ _).2.2.1.trans e)⟩))), fun g j h => hm j (Or.inr (Or.inr (Or.inr ⟨h, fun e => g ((revU_same _ _ _ _ _).2.2.2.trans e)⟩)))⟩
                            obtain ⟨hth, hfb, hin, hof⟩ := store_var IU HAPU ((unhide HZ).only (unhide Q7) (by show ¬ k2 = k1; omega)) (cs0 := Zo) rfl
                            have HONE := hide IU.one
                            have HR := hide (Bx.whole HBF IU.ten)
                            have HSZB := hide (size_cells (revU o 2 msg (false, oa) t) mv nv lv cv IU.ten)
                            have HSZA := hide (size_cellsA (revU o 2 msg (false, oa) t) mv nv lv cv IU.ten)
                            have HTH := hide hth
                            have HFB := hide hfb
                            have HIN := hide hin
                            have HOF := hide hof
                            obtain ⟨B, hB⟩ : ∃ B, B = cells (revU o 2 msg (false, oa) t) mv nv lv cv := ⟨_, rfl⟩
                            rw [← hB] at HONE HR HSZA HSZB HTH HFB HIN HOF
                            have HBB := hide hB
                            clear hth hfb hin hof IU HAPU hB HBF HB7 Q7 HD7
                            go_wp2_with (first | (refine wpList_load_mid rfl 32 (.tmp 5) rfl k1 0 rfl B dsc (unhide HR) hdu hdr (unhide HSZB) ?_) | (refine wpList_store_mid rfl 32 (.tmp 10) (.tmp 128) rfl k2 0 B.toArray rfl rfl (unhide HTH) (unhide HSZA) (unhide HONE) ?_))
                            refine bodyPost_ret (results_st2 rfl _ _ k2 32 B.toArray rfl (unhide HFB) Tryd.rowObjM (unhide HSZA)) rfl ?_
                            exact ⟨mv, nv, lv, cv, by rw [unhide HE, unhide HBB]; rfl, by rw [unhide HE]; exact unhide HIN, (unhide OWn).trans (T := fun j => j = k2) (unhide HOF) (fun j hj e => by omega), fun k hA => by rw [unhide HE]; exact (⟨fun g j h => hA.mat (fun e => g ((revU_same _ _ _ _ _).1.trans e)) j h, fun g j h => hA.names (fun e => g ((revU_same _ _ _ _ _).2.1.trans e)) j h, fun g j h => hA.links (fun e => g ((revU_same _ _ _ _ _).2.2.1.trans e)) j h, fun g j h => hA.custom (fun e => g ((revU_same _ _ _ _ _).2.2.2.trans e)) j h⟩ : Apart (revU o 2 msg (false, oa) t) mv nv lv cv k)⟩
        · as_aux_lemma =>
            have HE : Hid (revE o r msg (oh, oa) t = 11) := by
              show _ = _
              unfold revE whenR
              rw [hb, ha, hst, if_neg hr]
              rfl
            clear hb ha hst
            have HNO := hide (no_any 11 x0)
            go_wp2_with fail
            refine (unhide HNO).mono ?_
            rintro e y ⟨rfl, oy⟩
            have hzy := ((unhide HZ).only (unhide Q0) (by show ¬ k2 = k1; omega)).same oy
            obtain ⟨hth, hfb, hin, hof⟩ := fin37 (in_zero y) (fun j hj => by simp [blk] at hj) hzy (cs0 := Zo) rfl
            rw [← zo_cells] at hth hfb hin hof
            have OF : Hid (Only (fun _ => False) w (y.setCells k2 0 Zo)) := (((unhide OW).trans (T := fun j => j = k1) (unhide Q0) (fun j hj e => by omega)).trans oy (fun _ _ e => e)).trans (T := fun j => j = k2) hof (fun j hj e => by omega)
            have HTH := hide hth
            have HFB := hide hfb
            have HIN := hide hin
            clear hth hfb hin hof hzy oy HNO
            go_wp2_with (refine wpList_store_mid rfl 32 (.tmp 10) (.tmp 91) rfl k2 0 Zo.toArray rfl rfl (unhide HTH) Tryd.sizeObj zo_one ?_)
            refine bodyPost_ret (results_st2 rfl _ _ k2 32 Zo.toArray rfl (unhide HFB) Tryd.rowObjM Tryd.sizeObj) rfl ?_
            exact ⟨.slice none 0 0, .slice none 0 0, .slice none 0 0, .slice none 0 0, by rw [unhide HE]; rfl, by rw [unhide HE]; exact unhide HIN, unhide OF, fun k _ => by rw [unhide HE]; exact (⟨fun g => absurd rfl g, fun g => absurd rfl g, fun g => absurd rfl g, fun g => absurd rfl g⟩ : Apart zero _ _ _ _ k)⟩
      · rw [hst] at c6
        have HE : Hid (revE o r msg (oh, oa) t = 11) := by
          show _ = _
          unfold revE whenR
          rw [hb, ha, hst]
          by_cases h : r = 2
          · rw [if_pos h]; rfl
          · rw [if_neg h]; rfl
        clear hb ha hst
        have HNO := hide (no_any 11 x0)
        go_wp2_with fail
        refine (unhide HNO).mono ?_
        rintro e y ⟨rfl, oy⟩
        have hzy := ((unhide HZ).only (unhide Q0) (by show ¬ k2 = k1; omega)).same oy
        obtain ⟨hth, hfb, hin, hof⟩ := fin37 (in_zero y) (fun j hj => by simp [blk] at hj) hzy (cs0 := Zo) rfl
        rw [← zo_cells] at hth hfb hin hof
        have OF : Hid (Only (fun _ => False) w (y.setCells k2 0 Zo)) := (((unhide OW).trans (T := fun j => j = k1) (unhide Q0) (fun j hj e => by omega)).trans oy (fun _ _ e => e)).trans (T := fun j => j = k2) hof (fun j hj e => by omega)
        have HTH := hide hth
        have HFB := hide hfb
        have HIN := hide hin
        clear hth hfb hin hof hzy oy HNO
        go_wp2_with (refine wpList_store_mid rfl 32 (.tmp 10) (.tmp 91) rfl k2 0 Zo.toArray rfl rfl (unhide HTH) Tryd.sizeObj zo_one ?_)
        refine bodyPost_ret (results_st2 rfl _ _ k2 32 Zo.toArray rfl (unhide HFB) Tryd.rowObjM Tryd.sizeObj) rfl ?_
        exact ⟨.slice none 0 0, .slice none 0 0, .slice none 0 0, .slice none 0 0, by rw [unhide HE]; rfl, by rw [unhide HE]; exact unhide HIN, unhide OF, fun k _ => by rw [unhide HE]; exact (⟨fun g => absurd rfl g, fun g => absurd rfl g, fun g => absurd rfl g, fun g => absurd rfl g⟩ : Apart zero _ _ _ _ k)⟩
      · rw [hst] at c6
        by_cases hr : r = 2
        · as_aux_lemma =>
            subst hr
            have HWR : Hid (whenR o 2 = 6) := by show _ = _; unfold whenR; rw [if_pos rfl, hst]; rfl
            have HE0 : Hid (revE o 2 msg (oh, oa) t = 0) := by show _ = _; unfold revE; rw [hb, ha, unhide HWR, hst]; rfl
            clear hb ha hst
            go_upto_region 9 with fail
            clear ca c6
            have cS := (unhide HB0).cell 6 _ (cell_state o mv nv lv cv)
            have fS := (unhide HB0).free 6
            obtain ⟨P1, hP1⟩ : ∃ P, P = ({ o with state := 6 } : Ob) := ⟨_, rfl⟩
            have HB1 : Hid (Bx (x0.setCell ⟨k1, 6, none⟩ (.int .i64 6)) k1 32 (cells P1 mv nv lv cv)) := by
              have h := (unhide HB0).set 6 ((.int .i64 6))
              rw [set_state o mv nv lv cv (unhide HD0) 6, ← hP1] at h
              exact h
            have HD1 : Hid (P1.dates.length = 10) := by rw [hP1]; exact unhide HD0
            have HP1 := hide hP1
            have Q1 : Hid (Only (fun j => j = k1) w2 (x0.setCell ⟨k1, 6, none⟩ (.int .i64 6))) := (unhide Q0).here _ _
            clear hP1 HB0 Q0 HD0
            go_upto_region 11 with fail
            generalize (x0.setCell ⟨k1, 6, none⟩ (.int .i64 6)) = x1 at *
            clear cS fS
            as_aux_lemma =>
              have HON := hide (rdate_any t x1)
              go_wp2_with fail
              refine (unhide HON).mono ?_
              rintro e y1 ⟨rfl, oy⟩
              have HBy := hide ((unhide HB1).same oy)
              have QY := hide ((unhide Q1).trans oy (fun _ _ e => e.elim))
              clear oy HON
              have hdy := get_date P1 mv nv lv cv (unhide HD1) 7 (by decide)
              have ca := (unhide HBy).cell 21 _ hdy.1
              have cb := (unhide HBy).cell 22 _ hdy.2
              have fy := (unhide HBy).free
              obtain ⟨P2, hP2⟩ : ∃ P, P = dput P1 7 (true, t) := ⟨_, rfl⟩
              have HB2 : Hid (Bx ((y1.setCell ⟨k1, 21, none⟩ (.bool true)).setCell ⟨k1, 22, none⟩ (.int .i64 t)) k1 32 (cells P2 mv nv lv cv)) := by
                have h := setCells_blk [.bool true, .int .i64 t] y1 21 _ (unhide HBy)
                rw [set_date P1 mv nv lv cv (unhide HD1) 7 (by decide) true t] at h
                rw [hP2]
                exact h
              have HD2 : Hid (P2.dates.length = 10) := by rw [hP2]; show (List.set _ _ _).length = 10; rw [List.length_set]; exact unhide HD1
              have HP2 := hide hP2
              have Q2 : Hid (Only (fun j => j = k1) w2 ((y1.setCell ⟨k1, 21, none⟩ (.bool true)).setCell ⟨k1, 22, none⟩ (.int .i64 t))) := ((unhide QY).here _ _).here _ _
              clear hP2 hdy HB1 Q1 HD1
              go_upto_region 12 with fail
              generalize ((y1.setCell ⟨k1, 21, none⟩ (.bool true)).setCell ⟨k1, 22, none⟩ (.int .i64 t)) = x2 at *
              clear ca cb fy
              as_aux_lemma =>
                clear HBy QY
                have HBK := hide ((unhide HBD).only (unhide Q2) (by show ¬ kd = k1; omega))
                cases oh with
                | true =>
                  have HE := HE0
                  clear HE0
                  have d0 := (unhide HBK).cell 0 (.bool true) rfl
                  have d1 := (unhide HBK).cell 1 (.int .i64 oa) rfl
                  have hdy := get_date P2 mv nv lv cv (unhide HD2) 6 (by decide)
                  have ca := (unhide HB2).cell 19 _ hdy.1
                  have cb := (unhide HB2).cell 20 _ hdy.2
                  have fy := (unhide HB2).free
                  obtain ⟨P3, hP3⟩ : ∃ P, P = dput P2 6 (true, oa) := ⟨_, rfl⟩
                  have HB3 : Hid (Bx ((x2.setCell ⟨k1, 19, none⟩ (.bool true)).setCell ⟨k1, 20, none⟩ (.int .i64 oa)) k1 32 (cells P3 mv nv lv cv)) := by
                    have h := setCells_blk [.bool true, .int .i64 oa] x2 19 _ (unhide HB2)
                    rw [set_date P2 mv nv lv cv (unhide HD2) 6 (by decide) true oa] at h
                    rw [hP3]
                    exact h
                  have HD3 : Hid (P3.dates.length = 10) := by rw [hP3]; show (List.set _ _ _).length = 10; rw [List.length_set]; exact unhide HD2
                  have HP3 := hide hP3
                  have Q3 : Hid (Only (fun j => j = k1) w2 ((x2.setCell ⟨k1, 19, none⟩ (.bool true)).setCell ⟨k1, 20, none⟩ (.int .i64 oa))) := ((unhide Q2).here _ _).here _ _
                  clear hP3 hdy HB2 Q2 HD2
                  go_upto_region 13 with fail
                  generalize ((x2.setCell ⟨k1, 19, none⟩ (.bool true)).setCell ⟨k1, 20, none⟩ (.int .i64 oa)) = x3 at *
                  clear ca cb fy
                  as_aux_lemma =>
                    clear d0 d1
                    have HBK3 := hide ((unhide HBD).only (unhide Q3) (by show ¬ kd = k1; omega))
                    have d0 := (unhide HBK3).cell 0 (.bool true) rfl
                    go_upto_region 17 with fail
                    clear d0 HBK3
                    have cS := (unhide HB3).cell 27 _ (cells_back P3 mv nv lv cv (unhide HD3) 0)
                    have fS := (unhide HB3).free 27
                    obtain ⟨P4, hP4⟩ : ∃ P, P = ({ P3 with reason := 2 } : Ob) := ⟨_, rfl⟩
                    have HB4 : Hid (Bx (x3.setCell ⟨k1, 27, none⟩ (.int .i64 2)) k1 32 (cells P4 mv nv lv cv)) := by
                      have h := (unhide HB3).set 27 ((.int .i64 2))
                      rw [set_reason P3 mv nv lv cv (unhide HD3) 2, ← hP4] at h
                      exact h
                    have HD4 : Hid (P4.dates.length = 10) := by rw [hP4]; exact unhide HD3
                    have HP4 := hide hP4
                    have Q4 : Hid (Only (fun j => j = k1) w2 (x3.setCell ⟨k1, 27, none⟩ (.int .i64 2))) := (unhide Q3).here _ _
                    clear hP4 HB3 Q3 HD3
                    go_upto_region 18 with fail
                    generalize (x3.setCell ⟨k1, 27, none⟩ (.int .i64 2)) = x4 at *
                    clear cS fS
                    as_aux_lemma =>
                      have hsm := set_msg P4 mv nv lv cv (unhide HD4) msg
                      rw [← unhide HMS] at hsm
                      have cS := (unhide HB4).cell 28 _ (cells_back P4 mv nv lv cv (unhide HD4) 1)
                      have fS := (unhide HB4).free 28
                      obtain ⟨P5, hP5⟩ : ∃ P, P = ({ P4 with msg := msg } : Ob) := ⟨_, rfl⟩
                      have HB5 : Hid (Bx (x4.setCell ⟨k1, 28, none⟩ (.string MS)) k1 32 (cells P5 mv nv lv cv)) := by
                        have h := (unhide HB4).set 28 ((.string MS))
                        rw [hsm, ← hP5] at h
                        exact h
                      have HD5 : Hid (P5.dates.length = 10) := by rw [hP5]; exact unhide HD4
                      have HP5 := hide hP5
                      have Q5 : Hid (Only (fun j => j = k1) w2 (x4.setCell ⟨k1, 28, none⟩ (.string MS))) := (unhide Q4).here _ _
                      clear hP5 HB4 Q4 HD4
                      go_upto_region 19 with fail
                      generalize (x4.setCell ⟨k1, 28, none⟩ (.string MS)) = x5 at *
                      clear cS fS
                      as_aux_lemma =>
                        have HON := hide (rdate_any t x5)
                        go_wp2_with fail
                        refine (unhide HON).mono ?_
                        rintro e y5 ⟨rfl, oy⟩
                        have HBy := hide ((unhide HB5).same oy)
                        have QY := hide ((unhide Q5).trans oy (fun _ _ e => e.elim))
                        clear oy HON
                        have hdy := get_date P5 mv nv lv cv (unhide HD5) 9 (by decide)
                        have ca := (unhide HBy).cell 25 _ hdy.1
                        have cb := (unhide HBy).cell 26 _ hdy.2
                        have fy := (unhide HBy).free
                        obtain ⟨P6, hP6⟩ : ∃ P, P = dput P5 9 (true, t) := ⟨_, rfl⟩
                        have HB6 : Hid (Bx ((y5.setCell ⟨k1, 25, none⟩ (.bool true)).setCell ⟨k1, 26, none⟩ (.int .i64 t)) k1 32 (cells P6 mv nv lv cv)) := by
                          have h := setCells_blk [.bool true, .int .i64 t] y5 25 _ (unhide HBy)
                          rw [set_date P5 mv nv lv cv (unhide HD5) 9 (by decide) true t] at h
                          rw [hP6]
                          exact h
                        have HD6 : Hid (P6.dates.length = 10) := by rw [hP6]; show (List.set _ _ _).length = 10; rw [List.length_set]; exact unhide HD5
                        have HP6 := hide hP6
                        have Q6 : Hid (Only (fun j => j = k1) w2 ((y5.setCell ⟨k1, 25, none⟩ (.bool true)).setCell ⟨k1, 26, none⟩ (.int .i64 t))) := ((unhide QY).here _ _).here _ _
                        clear hP6 hdy HB5 Q5 HD5
                        go_upto_region 20 with fail
                        generalize ((y5.setCell ⟨k1, 25, none⟩ (.bool true)).setCell ⟨k1, 26, none⟩ (.int .i64 t)) = x6 at *
                        clear ca cb fy
                        as_aux_lemma =>
                          clear HBy QY
                          have OWn : Hid (Only (fun _ => False) w x6) := (unhide OW).trans (T := fun j => j = k1) (unhide Q6) (fun j hj e => by omega)
                          have IU : In x6 (revU o 2 msg (true, oa) t) mv nv lv cv := by rw [revU_eq]; exact in_dput (in_revM ((unhide HI).same (unhide OWn)) 2 msg (true, oa) t (unhide HR64) (unhide HOC) (unhide HL) (unhide HT)) 9 (true, t) (unhide HT)
                          have hfin : P6 = revU o 2 msg (true, oa) t := by
                            rw [revU_eq]
                            unfold revM revP
                            rw [if_pos rfl, unhide HWR, unhide HP6, unhide HP5, unhide HP4, unhide HP3, unhide HP2, unhide HP1]
                            rfl
                          have HBF := unhide HB6
                          rw [hfin] at HBF
                          clear hfin
                          have HAPU : Apart (revU o 2 msg (true, oa) t) mv nv lv cv k2 := by
                            have hs := (unhide OW).size
                            have hi := unhide HI
                            have hm : ∀ j, (blk mv = some j ∧ o.mat ≠ [] ∨ blk nv = some j ∧ o.names ≠ [] ∨ blk lv = some j ∧ o.links ≠ [] ∨ blk cv = some j ∧ o.custom ≠ []) → ¬ j = k2 := fun j hj e => by
                              rcases hj with ⟨h, g⟩ | ⟨h, g⟩ | ⟨h, g⟩ | ⟨h, g⟩
                              · have := hi.mat.blk_lt g j h; omega
                              · have := hi.names.lt g j h; omega
                              · have := hi.links.lt g j h; omega
                              · have := hi.custom.lt g j h; omega
                            exact ⟨fun g j h => hm j (Or.inl ⟨h, fun e => g ((revU_same _ _ _ _ _).1.trans e)⟩), fun g j h => hm j (Or.inr (Or.inl ⟨h, fun e => g ((revU_same _ _ _ _ _).2.1.trans e)⟩)), fun g j h => hm j (Or.inr (Or.inr (Or.inl ⟨h, fun e => g ((revU_same _ _ _ _ _).2.2.1.trans e)⟩))), fun g j h => hm j (Or.inr (Or.inr (Or.inr ⟨h, fun e => g ((revU_same _ _ _ _ _).2.2.2.trans e)⟩)))⟩
                          obtain ⟨hth, hfb, hin, hof⟩ := store_var IU HAPU ((unhide HZ).only (unhide Q6) (by show ¬ k2 = k1; omega)) (cs0 := Zo) rfl
                          have HONE := hide IU.one
                          have HR := hide (Bx.whole HBF IU.ten)
                          have HSZB := hide (size_cells (revU o 2 msg (true, oa) t) mv nv lv cv IU.ten)
                          have HSZA := hide (size_cellsA (revU o 2 msg (true, oa) t) mv nv lv cv IU.ten)
                          have HTH := hide hth
                          have HFB := hide hfb
                          have HIN := hide hin
                          have HOF := hide hof
                          obtain ⟨B, hB⟩ : ∃ B, B = cells (revU o 2 msg (true, oa) t) mv nv lv cv := ⟨_, rfl⟩
                          rw [← hB] at HONE HR HSZA HSZB HTH HFB HIN HOF
                          have HBB := hide hB
                          clear hth hfb hin hof IU HAPU hB HBF HB6 Q6 HD6
                          go_wp2_with (first | (refine wpList_load_mid rfl 32 (.tmp 5) rfl k1 0 rfl B dsc (unhide HR) hdu hdr (unhide HSZB) ?_) | (refine wpList_store_mid rfl 32 (.tmp 10) (.tmp 128) rfl k2 0 B.toArray rfl rfl (unhide HTH) (unhide HSZA) (unhide HONE) ?_))
                          refine bodyPost_ret (results_st2 rfl _ _ k2 32 B.toArray rfl (unhide HFB) Tryd.rowObjM (unhide HSZA)) rfl ?_
                          exact ⟨mv, nv, lv, cv, by rw [unhide HE, unhide HBB]; rfl, by rw [unhide HE]; exact unhide HIN, (unhide OWn).trans (T := fun j => j = k2) (unhide HOF) (fun j hj e => by omega), fun k hA => by rw [unhide HE]; exact (⟨fun g j h => hA.mat (fun e => g ((revU_same _ _ _ _ _).1.trans e)) j h, fun g j h => hA.names (fun e => g ((revU_same _ _ _ _ _).2.1.trans e)) j h, fun g j h => hA.links (fun e => g ((revU_same _ _ _ _ _).2.2.1.trans e)) j h, fun g j h => hA.custom (fun e => g ((revU_same _ _ _ _ _).2.2.2.trans e)) j h⟩ : Apart (revU o 2 msg (true, oa) t) mv nv lv cv k)⟩
                | false =>
                  have HE := HE0
                  clear HE0
                  have d0 := (unhide HBK).cell 0 (.bool false) rfl
                  have d1 := (unhide HBK).cell 1 (.int .i64 oa) rfl
                  have hdy := get_date P2 mv nv lv cv (unhide HD2) 6 (by decide)
                  have ca := (unhide HB2).cell 19 _ hdy.1
                  have cb := (unhide HB2).cell 20 _ hdy.2
                  have fy := (unhide HB2).free
                  obtain ⟨P3, hP3⟩ : ∃ P, P = dput P2 6 (false, oa) := ⟨_, rfl⟩
                  have HB3 : Hid (Bx ((x2.setCell ⟨k1, 19, none⟩ (.bool false)).setCell ⟨k1, 20, none⟩ (.int .i64 oa)) k1 32 (cells P3 mv nv lv cv)) := by
                    have h := setCells_blk [.bool false, .int .i64 oa] x2 19 _ (unhide HB2)
                    rw [set_date P2 mv nv lv cv (unhide HD2) 6 (by decide) false oa] at h
                    rw [hP3]
                    exact h
                  have HD3 : Hid (P3.dates.length = 10) := by rw [hP3]; show (List.set _ _ _).length = 10; rw [List.length_set]; exact unhide HD2
                  have HP3 := hide hP3
                  have Q3 : Hid (Only (fun j => j = k1) w2 ((x2.setCell ⟨k1, 19, none⟩ (.bool false)).setCell ⟨k1, 20, none⟩ (.int .i64 oa))) := ((unhide Q2).here _ _).here _ _
                  clear hP3 hdy HB2 Q2 HD2
                  go_upto_region 13 with fail
                  generalize ((x2.setCell ⟨k1, 19, none⟩ (.bool false)).setCell ⟨k1, 20, none⟩ (.int .i64 oa)) = x3 at *
                  clear ca cb fy
                  as_aux_lemma =>
                    clear d0 d1
                    have HBK3 := hide ((unhide HBD).only (unhide Q3) (by show ¬ kd = k1; omega))
                    have d0 := (unhide HBK3).cell 0 (.bool false) rfl
                    go_upto_region 14 with fail
                    clear d0 HBK3
                    have hg := get_date P3 mv nv lv cv (unhide HD3) 0 (by decide)
                    have HG : Hid (P3.dates.getD 0 (false, 0) = dget o 0) := by
                      show dget P3 0 = dget o 0
                      rw [unhide HP3, unhide HP2, unhide HP1, dget_dput _ 6 0 _ (by decide), dget_dput _ 7 0 _ (by decide)]
                      rfl
                    rw [unhide HG] at hg
                    obtain ⟨g1, hg1⟩ : ∃ g, g = (dget o 0).1 := ⟨_, rfl⟩
                    obtain ⟨g2, hg2⟩ : ∃ g, g = (dget o 0).2 := ⟨_, rfl⟩
                    rw [← hg1, ← hg2] at hg
                    have HGG : Hid ((g1, g2) = dget o 0) := by show _ = _; rw [hg1, hg2]
                    have q1 := (unhide HB3).cell 7 _ hg.1
                    have q2 := (unhide HB3).cell 8 _ hg.2
                    clear hg hg1 hg2 HG
                    have hdy := get_date P3 mv nv lv cv (unhide HD3) 6 (by decide)
                    have ca := (unhide HB3).cell 19 _ hdy.1
                    have cb := (unhide HB3).cell 20 _ hdy.2
                    have fy := (unhide HB3).free
                    obtain ⟨P4, hP4⟩ : ∃ P, P = dput P3 6 (g1, g2) := ⟨_, rfl⟩
                    have HB4 : Hid (Bx ((x3.setCell ⟨k1, 19, none⟩ (.bool g1)).setCell ⟨k1, 20, none⟩ (.int .i64 g2)) k1 32 (cells P4 mv nv lv cv)) := by
                      have h := setCells_blk [.bool g1, .int .i64 g2] x3 19 _ (unhide HB3)
                      rw [set_date P3 mv nv lv cv (unhide HD3) 6 (by decide) g1 g2] at h
                      rw [hP4]
                      exact h
                    have HD4 : Hid (P4.dates.length = 10) := by rw [hP4]; show (List.set _ _ _).length = 10; rw [List.length_set]; exact unhide HD3
                    have HP4 := hide hP4
                    have Q4 : Hid (Only (fun j => j = k1) w2 ((x3.setCell ⟨k1, 19, none⟩ (.bool g1)).setCell ⟨k1, 20, none⟩ (.int .i64 g2))) := ((unhide Q3).here _ _).here _ _
                    clear hP4 hdy HB3 Q3 HD3
                    go_upto_region 17 with fail
                    generalize ((x3.setCell ⟨k1, 19, none⟩ (.bool g1)).setCell ⟨k1, 20, none⟩ (.int .i64 g2)) = x4 at *
                    clear ca cb fy
                    as_aux_lemma =>
                      clear q1 q2
                      have cS := (unhide HB4).cell 27 _ (cells_back P4 mv nv lv cv (unhide HD4) 0)
                      have fS := (unhide HB4).free 27
                      obtain ⟨P5, hP5⟩ : ∃ P, P = ({ P4 with reason := 2 } : Ob) := ⟨_, rfl⟩
                      have HB5 : Hid (Bx (x4.setCell ⟨k1, 27, none⟩ (.int .i64 2)) k1 32 (cells P5 mv nv lv cv)) := by
                        have h := (unhide HB4).set 27 ((.int .i64 2))
                        rw [set_reason P4 mv nv lv cv (unhide HD4) 2, ← hP5] at h
                        exact h
                      have HD5 : Hid (P5.dates.length = 10) := by rw [hP5]; exact unhide HD4
                      have HP5 := hide hP5
                      have Q5 : Hid (Only (fun j => j = k1) w2 (x4.setCell ⟨k1, 27, none⟩ (.int .i64 2))) := (unhide Q4).here _ _
                      clear hP5 HB4 Q4 HD4
                      go_upto_region 18 with fail
                      generalize (x4.setCell ⟨k1, 27, none⟩ (.int .i64 2)) = x5 at *
                      clear cS fS
                      as_aux_lemma =>
                        have hsm := set_msg P5 mv nv lv cv (unhide HD5) msg
                        rw [← unhide HMS] at hsm
                        have cS := (unhide HB5).cell 28 _ (cells_back P5 mv nv lv cv (unhide HD5) 1)
                        have fS := (unhide HB5).free 28
                        obtain ⟨P6, hP6⟩ : ∃ P, P = ({ P5 with msg := msg } : Ob) := ⟨_, rfl⟩
                        have HB6 : Hid (Bx (x5.setCell ⟨k1, 28, none⟩ (.string MS)) k1 32 (cells P6 mv nv lv cv)) := by
                          have h := (unhide HB5).set 28 ((.string MS))
                          rw [hsm, ← hP6] at h
                          exact h
                        have HD6 : Hid (P6.dates.length = 10) := by rw [hP6]; exact unhide HD5
                        have HP6 := hide hP6
                        have Q6 : Hid (Only (fun j => j = k1) w2 (x5.setCell ⟨k1, 28, none⟩ (.string MS))) := (unhide Q5).here _ _
                        clear hP6 HB5 Q5 HD5
                        go_upto_region 19 with fail
                        generalize (x5.setCell ⟨k1, 28, none⟩ (.string MS)) = x6 at *
                        clear cS fS
                        as_aux_lemma =>
                          have HON := hide (rdate_any t x6)
                          go_wp2_with fail
                          refine (unhide HON).mono ?_
                          rintro e y6 ⟨rfl, oy⟩
                          have HBy := hide ((unhide HB6).same oy)
                          have QY := hide ((unhide Q6).trans oy (fun _ _ e => e.elim))
                          clear oy HON
                          have hdy := get_date P6 mv nv lv cv (unhide HD6) 9 (by decide)
                          have ca := (unhide HBy).cell 25 _ hdy.1
                          have cb := (unhide HBy).cell 26 _ hdy.2
                          have fy := (unhide HBy).free
                          obtain ⟨P7, hP7⟩ : ∃ P, P = dput P6 9 (true, t) := ⟨_, rfl⟩
                          have HB7 : Hid (Bx ((y6.setCell ⟨k1, 25, none⟩ (.bool true)).setCell ⟨k1, 26, none⟩ (.int .i64 t)) k1 32 (cells P7 mv nv lv cv)) := by
                            have h := setCells_blk [.bool true, .int .i64 t] y6 25 _ (unhide HBy)
                            rw [set_date P6 mv nv lv cv (unhide HD6) 9 (by decide) true t] at h
                            rw [hP7]
                            exact h
                          have HD7 : Hid (P7.dates.length = 10) := by rw [hP7]; show (List.set _ _ _).length = 10; rw [List.length_set]; exact unhide HD6
                          have HP7 := hide hP7
                          have Q7 : Hid (Only (fun j => j = k1) w2 ((y6.setCell ⟨k1, 25, none⟩ (.bool true)).setCell ⟨k1, 26, none⟩ (.int .i64 t))) := ((unhide QY).here _ _).here _ _
                          clear hP7 hdy HB6 Q6 HD6
                          go_upto_region 20 with fail
                          generalize ((y6.setCell ⟨k1, 25, none⟩ (.bool true)).setCell ⟨k1, 26, none⟩ (.int .i64 t)) = x7 at *
                          clear ca cb fy
                          as_aux_lemma =>
                            clear HBy QY
                            have OWn : Hid (Only (fun _ => False) w x7) := (unhide OW).trans (T := fun j => j = k1) (unhide Q7) (fun j hj e => by omega)
                            have IU : In x7 (revU o 2 msg (false, oa) t) mv nv lv cv := by rw [revU_eq]; exact in_dput (in_revM ((unhide HI).same (unhide OWn)) 2 msg (false, oa) t (unhide HR64) (unhide HOC) (unhide HL) (unhide HT)) 9 (true, t) (unhide HT)
                            have hfin : P7 = revU o 2 msg (false, oa) t := by
                              rw [revU_eq]
                              unfold revM revP
                              rw [if_pos rfl, unhide HWR, if_neg (show ¬ (false, oa).fst = true from Bool.false_ne_true), ← unhide HGG, unhide HP7, unhide HP6, unhide HP5, unhide HP4, unhide HP3, dput_again, unhide HP2, unhide HP1]
                              rfl
                            have HBF := unhide HB7
                            rw [hfin] at HBF
                            clear hfin
                            have HAPU : Apart (revU o 2 msg (false, oa) t) mv nv lv cv k2 := by
                              have hs := (unhide OW).size
                              have hi := unhide HI
                              have hm : ∀ j, (blk mv = some j ∧ o.mat ≠ [] ∨ blk nv = some j ∧ o.names ≠ [] ∨ blk lv = some j ∧ o.links ≠ [] ∨ blk cv = some j ∧ o.custom ≠ []) → ¬ j = k2 := fun j hj e => by
                                rcases hj with ⟨h, g⟩ | ⟨h, g⟩ | ⟨h, g⟩ | ⟨h, g⟩
                                · have := hi.mat.blk_lt g j h; omega
                                · have := hi.names.lt g j h; omega
                                · have := hi.links.lt g j h; omega
                                · have := hi.custom.lt g j h; omega
                              exact ⟨fun g j h => hm j (Or.inl ⟨h, fun e => g ((revU_same _ _ _ _ _).1.trans e)⟩), fun g j h => hm j (Or.inr (Or.inl ⟨h, fun e => g ((revU_same _ _ _ _ _).2.1.trans e)⟩)), fun g j h => hm j (Or.inr (Or.inr (Or.inl ⟨h, fun e => g ((revU_same _ _ _ _ _).2.2.1.trans e)⟩))), fun g j h => hm j (Or.inr (Or.inr (Or.inr ⟨h, fun e => g ((revU_same _ _ _ _ _).2.2.2.trans e)⟩)))⟩
                            obtain ⟨hth, hfb, hin, hof⟩ := store_var IU HAPU ((unhide HZ).only (unhide Q7) (by show ¬ k2 = k1; omega)) (cs0 := Zo) rfl
                            have HONE := hide IU.one
                            have HR := hide (Bx.whole HBF IU.ten)
                            have HSZB := hide (size_cells (revU o 2 msg (false, oa) t) mv nv lv cv IU.ten)
                            have HSZA := hide (size_cellsA (revU o 2 msg (false, oa) t) mv nv lv cv IU.ten)
                            have HTH := hide hth
                            have HFB := hide hfb
                            have HIN := hide hin
                            have HOF := hide hof
                            obtain ⟨B, hB⟩ : ∃ B, B = cells (revU o 2 msg (false, oa) t) mv nv lv cv := ⟨_, rfl⟩
                            rw [← hB] at HONE HR HSZA HSZB HTH HFB HIN HOF
                            have HBB := hide hB
                            clear hth hfb hin hof IU HAPU hB HBF HB7 Q7 HD7
                            go_wp2_with (first | (refine wpList_load_mid rfl 32 (.tmp 5) rfl k1 0 rfl B dsc (unhide HR) hdu hdr (unhide HSZB) ?_) | (refine wpList_store_mid rfl 32 (.tmp 10) (.tmp 128) rfl k2 0 B.toArray rfl rfl (unhide HTH) (unhide HSZA) (unhide HONE) ?_))
                            refine bodyPost_ret (results_st2 rfl _ _ k2 32 B.toArray rfl (unhide HFB) Tryd.rowObjM (unhide HSZA)) rfl ?_
                            exact ⟨mv, nv, lv, cv, by rw [unhide HE, unhide HBB]; rfl, by rw [unhide HE]; exact unhide HIN, (unhide OWn).trans (T := fun j => j = k2) (unhide HOF) (fun j hj e => by omega), fun k hA => by rw [unhide HE]; exact (⟨fun g j h => hA.mat (fun e => g ((revU_same _ _ _ _ _).1.trans e)) j h, fun g j h => hA.names (fun e => g ((revU_same _ _ _ _ _).2.1.trans e)) j h, fun g j h => hA.links (fun e => g ((revU_same _ _ _ _ _).2.2.1.trans e)) j h, fun g j h => hA.custom (fun e => g ((revU_same _ _ _ _ _).2.2.2.trans e)) j h⟩ : Apart (revU o 2 msg (false, oa) t) mv nv lv cv k)⟩
        · as_aux_lemma =>
            have HE : Hid (revE o r msg (oh, oa) t = 11) := by
              show _ = _
              unfold revE whenR
              rw [hb, ha, hst, if_neg hr]
              rfl
            clear hb ha hst
            have HNO := hide (no_any 11 x0)
            go_wp2_with fail
            refine (unhide HNO).mono ?_
            rintro e y ⟨rfl, oy⟩
            have hzy := ((unhide HZ).only (unhide Q0) (by show ¬ k2 = k1; omega)).same oy
            obtain ⟨hth, hfb, hin, hof⟩ := fin37 (in_zero y) (fun j hj => by simp [blk] at hj) hzy (cs0 := Zo) rfl
            rw [← zo_cells] at hth hfb hin hof
            have OF : Hid (Only (fun _ => False) w (y.setCells k2 0 Zo)) := (((unhide OW).trans (T := fun j => j = k1) (unhide Q0) (fun j hj e => by omega)).trans oy (fun _ _ e => e)).trans (T := fun j => j = k2) hof (fun j hj e => by omega)
            have HTH := hide hth
            have HFB := hide hfb
            have HIN := hide hin
            clear hth hfb hin hof hzy oy HNO
            go_wp2_with (refine wpList_store_mid rfl 32 (.tmp 10) (.tmp 91) rfl k2 0 Zo.toArray rfl rfl (unhide HTH) Tryd.sizeObj zo_one ?_)
            refine bodyPost_ret (results_st2 rfl _ _ k2 32 Zo.toArray rfl (unhide HFB) Tryd.rowObjM Tryd.sizeObj) rfl ?_
            exact ⟨.slice none 0 0, .slice none 0 0, .slice none 0 0, .slice none 0 0, by rw [unhide HE]; rfl, by rw [unhide HE]; exact unhide HIN, unhide OF, fun k _ => by rw [unhide HE]; exact (⟨fun g => absurd rfl g, fun g => absurd rfl g, fun g => absurd rfl g, fun g => absurd rfl g⟩ : Apart zero _ _ _ _ k)⟩
      · rw [hst] at c6
        have HE : Hid (revE o r msg (oh, oa) t = 11) := by
          show _ = _
          unfold revE whenR
          rw [hb, ha, hst]
          by_cases h : r = 2
          · rw [if_pos h]; rfl
          · rw [if_neg h]; rfl
        clear hb ha hst
        have HNO := hide (no_any 11 x0)
        go_wp2_with fail
        refine (unhide HNO).mono ?_
        rintro e y ⟨rfl, oy⟩
        have hzy := ((unhide HZ).only (unhide Q0) (by show ¬ k2 = k1; omega)).same oy
        obtain ⟨hth, hfb, hin, hof⟩ := fin37 (in_zero y) (fun j hj => by simp [blk] at hj) hzy (cs0 := Zo) rfl
        rw [← zo_cells] at hth hfb hin hof
        have OF : Hid (Only (fun _ => False) w (y.setCells k2 0 Zo)) := (((unhide OW).trans (T := fun j => j = k1) (unhide Q0) (fun j hj e => by omega)).trans oy (fun _ _ e => e)).trans (T := fun j => j = k2) hof (fun j hj e => by omega)
        have HTH := hide hth
        have HFB := hide hfb
        have HIN := hide hin
        clear hth hfb hin hof hzy oy HNO
        go_wp2_with (refine wpList_store_mid rfl 32 (.tmp 10) (.tmp 91) rfl k2 0 Zo.toArray rfl rfl (unhide HTH) Tryd.sizeObj zo_one ?_)
        refine bodyPost_ret (results_st2 rfl _ _ k2 32 Zo.toArray rfl (unhide HFB) Tryd.rowObjM Tryd.sizeObj) rfl ?_
        exact ⟨.slice none 0 0, .slice none 0 0, .slice none 0 0, .slice none 0 0, by rw [unhide HE]; rfl, by rw [unhide HE]; exact unhide HIN, unhide OF, fun k _ => by rw [unhide HE]; exact (⟨fun g => absurd rfl g, fun g => absurd rfl g, fun g => absurd rfl g, fun g => absurd rfl g⟩ : Apart zero _ _ _ _ k)⟩
end Ob
end Go.Proofs.YtadpmninoghcjaaDoor
