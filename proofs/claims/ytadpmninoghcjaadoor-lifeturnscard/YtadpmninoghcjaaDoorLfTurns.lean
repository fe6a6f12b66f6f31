/-
  locksmithlaw11.LifeTurns: what each call makes of any object is the reference's.
-/
import Derived.Test.YtadpmninoghcjaaDoorLfKnow
import Derived.Test.YtadpmninoghcjaaDoorHoObj
import Derived.Test.YtadpmninoghcjaaDoorLfRevoke
import Derived.Test.YtadpmninoghcjaaDoorLfRsame
import Derived.Test.YtadpmninoghcjaaDoorLfRturn1
import Derived.Test.YtadpmninoghcjaaDoorHandPick
import Derived.Test.YtadpmninoghcjaaDoorArgB
namespace Go.Proofs.YtadpmninoghcjaaDoor
open Go.RowKit
set_option linter.unusedSimpArgs false
set_option linter.unusedVariables false
namespace Ob
open Go.ChangeShapes Go.WideShapes Go.ChangeAt Go.Deep in
theorem trod_struct2L {P : Program} {H : Type} {enc : TypeId × Value → H} {w : World} {base : Nat} {spare : Nat → Bool} {held : Bool} {t : TypeId} {f0 f1 : Field} {fuel : Nat} {cs : List Value} {x : DataW H × List MemPlace} (ht : P.underlying t = some (.struct #[f0, f1])) (h : DataW.trod enc P w base spare held fuel t cs = some x) :
    ∃ y0 y1 n, cs.length = P.cellsOf t ∧ DataW.trod enc P w base spare held n f0.type ((cs.drop f0.offset).take (P.cellsOf f0.type)) = some y0 ∧ DataW.trod enc P w base spare held n f1.type ((cs.drop f1.offset).take (P.cellsOf f1.type)) = some y1 := by
  obtain ⟨xs, n, _, _, hl, hlen, hf⟩ := DataW.trod_struct ht h
  match xs, hlen with
  | [y0, y1], _ => exact ⟨y0, y1, n, hl, by simpa using hf 0 f0 rfl, by simpa using hf 1 f1 rfl⟩
theorem Tryd.cellsDateL : Tryd.prog.cellsOf 24 = 2 := by kernel_rfl
theorem Tryd.cellsBoolL : Tryd.prog.cellsOf 4 = 1 := by kernel_rfl
theorem Tryd.cellsInt64L : Tryd.prog.cellsOf 2 = 1 := by kernel_rfl
open Go.ChangeShapes Go.WideShapes Go.ChangeAt Go.Deep in
set_option maxRecDepth 100000 in
theorem date_of_trod {H : Type} {enc : TypeId × Value → H} {w : World} {base : Nat} {spare : Nat → Bool} {held : Bool} {fuel : Nat} {cs : List Value} {x : DataW H × List MemPlace} (h : DataW.trod enc Tryd.prog w base spare held fuel 24 cs = some x) :
    ∃ d : Bool × Int, cs = [.bool d.1, .int .i64 d.2] ∧ W64 d.2 := by
  obtain ⟨y0, y1, n, hl, h0, h1⟩ := trod_struct2L Tryd.underlying24 h
  rw [Tryd.cellsDateL] at hl
  match cs, hl with
  | [c0, c1], _ =>
    simp only [Tryd.cellsBoolL, Tryd.cellsInt64L, List.drop_zero, List.take_succ_cons, List.take_zero, List.drop_succ_cons] at h0 h1
    obtain ⟨a0, e0, _⟩ := DataW.trod_bool Tryd.underlying4 h0
    obtain ⟨a1, e1, _, wa1⟩ := DataW.trod_int Tryd.underlying2 h1
    simp only [List.cons.injEq, and_true] at e0 e1
    subst e0; subst e1
    exact ⟨(a0, a1), rfl, w64_ofH wa1⟩
/-- lists that lay in an earlier world lie off a later block -/
theorem In.apart0 {w w0 : World} {o : Ob} {mv nv lv cv : Value} (_ : In w o mv nv lv cv) {k : Nat} (h : In w0 o mv nv lv cv) (hk : w0.heap.size ≤ k) : Apart o mv nv lv cv k := h.apart hk
/-- both answers: ours and the reference's -/
def TCut (w wx : World) (ka kb : Nat) (p q : Value) : Prop :=
  ∃ (E : Int) (U : Ob) (m n l c m2 n2 l2 c2 : Value), p = .int .i64 E ∧ q = .int .i64 E ∧ Bx wx ka 32 (cells U m n l c) ∧ In wx U m n l c ∧ Bx wx kb 32 (cells U m2 n2 l2 c2) ∧ In wx U m2 n2 l2 c2 ∧ Only (fun _ => False) w wx

set_option maxRecDepth 100000 in
set_option maxHeartbeats 16000000 in
theorem turns_any (x : RawH) (hx : x.Ok) (rv : Value) (m : Nat) (X : Nat → RawH) (which reason now : Int) (msg : List UInt8) (hl : msg.length ≤ maxLen) (oc : Bool × Int) (hoc : W64 oc.2) (w : World) (hR : RawsH w rv m X) (hT : Tabs w) :
    Calls Tryd.prog 4 #[.agg x.cells.toArray, rv, .int .i64 which, .int .i64 reason, .int .i64 now, .string (str msg), .agg #[.bool oc.1, .int .i64 oc.2]] w fun e w' => e = .returned (.bool true) ∧ Only (fun _ => False) w w' := by
  have HTB := hide hT
  have HOC := hide hoc
  have HL := hide hl
  obtain ⟨MS, hMS⟩ : ∃ MS, MS = str msg := ⟨_, rfl⟩
  have HMS := hide hMS
  rw [← hMS]
  have P10 := hide (fun W => pick_any reason 10 W (by decide) (by decide))
  obtain ⟨r, hr⟩ : ∃ r, r = reason % 10 := ⟨_, rfl⟩
  have hr0 : 0 ≤ r := by rw [hr]; exact Int.emod_nonneg _ (by decide)
  have hr1' : r < 10 := by rw [hr]; exact Int.emod_lt_of_pos _ (by decide)
  have HR64 : Hid (W64 r) := by show W64 _; unfold W64; omega
  have HRC : Hid (r = 0 ∨ r = 1 ∨ r = 2 ∨ r = 3 ∨ r = 4 ∨ r = 5 ∨ r = 6 ∨ r = 7 ∨ r = 8 ∨ r = 9) := by show _ ∨ _; omega
  rw [← hr] at P10
  clear hr hr0 hr1' hT hoc hl hMS
  have P5 := hide (fun W => pick_any which 5 W (by decide) (by decide))
  obtain ⟨q, hq⟩ : ∃ q, q = which % 5 := ⟨_, rfl⟩
  have HQC : Hid (q = 0 ∨ q = 1 ∨ q = 2 ∨ q = 3 ∨ q = 4) := by show _ ∨ _; omega
  rw [← hq] at P5
  clear hq
  obtain ⟨w1, k1, e1, ek1, hb1, o1, hs1⟩ := boxed w x.cells.toArray 41
  rw [List.toList_toArray] at hb1
  obtain ⟨wd, kd, ed, ekd, hbd, od, hzd⟩ := boxed w1 #[.bool oc.1, .int .i64 oc.2] 24
  have HOB := hide (hObj_any x hx rv m X wd ((hR.same o1).same od))
  have O1 := hide (o1.trans od (fun _ _ e => e))
  have HBD0 : Hid (Bx wd kd 24 [.bool oc.1, .int .i64 oc.2]) := hbd
  have HED := hide ed
  have HK1d : Hid (k1 + 1 = kd) := by show _ = _; omega
  have hwd : w.heap.size ≤ kd := by omega
  have HE1 := hide e1
  have HEK1 := hide ek1
  obtain ⟨o, ho⟩ : ∃ o, o = hO x m X := ⟨_, rfl⟩
  have HSM : Hid (Small o) := by rw [ho]; exact hO_small x m X
  have HOK : Hid (o = hO x m X) := ho
  rw [← ho] at HOB
  have hr1 := (hb1.same od).range 0 4
  rw [List.drop_zero, List.take_of_length_le (by show 4 ≤ 4; omega)] at hr1
  obtain ⟨dsr, hru, hrd⟩ := row_desc Tryd.rowRawH
  have hrs : (Tryd.prog.info? 41).map (·.size) = some x.cells.length := Tryd.sizeRawH
  obtain ⟨R, hRc⟩ : ∃ R, R = x.cells := ⟨_, rfl⟩
  rw [← hRc] at HE1 HOB hr1 hrs ⊢
  obtain ⟨ra, rc, erv, -⟩ := hR.shape
  clear hb1 o1 hs1 e1 ek1 ho hRc hx hbd od ed ekd hzd
  clear hR
  subst erv
  have P70 := hide (fun W => pick_any now 70 W (by decide) (by decide))
  obtain ⟨t, ht⟩ : ∃ t, t = now % 70 := ⟨_, rfl⟩
  have ht0 : 0 ≤ t := by rw [ht]; exact Int.emod_nonneg _ (by decide)
  have ht1 : t < 70 := by rw [ht]; exact Int.emod_lt_of_pos _ (by decide)
  have HW : Hid (W64 t) := by show W64 t; unfold W64; omega
  have HP : Hid (∀ p mw nw lw cw, val p mw nw lw cw = .agg (cells p mw nw lw cw).toArray) := fun _ _ _ _ _ => rfl
  rw [← ht] at P70
  clear ht
  go_enter Tryd.func4, Tryd.ntmps4
  go_upto_region 1 with fail
  rw [← unhide HEK1, ← unhide HE1, unhide HK1d, ← unhide HED]
  clear HEK1 HE1 HED
  go_wp2_with (refine wpList_load_mid rfl 41 (.tmp 7) rfl k1 0 rfl R dsr hr1 hru hrd hrs ?_)
  refine (unhide HOB).mono ?_
  rintro e w2 ⟨mv, nv, lv, cv, rfl, hin, hfr, o2⟩
  have hd := hin.ten
  rw [unhide HP]
  obtain ⟨w3, ko, e3, eko, hb3, o3, ht3⟩ := made37 w2 (cells o mv nv lv cv) (cells_len _ _ _ _ _ hd)
  obtain ⟨dsc, hdu, hdr⟩ := row_desc Tryd.rowObj
  have HSZA := hide (size_cellsA o mv nv lv cv hd)
  have HONE := hide hin.one
  have HB3 := hide hb3
  have I3 := hide (hin.same o3)
  have HGT : Hid (∀ j, (blk mv = some j ∨ blk nv = some j ∨ blk lv = some j ∨ blk cv = some j) → w.heap.size ≤ j) := fun j hj => by have := hfr j hj; have := (unhide O1).size; omega
  have OW : Hid (Only (fun _ => False) w w3) := ((unhide O1).trans o2 (fun _ _ e => e)).trans o3 (fun _ _ e => e)
  have HAP := hide (hin.apart (k := ko) (by omega))
  have HFR : Hid (∀ j, (blk mv = some j ∨ blk nv = some j ∨ blk lv = some j ∨ blk cv = some j) → kd < j) := fun j hj => by have h1 := hfr j hj; have h2 := (unhide HBD0).lt; omega
  have HBD := hide (((unhide HBD0).same o2).same o3)
  have hkdo : kd < ko := by have h1 := (unhide HBD0).lt; have h2 := o2.size; omega
  have hwko : w.heap.size ≤ ko := by have h1 := (unhide O1).size; have h2 := o2.size; omega
  have HT3 := hide ht3
  have HE3 := hide e3
  have HEKO := hide eko
  have HD := hide hd
  obtain ⟨C, hC⟩ : ∃ C, C = cells o mv nv lv cv := ⟨_, rfl⟩
  rw [← hC] at HSZA HONE HT3 HE3 ⊢
  clear hin hfr o2 hd hb3 o3 ht3 e3 eko hC O1 HOB hr1 HBD0
  go_upto_region 2 with (refine wpList_store_mid rfl 32 (.tmp 15) (.tmp 23) rfl w2.heap.size 0 C.toArray rfl rfl (unhide HT3) (unhide HSZA) (unhide HONE) ?_)
  rw [zo_eq, ← unhide HE3, ← unhide HEKO]
  clear HE3 HEKO HT3 HONE HSZA
  -- now, reason
  clear dsr hru hrd hrs
  go_wp2_with fail
  refine (unhide P70 _).mono ?_
  rintro e wx ⟨rfl, hwx⟩
  rw [hwx]
  clear hwx wx P70
  go_wp2_with fail
  refine (unhide P10 _).mono ?_
  rintro e wx ⟨rfl, hwx⟩
  rw [hwx]
  clear hwx wx P10
  go_upto_if 30 with fail
  go_cut [29, 30, 31] (fun s1 s2 s3 wx => Hid (∃ oh oa, W64 oa ∧ Bx wx kd 24 [.bool oh, .int .i64 oa] ∧ Only (fun j => j = kd) w3 wx))
  case first =>
    as_aux_lemma =>
      rcases (unhide HRC) with hr | hr | hr | hr | hr | hr | hr | hr | hr | hr
      · subst hr
        have d0 := (unhide HBD).cell 0 (.bool oc.1) rfl
        have d1 := (unhide HBD).cell 1 (.int .i64 oc.2) rfl
        have fd := (unhide HBD).free
        go_wp2_with fail
        generalize wrap64 (now.tdiv 70) = nq
        refine (pick_any nq 70 w3 (by decide) (by decide)).mono ?_
        rintro e wx ⟨rfl, hwx⟩
        rw [hwx]
        clear hwx wx
        have hoq0 : 0 ≤ nq % 70 := Int.emod_nonneg _ (by decide)
        have hoq1 : nq % 70 < 70 := Int.emod_lt_of_pos _ (by decide)
        generalize nq % 70 = oq at *
        have HOQ : Hid (W64 oq) := by show W64 oq; unfold W64; omega
        clear hoq0 hoq1
        go_wp2_with fail
        go_meet
        case rel => exact ⟨true, oq, unhide HOQ, ((unhide HBD).set 0 (.bool true)).set 1 (.int .i64 oq), ((Only.refl _ _).here _ _).here _ _⟩
      · subst hr
        go_wp2_with fail
        go_meet
        case rel => exact ⟨oc.1, oc.2, unhide HOC, unhide HBD, Only.refl _ _⟩
      · subst hr
        have d0 := (unhide HBD).cell 0 (.bool oc.1) rfl
        have d1 := (unhide HBD).cell 1 (.int .i64 oc.2) rfl
        have fd := (unhide HBD).free
        go_wp2_with fail
        generalize wrap64 (now.tdiv 70) = nq
        refine (pick_any nq 70 w3 (by decide) (by decide)).mono ?_
        rintro e wx ⟨rfl, hwx⟩
        rw [hwx]
        clear hwx wx
        have hoq0 : 0 ≤ nq % 70 := Int.emod_nonneg _ (by decide)
        have hoq1 : nq % 70 < 70 := Int.emod_lt_of_pos _ (by decide)
        generalize nq % 70 = oq at *
        have HOQ : Hid (W64 oq) := by show W64 oq; unfold W64; omega
        clear hoq0 hoq1
        go_wp2_with fail
        go_meet
        case rel => exact ⟨true, oq, unhide HOQ, ((unhide HBD).set 0 (.bool true)).set 1 (.int .i64 oq), ((Only.refl _ _).here _ _).here _ _⟩
      · subst hr
        go_wp2_with fail
        go_meet
        case rel => exact ⟨oc.1, oc.2, unhide HOC, unhide HBD, Only.refl _ _⟩
      · subst hr
        have d0 := (unhide HBD).cell 0 (.bool oc.1) rfl
        have d1 := (unhide HBD).cell 1 (.int .i64 oc.2) rfl
        have fd := (unhide HBD).free
        go_wp2_with fail
        generalize wrap64 (now.tdiv 70) = nq
        refine (pick_any nq 70 w3 (by decide) (by decide)).mono ?_
        rintro e wx ⟨rfl, hwx⟩
        rw [hwx]
        clear hwx wx
        have hoq0 : 0 ≤ nq % 70 := Int.emod_nonneg _ (by decide)
        have hoq1 : nq % 70 < 70 := Int.emod_lt_of_pos _ (by decide)
        generalize nq % 70 = oq at *
        have HOQ : Hid (W64 oq) := by show W64 oq; unfold W64; omega
        clear hoq0 hoq1
        go_wp2_with fail
        go_meet
        case rel => exact ⟨true, oq, unhide HOQ, ((unhide HBD).set 0 (.bool true)).set 1 (.int .i64 oq), ((Only.refl _ _).here _ _).here _ _⟩
      · subst hr
        go_wp2_with fail
        go_meet
        case rel => exact ⟨oc.1, oc.2, unhide HOC, unhide HBD, Only.refl _ _⟩
      · subst hr
        have d0 := (unhide HBD).cell 0 (.bool oc.1) rfl
        have d1 := (unhide HBD).cell 1 (.int .i64 oc.2) rfl
        have fd := (unhide HBD).free
        go_wp2_with fail
        generalize wrap64 (now.tdiv 70) = nq
        refine (pick_any nq 70 w3 (by decide) (by decide)).mono ?_
        rintro e wx ⟨rfl, hwx⟩
        rw [hwx]
        clear hwx wx
        have hoq0 : 0 ≤ nq % 70 := Int.emod_nonneg _ (by decide)
        have hoq1 : nq % 70 < 70 := Int.emod_lt_of_pos _ (by decide)
        generalize nq % 70 = oq at *
        have HOQ : Hid (W64 oq) := by show W64 oq; unfold W64; omega
        clear hoq0 hoq1
        go_wp2_with fail
        go_meet
        case rel => exact ⟨true, oq, unhide HOQ, ((unhide HBD).set 0 (.bool true)).set 1 (.int .i64 oq), ((Only.refl _ _).here _ _).here _ _⟩
      · subst hr
        go_wp2_with fail
        go_meet
        case rel => exact ⟨oc.1, oc.2, unhide HOC, unhide HBD, Only.refl _ _⟩
      · subst hr
        have d0 := (unhide HBD).cell 0 (.bool oc.1) rfl
        have d1 := (unhide HBD).cell 1 (.int .i64 oc.2) rfl
        have fd := (unhide HBD).free
        go_wp2_with fail
        generalize wrap64 (now.tdiv 70) = nq
        refine (pick_any nq 70 w3 (by decide) (by decide)).mono ?_
        rintro e wx ⟨rfl, hwx⟩
        rw [hwx]
        clear hwx wx
        have hoq0 : 0 ≤ nq % 70 := Int.emod_nonneg _ (by decide)
        have hoq1 : nq % 70 < 70 := Int.emod_lt_of_pos _ (by decide)
        generalize nq % 70 = oq at *
        have HOQ : Hid (W64 oq) := by show W64 oq; unfold W64; omega
        clear hoq0 hoq1
        go_wp2_with fail
        go_meet
        case rel => exact ⟨true, oq, unhide HOQ, ((unhide HBD).set 0 (.bool true)).set 1 (.int .i64 oq), ((Only.refl _ _).here _ _).here _ _⟩
      · subst hr
        go_wp2_with fail
        go_meet
        case rel => exact ⟨oc.1, oc.2, unhide HOC, unhide HBD, Only.refl _ _⟩
  case rest =>
    as_aux_lemma =>
      rename World => wd2
      obtain ⟨oh, oa, HOA, hbd, odd⟩ := unhide hcut
      have HW6 := hide HOA
      have HBE := hide hbd
      have HOD := hide odd
      clear hcut HBD hbd odd HOA
      go_upto_if 37 with fail
      go_cut [5, 36, 37] (fun s5 s1 s2 wx => Hid (∃ M, s5 = .string (str M) ∧ M.length ≤ maxLen ∧ wx = wd2))
      case first =>
        as_aux_lemma =>
          rcases (unhide HRC) with hr | hr | hr | hr | hr | hr | hr | hr | hr | hr
          · subst hr
            go_wp2_with fail
            go_meet
            case rel => exact ⟨[108, 111, 115, 116], rfl, by show 4 ≤ maxLen; unfold maxLen; omega, rfl⟩
          · subst hr
            go_wp2_with fail
            go_meet
            case rel => exact ⟨msg, by rw [unhide HMS], unhide HL, rfl⟩
          · subst hr
            go_wp2_with fail
            go_meet
            case rel => exact ⟨msg, by rw [unhide HMS], unhide HL, rfl⟩
          · subst hr
            go_wp2_with fail
            go_meet
            case rel => exact ⟨[108, 111, 115, 116], rfl, by show 4 ≤ maxLen; unfold maxLen; omega, rfl⟩
          · subst hr
            go_wp2_with fail
            go_meet
            case rel => exact ⟨msg, by rw [unhide HMS], unhide HL, rfl⟩
          · subst hr
            go_wp2_with fail
            go_meet
            case rel => exact ⟨msg, by rw [unhide HMS], unhide HL, rfl⟩
          · subst hr
            go_wp2_with fail
            go_meet
            case rel => exact ⟨[108, 111, 115, 116], rfl, by show 4 ≤ maxLen; unfold maxLen; omega, rfl⟩
          · subst hr
            go_wp2_with fail
            go_meet
            case rel => exact ⟨msg, by rw [unhide HMS], unhide HL, rfl⟩
          · subst hr
            go_wp2_with fail
            go_meet
            case rel => exact ⟨msg, by rw [unhide HMS], unhide HL, rfl⟩
          · subst hr
            go_wp2_with fail
            go_meet
            case rel => exact ⟨[108, 111, 115, 116], rfl, by show 4 ≤ maxLen; unfold maxLen; omega, rfl⟩
      case rest =>
        as_aux_lemma =>
          rename World => wy
          obtain ⟨M, rfl, hM, hwy⟩ := unhide hcut
          have hwy2 := hwy.symm
          clear hwy
          subst hwy2
          have HLM := hide hM
          clear hcut hM HL HMS
          obtain ⟨MT, hMT⟩ : ∃ MT, MT = str M := ⟨_, rfl⟩
          have HMT := hide hMT
          rw [← hMT]
          clear hMT
          obtain ⟨wa, ka, ea, eka, hba, oA, hsa⟩ := boxed wd2 Zo.toArray 32
          obtain ⟨wb, kb, eb, ekb, hbb, oB, hsb⟩ := boxed wa Zo.toArray 32
          have hko2 := (unhide HB3).lt
          have hsz2 := (unhide HOD).size
          have HZA : Hid (Bx wb ka 32 Zo) := (show Bx wa ka 32 Zo from hba).same oB
          have HZB : Hid (Bx wb kb 32 Zo) := hbb
          have OAB := hide (oA.trans oB (fun _ _ e => e))
          have HBK := hide ((unhide HBE).same (unhide OAB))
          have HAPd : Hid (Apart o mv nv lv cv kd) := by
            have hg := (unhide HGT)
            have hf := (unhide HFR)
            exact ⟨fun g j h e => by have := hf j (Or.inl h); omega, fun g j h e => by have := hf j (Or.inr (Or.inl h)); omega, fun g j h e => by have := hf j (Or.inr (Or.inr (Or.inl h))); omega, fun g j h e => by have := hf j (Or.inr (Or.inr (Or.inr h))); omega⟩
          have IO := hide (((unhide I3).offA (unhide HOD) (unhide HAPd)).same (unhide OAB))
          have HBO := hide (((unhide HB3).only (unhide HOD) (by show ¬ ko = kd; omega)).same (unhide OAB))
          have OWB : Hid (Only (fun _ => False) w wb) := ((unhide OW).trans (T := fun j => j = kd) (unhide HOD) (fun j hj e => by omega)).trans (unhide OAB) (fun _ _ e => e)
          have hka : w.heap.size ≤ ka := by have := (unhide OW).size; omega
          have hkab : ka < kb := by omega
          have hkoa : ko < ka := by omega
          have hkda : kd < ka := by omega
          have HAPA := hide ((unhide IO).apart0 (k := ka) (w0 := wd2) ((unhide I3).offA (unhide HOD) (unhide HAPd)) (by omega))
          have HAPB := hide ((unhide IO).apart0 (k := kb) (w0 := wd2) ((unhide I3).offA (unhide HOD) (unhide HAPd)) (by omega))
          have HEA := hide ea
          have HEKA := hide eka
          have HEB := hide eb
          have HKAB : Hid (ka + 1 = kb) := by show _ = _; omega
          have HSTt := hide ((hO_okay x m X).st)
          rw [← unhide HOK] at HSTt
          clear ea eka eb ekb hba hbb oA oB hsa hsb HB3 I3 OW HBE HOD HAPd HGT HFR HOK hko2 hsz2
          go_upto_region 9 with fail
          rw [zo_eq, ← unhide HEKA, ← unhide HEA, unhide HKAB, ← unhide HEB]
          clear HEA HEKA HEB
          go_wp2_with fail
          refine (unhide P5 _).mono ?_
          rintro e wx ⟨rfl, hwx⟩
          rw [hwx]
          clear hwx wx P5
          have hq := unhide HQC
          have HSC := hide (size_cells o mv nv lv cv (unhide IO).ten)
          have HRO := hide (Bx.whole (unhide HBO) (unhide IO).ten)
          obtain ⟨C, hC⟩ : ∃ C, C = cells o mv nv lv cv := ⟨_, rfl⟩
          have HCC := hide hC
          rw [← hC] at HSC HRO HBO
          clear hC
          go_upto_block 0 with fail
          go_cut [39, 19, 20] (fun s39 p q wx => TCut w wx ka kb p q)
          case first =>
            as_aux_lemma =>
              rcases hq with hq | hq | hq | hq | hq
              all_goals rw [hq]
              all_goals clear hq
              · as_aux_lemma =>
                  obtain ⟨V, hV⟩ : ∃ V, V = told (actE o) (actU o t) := ⟨_, rfl⟩
                  obtain ⟨EE, hEE⟩ : ∃ EE, EE = actE o := ⟨_, rfl⟩
                  have HC : Hid (Calls Tryd.prog 9 #[.agg C.toArray, .int .i64 t] wb fun e w' => Ans wb w' e V EE) := by
                    show Calls _ _ _ _ _
                    rw [unhide HCC, hV, hEE]
                    exact activate_any o mv nv lv cv t wb (unhide IO) (unhide HSM) (unhide HW)
                  have HCR : Hid (∀ W, In W o mv nv lv cv → Only (fun _ => False) w W → Calls Tryd.prog 17 #[.agg C.toArray, .int .i64 t] W fun e w' => RAns W w' e V EE (Apart o mv nv lv cv)) := fun W hi q => by
                    rw [unhide HCC, hV, hEE]
                    exact ractivate_any o mv nv lv cv t W hi (unhide HW) (unhide HSTt).1 (unhide HSTt).2
                  clear hV hEE
                  go_wp2_with (refine wpList_load_mid rfl 32 (.tmp 15) rfl ko 0 rfl C dsc (unhide HRO) hdu hdr (unhide HSC) ?_)
                  refine (unhide HC).mono ?_
                  rintro e y ⟨m1, n1, l1, c1, rfl, hin, hfr, oy⟩
                  have hap := hfr.apart (o := V) (k := ka) (unhide HZA).lt
                  have hapb := hfr.apart (o := V) (k := kb) (unhide HZB).lt
                  obtain ⟨hth, hfb, hin7, hof⟩ := store_var hin hap ((unhide HZA).same oy) (cs0 := Zo) rfl
                  have HTH := hide hth
                  have HSZ9 := hide (size_cellsA V m1 n1 l1 c1 hin.ten)
                  have HONE9 := hide hin.one
                  have HA1 := hide hfb
                  have IN1 := hide hin7
                  have HAPB1 := hide hapb
                  have IO2 := hide (((unhide IO).same oy).offA hof (unhide HAPA))
                  have HZB2 := hide (((unhide HZB).same oy).only hof (by show ¬ kb = ka; omega))
                  have HR2 := hide ((((unhide HBO).same oy).only hof (by show ¬ ko = ka; omega)))
                  have OW2 := hide (((unhide OWB).trans oy (fun _ _ e => e)).trans (T := fun j => j = ka) hof (fun j hj e => by omega))
                  rw [unhide HP]
                  obtain ⟨B1, hB1⟩ : ∃ B, B = cells V m1 n1 l1 c1 := ⟨_, rfl⟩
                  rw [← hB1] at HTH HSZ9 HONE9 HA1 IN1 IO2 HZB2 HR2 OW2 ⊢
                  have HBB1 := hide hB1
                  clear hin hfr oy hap hapb hth hfb hin7 hof hB1 HC
                  go_upto_region 15 with (refine wpList_store_mid rfl 32 (.tmp 17) (.tmp 58) rfl ka 0 B1.toArray rfl rfl (unhide HTH) (unhide HSZ9) (unhide HONE9) ?_)
                  try rw [List.toList_toArray]
                  generalize y.setCells ka 0 B1 = y2 at *
                  clear HTH HSZ9 HONE9
                  as_aux_lemma =>
                    have HR2w : Hid (y2.rangeAt ko 0 C) := by
                      have h := unhide HR2
                      rw [unhide HCC] at h
                      have h2 := Bx.whole h (unhide IO2).ten
                      rwa [← unhide HCC] at h2
                    have HC := hide ((unhide HCR) y2 (unhide IO2) (unhide OW2))
                    go_wp2_with (refine wpList_load_mid rfl 32 (.tmp 15) rfl ko 0 rfl C dsc (unhide HR2w) hdu hdr (unhide HSC) ?_)
                    refine (unhide HC).mono ?_
                    rintro e z ⟨m2, n2, l2, c2, rfl, hin, oz, hapk⟩
                    obtain ⟨hth, hfb, hin7, hof⟩ := store_var hin (hapk kb (unhide HAPB)) ((unhide HZB2).same oz) (cs0 := Zo) rfl
                    have HTH := hide hth
                    have HSZ9 := hide (size_cellsA V m2 n2 l2 c2 hin.ten)
                    have HONE9 := hide hin.one
                    have hA2 := ((unhide HA1).same oz).only hof (by show ¬ ka = kb; omega)
                    rw [unhide HBB1] at hA2
                    have hcutr : TCut w (z.setCells kb 0 (cells V m2 n2 l2 c2)) ka kb (.int .i64 EE) (.int .i64 EE) := ⟨EE, V, m1, n1, l1, c1, m2, n2, l2, c2, rfl, rfl, hA2, ((unhide IN1).same oz).offA hof (unhide HAPB1), hfb, hin7, ((unhide OW2).trans oz (fun _ _ e => e)).trans (T := fun j => j = kb) hof (fun j hj e => by omega)⟩
                    have HCUT := hide hcutr
                    rw [unhide HP]
                    obtain ⟨B2, hB2⟩ : ∃ B, B = cells V m2 n2 l2 c2 := ⟨_, rfl⟩
                    rw [← hB2] at HTH HSZ9 HONE9 HCUT ⊢
                    clear hin oz hapk hth hfb hin7 hof hA2 hcutr hB2 HC
                    go_wp2_with (refine wpList_store_mid rfl 32 (.tmp 18) (.tmp 64) rfl kb 0 B2.toArray rfl rfl (unhide HTH) (unhide HSZ9) (unhide HONE9) ?_)
                    go_meet
                    case rel => exact unhide HCUT
              · as_aux_lemma =>
                  go_upto_region 17 with fail
                  rw [unhide HMT]
                  obtain ⟨V, hV⟩ : ∃ V, V = told (revE o r M (oh, oa) t) (revU o r M (oh, oa) t) := ⟨_, rfl⟩
                  obtain ⟨EE, hEE⟩ : ∃ EE, EE = revE o r M (oh, oa) t := ⟨_, rfl⟩
                  have HC : Hid (Calls Tryd.prog 10 #[.agg C.toArray, .int .i64 r, .string (str M), .agg #[.bool oh, .int .i64 oa], .int .i64 t] wb fun e w' => Ans wb w' e V EE) := by
                    show Calls _ _ _ _ _
                    rw [unhide HCC, hV, hEE]
                    exact revoke_any o mv nv lv cv r M (oh, oa) t wb (unhide IO) (unhide HSM) (unhide HW) (unhide HR64) (unhide HW6) (unhide HLM) (Or.inr ((unhide HTB).same (unhide OWB)))
                  have HCR : Hid (∀ W, In W o mv nv lv cv → Only (fun _ => False) w W → Calls Tryd.prog 18 #[.agg C.toArray, .int .i64 r, .string (str M), .agg #[.bool oh, .int .i64 oa], .int .i64 t] W fun e w' => RAns W w' e V EE (Apart o mv nv lv cv)) := fun W hi q => by
                    rw [unhide HCC, hV, hEE]
                    exact rrevoke_any o mv nv lv cv r M (oh, oa) t W hi (unhide HW) (unhide HR64) (unhide HW6) (unhide HLM) ((unhide HTB).same q) (unhide HSTt).1 (unhide HSTt).2
                  clear hV hEE
                  rw [← unhide HMT] at HC HCR ⊢
                  have d0 := (unhide HBK).cell 0 (.bool oh) rfl
                  have d1 := (unhide HBK).cell 1 (.int .i64 oa) rfl
                  go_wp2_with (refine wpList_load_mid rfl 32 (.tmp 15) rfl ko 0 rfl C dsc (unhide HRO) hdu hdr (unhide HSC) ?_)
                  refine (unhide HC).mono ?_
                  rintro e y ⟨m1, n1, l1, c1, rfl, hin, hfr, oy⟩
                  have hap := hfr.apart (o := V) (k := ka) (unhide HZA).lt
                  have hapb := hfr.apart (o := V) (k := kb) (unhide HZB).lt
                  obtain ⟨hth, hfb, hin7, hof⟩ := store_var hin hap ((unhide HZA).same oy) (cs0 := Zo) rfl
                  have HTH := hide hth
                  have HSZ9 := hide (size_cellsA V m1 n1 l1 c1 hin.ten)
                  have HONE9 := hide hin.one
                  have HA1 := hide hfb
                  have IN1 := hide hin7
                  have HAPB1 := hide hapb
                  have IO2 := hide (((unhide IO).same oy).offA hof (unhide HAPA))
                  have HZB2 := hide (((unhide HZB).same oy).only hof (by show ¬ kb = ka; omega))
                  have HR2 := hide ((((unhide HBO).same oy).only hof (by show ¬ ko = ka; omega)))
                  have OW2 := hide (((unhide OWB).trans oy (fun _ _ e => e)).trans (T := fun j => j = ka) hof (fun j hj e => by omega))
                  have HBK2 := hide ((((unhide HBK).same oy).only hof (by show ¬ kd = ka; omega)))
                  clear d0 d1
                  rw [unhide HP]
                  obtain ⟨B1, hB1⟩ : ∃ B, B = cells V m1 n1 l1 c1 := ⟨_, rfl⟩
                  rw [← hB1] at HTH HSZ9 HONE9 HA1 IN1 IO2 HZB2 HR2 OW2 HBK2 ⊢
                  have HBB1 := hide hB1
                  clear hin hfr oy hap hapb hth hfb hin7 hof hB1 HC
                  go_upto_region 18 with (refine wpList_store_mid rfl 32 (.tmp 17) (.tmp 75) rfl ka 0 B1.toArray rfl rfl (unhide HTH) (unhide HSZ9) (unhide HONE9) ?_)
                  try rw [List.toList_toArray]
                  generalize y.setCells ka 0 B1 = y2 at *
                  clear HTH HSZ9 HONE9
                  as_aux_lemma =>
                    have HR2w : Hid (y2.rangeAt ko 0 C) := by
                      have h := unhide HR2
                      rw [unhide HCC] at h
                      have h2 := Bx.whole h (unhide IO2).ten
                      rwa [← unhide HCC] at h2
                    have HC := hide ((unhide HCR) y2 (unhide IO2) (unhide OW2))
                    have d0 := (unhide HBK2).cell 0 (.bool oh) rfl
                    have d1 := (unhide HBK2).cell 1 (.int .i64 oa) rfl
                    go_wp2_with (refine wpList_load_mid rfl 32 (.tmp 15) rfl ko 0 rfl C dsc (unhide HR2w) hdu hdr (unhide HSC) ?_)
                    refine (unhide HC).mono ?_
                    rintro e z ⟨m2, n2, l2, c2, rfl, hin, oz, hapk⟩
                    obtain ⟨hth, hfb, hin7, hof⟩ := store_var hin (hapk kb (unhide HAPB)) ((unhide HZB2).same oz) (cs0 := Zo) rfl
                    have HTH := hide hth
                    have HSZ9 := hide (size_cellsA V m2 n2 l2 c2 hin.ten)
                    have HONE9 := hide hin.one
                    have hA2 := ((unhide HA1).same oz).only hof (by show ¬ ka = kb; omega)
                    rw [unhide HBB1] at hA2
                    have hcutr : TCut w (z.setCells kb 0 (cells V m2 n2 l2 c2)) ka kb (.int .i64 EE) (.int .i64 EE) := ⟨EE, V, m1, n1, l1, c1, m2, n2, l2, c2, rfl, rfl, hA2, ((unhide IN1).same oz).offA hof (unhide HAPB1), hfb, hin7, ((unhide OW2).trans oz (fun _ _ e => e)).trans (T := fun j => j = kb) hof (fun j hj e => by omega)⟩
                    have HCUT := hide hcutr
                    clear d0 d1
                    rw [unhide HP]
                    obtain ⟨B2, hB2⟩ : ∃ B, B = cells V m2 n2 l2 c2 := ⟨_, rfl⟩
                    rw [← hB2] at HTH HSZ9 HONE9 HCUT ⊢
                    clear hin oz hapk hth hfb hin7 hof hA2 hcutr hB2 HC
                    go_wp2_with (refine wpList_store_mid rfl 32 (.tmp 18) (.tmp 84) rfl kb 0 B2.toArray rfl rfl (unhide HTH) (unhide HSZ9) (unhide HONE9) ?_)
                    go_meet
                    case rel => exact unhide HCUT
              · as_aux_lemma =>
                  obtain ⟨V, hV⟩ : ∃ V, V = told (desE o) (desU o t) := ⟨_, rfl⟩
                  obtain ⟨EE, hEE⟩ : ∃ EE, EE = desE o := ⟨_, rfl⟩
                  have HC : Hid (Calls Tryd.prog 11 #[.agg C.toArray, .int .i64 t] wb fun e w' => Ans wb w' e V EE) := by
                    show Calls _ _ _ _ _
                    rw [unhide HCC, hV, hEE]
                    exact destroy_any o mv nv lv cv t wb (unhide IO) (unhide HSM) (unhide HW)
                  have HCR : Hid (∀ W, In W o mv nv lv cv → Only (fun _ => False) w W → Calls Tryd.prog 19 #[.agg C.toArray, .int .i64 t] W fun e w' => RAns W w' e V EE (Apart o mv nv lv cv)) := fun W hi q => by
                    rw [unhide HCC, hV, hEE]
                    exact rdestroy_any o mv nv lv cv t W hi (unhide HW) (unhide HSTt).1 (unhide HSTt).2
                  clear hV hEE
                  go_wp2_with (refine wpList_load_mid rfl 32 (.tmp 15) rfl ko 0 rfl C dsc (unhide HRO) hdu hdr (unhide HSC) ?_)
                  refine (unhide HC).mono ?_
                  rintro e y ⟨m1, n1, l1, c1, rfl, hin, hfr, oy⟩
                  have hap := hfr.apart (o := V) (k := ka) (unhide HZA).lt
                  have hapb := hfr.apart (o := V) (k := kb) (unhide HZB).lt
                  obtain ⟨hth, hfb, hin7, hof⟩ := store_var hin hap ((unhide HZA).same oy) (cs0 := Zo) rfl
                  have HTH := hide hth
                  have HSZ9 := hide (size_cellsA V m1 n1 l1 c1 hin.ten)
                  have HONE9 := hide hin.one
                  have HA1 := hide hfb
                  have IN1 := hide hin7
                  have HAPB1 := hide hapb
                  have IO2 := hide (((unhide IO).same oy).offA hof (unhide HAPA))
                  have HZB2 := hide (((unhide HZB).same oy).only hof (by show ¬ kb = ka; omega))
                  have HR2 := hide ((((unhide HBO).same oy).only hof (by show ¬ ko = ka; omega)))
                  have OW2 := hide (((unhide OWB).trans oy (fun _ _ e => e)).trans (T := fun j => j = ka) hof (fun j hj e => by omega))
                  rw [unhide HP]
                  obtain ⟨B1, hB1⟩ : ∃ B, B = cells V m1 n1 l1 c1 := ⟨_, rfl⟩
                  rw [← hB1] at HTH HSZ9 HONE9 HA1 IN1 IO2 HZB2 HR2 OW2 ⊢
                  have HBB1 := hide hB1
                  clear hin hfr oy hap hapb hth hfb hin7 hof hB1 HC
                  go_upto_region 21 with (refine wpList_store_mid rfl 32 (.tmp 17) (.tmp 92) rfl ka 0 B1.toArray rfl rfl (unhide HTH) (unhide HSZ9) (unhide HONE9) ?_)
                  try rw [List.toList_toArray]
                  generalize y.setCells ka 0 B1 = y2 at *
                  clear HTH HSZ9 HONE9
                  as_aux_lemma =>
                    have HR2w : Hid (y2.rangeAt ko 0 C) := by
                      have h := unhide HR2
                      rw [unhide HCC] at h
                      have h2 := Bx.whole h (unhide IO2).ten
                      rwa [← unhide HCC] at h2
                    have HC := hide ((unhide HCR) y2 (unhide IO2) (unhide OW2))
                    go_wp2_with (refine wpList_load_mid rfl 32 (.tmp 15) rfl ko 0 rfl C dsc (unhide HR2w) hdu hdr (unhide HSC) ?_)
                    refine (unhide HC).mono ?_
                    rintro e z ⟨m2, n2, l2, c2, rfl, hin, oz, hapk⟩
                    obtain ⟨hth, hfb, hin7, hof⟩ := store_var hin (hapk kb (unhide HAPB)) ((unhide HZB2).same oz) (cs0 := Zo) rfl
                    have HTH := hide hth
                    have HSZ9 := hide (size_cellsA V m2 n2 l2 c2 hin.ten)
                    have HONE9 := hide hin.one
                    have hA2 := ((unhide HA1).same oz).only hof (by show ¬ ka = kb; omega)
                    rw [unhide HBB1] at hA2
                    have hcutr : TCut w (z.setCells kb 0 (cells V m2 n2 l2 c2)) ka kb (.int .i64 EE) (.int .i64 EE) := ⟨EE, V, m1, n1, l1, c1, m2, n2, l2, c2, rfl, rfl, hA2, ((unhide IN1).same oz).offA hof (unhide HAPB1), hfb, hin7, ((unhide OW2).trans oz (fun _ _ e => e)).trans (T := fun j => j = kb) hof (fun j hj e => by omega)⟩
                    have HCUT := hide hcutr
                    rw [unhide HP]
                    obtain ⟨B2, hB2⟩ : ∃ B, B = cells V m2 n2 l2 c2 := ⟨_, rfl⟩
                    rw [← hB2] at HTH HSZ9 HONE9 HCUT ⊢
                    clear hin oz hapk hth hfb hin7 hof hA2 hcutr hB2 HC
                    go_wp2_with (refine wpList_store_mid rfl 32 (.tmp 18) (.tmp 98) rfl kb 0 B2.toArray rfl rfl (unhide HTH) (unhide HSZ9) (unhide HONE9) ?_)
                    go_meet
                    case rel => exact unhide HCUT
              · as_aux_lemma =>
                  obtain ⟨V, hV⟩ : ∃ V, V = told (arcE o) (arcU o t) := ⟨_, rfl⟩
                  obtain ⟨EE, hEE⟩ : ∃ EE, EE = arcE o := ⟨_, rfl⟩
                  have HC : Hid (Calls Tryd.prog 12 #[.agg C.toArray, .int .i64 t] wb fun e w' => Ans wb w' e V EE) := by
                    show Calls _ _ _ _ _
                    rw [unhide HCC, hV, hEE]
                    exact archive_any o mv nv lv cv t wb (unhide IO) (unhide HSM) (unhide HW)
                  have HCR : Hid (∀ W, In W o mv nv lv cv → Only (fun _ => False) w W → Calls Tryd.prog 20 #[.agg C.toArray, .int .i64 t] W fun e w' => RAns W w' e V EE (Apart o mv nv lv cv)) := fun W hi q => by
                    rw [unhide HCC, hV, hEE]
                    exact rarchive_any o mv nv lv cv t W hi (unhide HW) (unhide HSTt).1 (unhide HSTt).2
                  clear hV hEE
                  go_wp2_with (refine wpList_load_mid rfl 32 (.tmp 15) rfl ko 0 rfl C dsc (unhide HRO) hdu hdr (unhide HSC) ?_)
                  refine (unhide HC).mono ?_
                  rintro e y ⟨m1, n1, l1, c1, rfl, hin, hfr, oy⟩
                  have hap := hfr.apart (o := V) (k := ka) (unhide HZA).lt
                  have hapb := hfr.apart (o := V) (k := kb) (unhide HZB).lt
                  obtain ⟨hth, hfb, hin7, hof⟩ := store_var hin hap ((unhide HZA).same oy) (cs0 := Zo) rfl
                  have HTH := hide hth
                  have HSZ9 := hide (size_cellsA V m1 n1 l1 c1 hin.ten)
                  have HONE9 := hide hin.one
                  have HA1 := hide hfb
                  have IN1 := hide hin7
                  have HAPB1 := hide hapb
                  have IO2 := hide (((unhide IO).same oy).offA hof (unhide HAPA))
                  have HZB2 := hide (((unhide HZB).same oy).only hof (by show ¬ kb = ka; omega))
                  have HR2 := hide ((((unhide HBO).same oy).only hof (by show ¬ ko = ka; omega)))
                  have OW2 := hide (((unhide OWB).trans oy (fun _ _ e => e)).trans (T := fun j => j = ka) hof (fun j hj e => by omega))
                  rw [unhide HP]
                  obtain ⟨B1, hB1⟩ : ∃ B, B = cells V m1 n1 l1 c1 := ⟨_, rfl⟩
                  rw [← hB1] at HTH HSZ9 HONE9 HA1 IN1 IO2 HZB2 HR2 OW2 ⊢
                  have HBB1 := hide hB1
                  clear hin hfr oy hap hapb hth hfb hin7 hof hB1 HC
                  go_upto_region 24 with (refine wpList_store_mid rfl 32 (.tmp 17) (.tmp 106) rfl ka 0 B1.toArray rfl rfl (unhide HTH) (unhide HSZ9) (unhide HONE9) ?_)
                  try rw [List.toList_toArray]
                  generalize y.setCells ka 0 B1 = y2 at *
                  clear HTH HSZ9 HONE9
                  as_aux_lemma =>
                    have HR2w : Hid (y2.rangeAt ko 0 C) := by
                      have h := unhide HR2
                      rw [unhide HCC] at h
                      have h2 := Bx.whole h (unhide IO2).ten
                      rwa [← unhide HCC] at h2
                    have HC := hide ((unhide HCR) y2 (unhide IO2) (unhide OW2))
                    go_wp2_with (refine wpList_load_mid rfl 32 (.tmp 15) rfl ko 0 rfl C dsc (unhide HR2w) hdu hdr (unhide HSC) ?_)
                    refine (unhide HC).mono ?_
                    rintro e z ⟨m2, n2, l2, c2, rfl, hin, oz, hapk⟩
                    obtain ⟨hth, hfb, hin7, hof⟩ := store_var hin (hapk kb (unhide HAPB)) ((unhide HZB2).same oz) (cs0 := Zo) rfl
                    have HTH := hide hth
                    have HSZ9 := hide (size_cellsA V m2 n2 l2 c2 hin.ten)
                    have HONE9 := hide hin.one
                    have hA2 := ((unhide HA1).same oz).only hof (by show ¬ ka = kb; omega)
                    rw [unhide HBB1] at hA2
                    have hcutr : TCut w (z.setCells kb 0 (cells V m2 n2 l2 c2)) ka kb (.int .i64 EE) (.int .i64 EE) := ⟨EE, V, m1, n1, l1, c1, m2, n2, l2, c2, rfl, rfl, hA2, ((unhide IN1).same oz).offA hof (unhide HAPB1), hfb, hin7, ((unhide OW2).trans oz (fun _ _ e => e)).trans (T := fun j => j = kb) hof (fun j hj e => by omega)⟩
                    have HCUT := hide hcutr
                    rw [unhide HP]
                    obtain ⟨B2, hB2⟩ : ∃ B, B = cells V m2 n2 l2 c2 := ⟨_, rfl⟩
                    rw [← hB2] at HTH HSZ9 HONE9 HCUT ⊢
                    clear hin oz hapk hth hfb hin7 hof hA2 hcutr hB2 HC
                    go_wp2_with (refine wpList_store_mid rfl 32 (.tmp 18) (.tmp 112) rfl kb 0 B2.toArray rfl rfl (unhide HTH) (unhide HSZ9) (unhide HONE9) ?_)
                    go_meet
                    case rel => exact unhide HCUT
              · as_aux_lemma =>
                  obtain ⟨V, hV⟩ : ∃ V, V = told (recE o) (recU o t) := ⟨_, rfl⟩
                  obtain ⟨EE, hEE⟩ : ∃ EE, EE = recE o := ⟨_, rfl⟩
                  have HC : Hid (Calls Tryd.prog 13 #[.agg C.toArray, .int .i64 t] wb fun e w' => Ans wb w' e V EE) := by
                    show Calls _ _ _ _ _
                    rw [unhide HCC, hV, hEE]
                    exact recover_any o mv nv lv cv t wb (unhide IO) (unhide HSM) (unhide HW)
                  have HCR : Hid (∀ W, In W o mv nv lv cv → Only (fun _ => False) w W → Calls Tryd.prog 21 #[.agg C.toArray, .int .i64 t] W fun e w' => RAns W w' e V EE (Apart o mv nv lv cv)) := fun W hi q => by
                    rw [unhide HCC, hV, hEE]
                    exact rrecover_any o mv nv lv cv t W hi (unhide HW) (unhide HSTt).1 (unhide HSTt).2
                  clear hV hEE
                  go_wp2_with (refine wpList_load_mid rfl 32 (.tmp 15) rfl ko 0 rfl C dsc (unhide HRO) hdu hdr (unhide HSC) ?_)
                  refine (unhide HC).mono ?_
                  rintro e y ⟨m1, n1, l1, c1, rfl, hin, hfr, oy⟩
                  have hap := hfr.apart (o := V) (k := ka) (unhide HZA).lt
                  have hapb := hfr.apart (o := V) (k := kb) (unhide HZB).lt
                  obtain ⟨hth, hfb, hin7, hof⟩ := store_var hin hap ((unhide HZA).same oy) (cs0 := Zo) rfl
                  have HTH := hide hth
                  have HSZ9 := hide (size_cellsA V m1 n1 l1 c1 hin.ten)
                  have HONE9 := hide hin.one
                  have HA1 := hide hfb
                  have IN1 := hide hin7
                  have HAPB1 := hide hapb
                  have IO2 := hide (((unhide IO).same oy).offA hof (unhide HAPA))
                  have HZB2 := hide (((unhide HZB).same oy).only hof (by show ¬ kb = ka; omega))
                  have HR2 := hide ((((unhide HBO).same oy).only hof (by show ¬ ko = ka; omega)))
                  have OW2 := hide (((unhide OWB).trans oy (fun _ _ e => e)).trans (T := fun j => j = ka) hof (fun j hj e => by omega))
                  rw [unhide HP]
                  obtain ⟨B1, hB1⟩ : ∃ B, B = cells V m1 n1 l1 c1 := ⟨_, rfl⟩
                  rw [← hB1] at HTH HSZ9 HONE9 HA1 IN1 IO2 HZB2 HR2 OW2 ⊢
                  have HBB1 := hide hB1
                  clear hin hfr oy hap hapb hth hfb hin7 hof hB1 HC
                  go_upto_region 12 with (refine wpList_store_mid rfl 32 (.tmp 17) (.tmp 44) rfl ka 0 B1.toArray rfl rfl (unhide HTH) (unhide HSZ9) (unhide HONE9) ?_)
                  try rw [List.toList_toArray]
                  generalize y.setCells ka 0 B1 = y2 at *
                  clear HTH HSZ9 HONE9
                  as_aux_lemma =>
                    have HR2w : Hid (y2.rangeAt ko 0 C) := by
                      have h := unhide HR2
                      rw [unhide HCC] at h
                      have h2 := Bx.whole h (unhide IO2).ten
                      rwa [← unhide HCC] at h2
                    have HC := hide ((unhide HCR) y2 (unhide IO2) (unhide OW2))
                    go_wp2_with (refine wpList_load_mid rfl 32 (.tmp 15) rfl ko 0 rfl C dsc (unhide HR2w) hdu hdr (unhide HSC) ?_)
                    refine (unhide HC).mono ?_
                    rintro e z ⟨m2, n2, l2, c2, rfl, hin, oz, hapk⟩
                    obtain ⟨hth, hfb, hin7, hof⟩ := store_var hin (hapk kb (unhide HAPB)) ((unhide HZB2).same oz) (cs0 := Zo) rfl
                    have HTH := hide hth
                    have HSZ9 := hide (size_cellsA V m2 n2 l2 c2 hin.ten)
                    have HONE9 := hide hin.one
                    have hA2 := ((unhide HA1).same oz).only hof (by show ¬ ka = kb; omega)
                    rw [unhide HBB1] at hA2
                    have hcutr : TCut w (z.setCells kb 0 (cells V m2 n2 l2 c2)) ka kb (.int .i64 EE) (.int .i64 EE) := ⟨EE, V, m1, n1, l1, c1, m2, n2, l2, c2, rfl, rfl, hA2, ((unhide IN1).same oz).offA hof (unhide HAPB1), hfb, hin7, ((unhide OW2).trans oz (fun _ _ e => e)).trans (T := fun j => j = kb) hof (fun j hj e => by omega)⟩
                    have HCUT := hide hcutr
                    rw [unhide HP]
                    obtain ⟨B2, hB2⟩ : ∃ B, B = cells V m2 n2 l2 c2 := ⟨_, rfl⟩
                    rw [← hB2] at HTH HSZ9 HONE9 HCUT ⊢
                    clear hin oz hapk hth hfb hin7 hof hA2 hcutr hB2 HC
                    go_wp2_with (refine wpList_store_mid rfl 32 (.tmp 18) (.tmp 50) rfl kb 0 B2.toArray rfl rfl (unhide HTH) (unhide HSZ9) (unhide HONE9) ?_)
                    go_meet
                    case rel => exact unhide HCUT
          case rest =>
            as_aux_lemma =>
              rename World => wz
              obtain ⟨E, V, m1, n1, l1, c1, m2, n2, l2, c2, rfl, rfl, hba, hia, hbb, hib, hoz⟩ := hcut
              have HKN := hide (known_any wz)
              have HBA := hide hba
              have HIA := hide hia
              have HBB := hide hbb
              have HIB := hide hib
              have HOZ := hide hoz
              clear hba hia hbb hib hoz
              go_wp2_with fail
              refine (unhide HKN).mono ?_
              rintro e wk ⟨rfl, ok⟩
              have IA := hide ((unhide HIA).same ok)
              have IB := hide ((unhide HIB).same ok)
              have RA := hide (Bx.whole ((unhide HBA).same ok) (unhide HIA).ten)
              have RB := hide (Bx.whole ((unhide HBB).same ok) (unhide HIB).ten)
              have SA := hide (size_cells V m1 n1 l1 c1 (unhide HIA).ten)
              have SB := hide (size_cells V m2 n2 l2 c2 (unhide HIB).ten)
              have OK := hide ((unhide HOZ).trans ok (fun _ _ e => e))
              have HSM9 := hide (rsame_eq V m1 n1 l1 c1 m2 n2 l2 c2 wk (unhide IA) (unhide IB))
              unfold val at HSM9
              obtain ⟨A, hA⟩ : ∃ A, A = cells V m1 n1 l1 c1 := ⟨_, rfl⟩
              obtain ⟨B, hB⟩ : ∃ B, B = cells V m2 n2 l2 c2 := ⟨_, rfl⟩
              rw [← hA] at RA SA HSM9
              rw [← hB] at RB SB HSM9
              clear hA hB ok HKN
              go_wp2_with (first
                | (refine wpList_load_g (by rfl) 32 (.tmp 17) rfl ka 0 rfl A dsc (unhide RA) hdu hdr (unhide SA) ?_)
                | (refine wpList_load_g (by rfl) 32 (.tmp 18) rfl kb 0 rfl B dsc (unhide RB) hdu hdr (unhide SB) ?_))
              refine (unhide HSM9).mono ?_
              rintro e wl ⟨rfl, ol⟩
              have OL := hide ((unhide OK).trans ol (fun _ _ e => e))
              clear ol
              go_wp2_with fail
              go_ret
              exact ⟨rfl, unhide OL⟩
end Ob
end Go.Proofs.YtadpmninoghcjaaDoor
