/-
  locksmithlaw11.LifeArchives: archived and recovered an object is as it was.
-/
import Derived.Test.YtadpmninoghcjaaDoorLfKnow
import Derived.Test.YtadpmninoghcjaaDoorHoObj
import Derived.Test.YtadpmninoghcjaaDoorLfRevoke
import Derived.Test.YtadpmninoghcjaaDoorHandPick
namespace Go.Proofs.YtadpmninoghcjaaDoor
open Go.RowKit
set_option linter.unusedSimpArgs false
set_option linter.unusedVariables false
namespace Ob
theorem ans_no {w w' : World} {e : Ending} {E : Int} {U : Ob} (h : Ans w w' e (told E U) E) (hE : E = 13) : Ans w w' e zero 13 := by
  rw [hE] at h
  exact h
theorem ans_ok {w w' : World} {e : Ending} {E : Int} {U : Ob} (h : Ans w w' e (told E U) E) (hE : E = 0) : Ans w w' e U 0 := by
  rw [hE] at h
  exact h
theorem Tryd.rowDatesA : (Tryd.prog.underlying 25).map (·.isRow) = some true := by kernel_rfl
theorem Tryd.sizeDates : (Tryd.prog.info? 25).map (·.size) = some 20 := by kernel_rfl
theorem set_dates (o : Ob) (mv nv lv cv : Value) (hd : o.dates.length = 10) (D : List (Bool × Int)) (hD : D.length = 10) : setMany (cells o mv nv lv cv) 7 (D.flatMap dcells) = cells { o with dates := D } mv nv lv cv := by
  obtain ⟨id, typ, alg, len, mask, mat, state, dates, reason, msg, names, links, custom, lh, lt, lc, lu, arch⟩ := o
  simp only at hd
  obtain ⟨a0, a1, a2, a3, a4, a5, a6, a7, a8, a9, rfl⟩ := ten_list dates hd
  obtain ⟨b0, b1, b2, b3, b4, b5, b6, b7, b8, b9, rfl⟩ := ten_list D hD
  kernel_rfl

set_option maxRecDepth 100000 in
set_option maxHeartbeats 16000000 in
theorem archives_any (x : RawH) (hx : x.Ok) (rv : Value) (m : Nat) (X : Nat → RawH) (now reason : Int) (w : World) (hR : RawsH w rv m X) :
    Calls Tryd.prog 6 #[.agg x.cells.toArray, rv, .int .i64 now, .int .i64 reason] w fun e w' => e = .returned (.bool true) ∧ Only (fun _ => False) w w' := by
  have P7 := hide (fun W => pick_any reason 7 W (by decide) (by decide))
  obtain ⟨r7, hr7⟩ : ∃ r7, r7 = reason % 7 := ⟨_, rfl⟩
  have hr70 : 0 ≤ r7 := by rw [hr7]; exact Int.emod_nonneg _ (by decide)
  have hr71 : r7 < 7 := by rw [hr7]; exact Int.emod_lt_of_pos _ (by decide)
  have HR64 : Hid (W64 (1 + r7)) := by show W64 _; unfold W64; omega
  have W3 : Hid (IntKind.i64.wrap (1 + r7) = 1 + r7) := wr64 _ (by omega) (by omega)
  have HBR : Hid (∀ t, badR (1 + r7) [] (false, 0) t = false) := fun t => by unfold badR; simp; omega
  rw [← hr7] at P7
  clear hr7 hr70 hr71
  obtain ⟨w1, k1, e1, ek1, hb1, o1, hs1⟩ := boxed w x.cells.toArray 41
  rw [List.toList_toArray] at hb1
  have HOB := hide (hObj_any x hx rv m X w1 (hR.same o1))
  have O1 := hide o1
  have HE1 := hide e1
  have HEK1 := hide ek1
  obtain ⟨o, ho⟩ : ∃ o, o = hO x m X := ⟨_, rfl⟩
  have HSM : Hid (Small o) := by rw [ho]; exact hO_small x m X
  have HOK : Hid (o = hO x m X) := ho
  rw [← ho] at HOB
  have hr1 := hb1.range 0 4
  rw [List.drop_zero, List.take_of_length_le (by show 4 ≤ 4; omega)] at hr1
  obtain ⟨dsr, hru, hrd⟩ := row_desc Tryd.rowRawH
  have hrs : (Tryd.prog.info? 41).map (·.size) = some x.cells.length := Tryd.sizeRawH
  obtain ⟨R, hRc⟩ : ∃ R, R = x.cells := ⟨_, rfl⟩
  rw [← hRc] at HE1 HOB hr1 hrs ⊢
  obtain ⟨ra, rc, erv, -⟩ := hR.shape
  clear hb1 o1 hs1 e1 ek1 ho hRc hx
  clear hR
  subst erv
  have P70 := hide (fun W => pick_any now 70 W (by decide) (by decide))
  obtain ⟨t, ht⟩ : ∃ t, t = now % 70 := ⟨_, rfl⟩
  have ht0 : 0 ≤ t := by rw [ht]; exact Int.emod_nonneg _ (by decide)
  have ht1 : t < 70 := by rw [ht]; exact Int.emod_lt_of_pos _ (by decide)
  have HW : Hid (W64 t) := by show W64 t; unfold W64; omega
  have HP : Hid (∀ p mw nw lw cw, val p mw nw lw cw = .agg (cells p mw nw lw cw).toArray) := fun _ _ _ _ _ => rfl
  rw [← ht] at P70
  clear ht
  go_enter Tryd.func6, Tryd.ntmps6
  go_upto_region 1 with fail
  rw [← unhide HEK1, ← unhide HE1]
  clear HEK1 HE1
  go_wp2_with (refine wpList_load_mid rfl 41 (.tmp 4) rfl k1 0 rfl R dsr hr1 hru hrd hrs ?_)
  refine (unhide HOB).mono ?_
  rintro e w2 ⟨mv, nv, lv, cv, rfl, hin, hfr, o2⟩
  have hd := hin.ten
  rw [unhide HP]
  obtain ⟨w3, ko, e3, eko, hb3, o3, ht3⟩ := made37 w2 (cells o mv nv lv cv) (cells_len _ _ _ _ _ hd)
  obtain ⟨dsc, hdu, hdr⟩ := row_desc Tryd.rowObj
  have HSZA := hide (size_cellsA o mv nv lv cv hd)
  have HONE := hide hin.one
  have HB3 := hide hb3
  have I3 := hide (hin.same o3)
  have HGT : Hid (∀ j, (blk mv = some j ∨ blk nv = some j ∨ blk lv = some j ∨ blk cv = some j) → w.heap.size ≤ j) := fun j hj => by have := hfr j hj; have := (unhide O1).size; omega
  have OW : Hid (Only (fun _ => False) w w3) := ((unhide O1).trans o2 (fun _ _ e => e)).trans o3 (fun _ _ e => e)
  have HAP := hide (hin.apart (k := ko) (by omega))
  have hwko : w.heap.size ≤ ko := by have h1 := (unhide O1).size; have h2 := o2.size; omega
  have HT3 := hide ht3
  have HE3 := hide e3
  have HEKO := hide eko
  have HD := hide hd
  obtain ⟨C, hC⟩ : ∃ C, C = cells o mv nv lv cv := ⟨_, rfl⟩
  rw [← hC] at HSZA HONE HT3 HE3 ⊢
  clear hin hfr o2 hd hb3 o3 ht3 e3 eko hC O1 HOB hr1
  go_upto_region 2 with (refine wpList_store_mid rfl 32 (.tmp 9) (.tmp 25) rfl w2.heap.size 0 C.toArray rfl rfl (unhide HT3) (unhide HSZA) (unhide HONE) ?_)
  rw [zo_eq, ← unhide HE3, ← unhide HEKO]
  clear HE3 HEKO HT3 HONE HSZA
  -- o.Archived = false
  have ca := (unhide HB3).cell 36 _ (cells_back o mv nv lv cv (unhide HD) 9)
  have fa := (unhide HB3).free 36
  obtain ⟨o', ho'⟩ : ∃ o', o' = { o with arch := false } := ⟨_, rfl⟩
  have hb4 : Bx (w3.setCell ⟨ko, 36, none⟩ (.bool false)) ko 32 (cells o' mv nv lv cv) := by
    have h := (unhide HB3).set 36 (.bool false)
    rwa [set_arch o mv nv lv cv (unhide HD) false, ← ho'] at h
  have q4 : Only (fun j => j = ko) w3 (w3.setCell ⟨ko, 36, none⟩ (.bool false)) := (Only.refl _ _).here _ _
  have hi4 : In (w3.setCell ⟨ko, 36, none⟩ (.bool false)) o' mv nv lv cv := by
    have h := (unhide I3).offA q4 (unhide HAP)
    rw [ho']
    exact ⟨h.mat, h.names, h.links, h.custom, h.ten, h.ints, h.dats, h.lks, h.strs⟩
  have HB4 := hide hb4
  have HI4 := hide hi4
  have OW4 := hide ((unhide OW).trans (T := fun j => j = ko) q4 (fun j hj e => by omega))
  have HSO : Hid (Small o') := by rw [ho']; exact ⟨(unhide HSM).mat, (unhide HSM).names, (unhide HSM).links, (unhide HSM).custom⟩
  have HAR : Hid (o'.arch = false) := by rw [ho']; rfl
  clear hb4 q4 hi4 ho' HB3 I3 OW HAP HSM HD HOK
  go_upto_region 3 with fail
  generalize (w3.setCell ⟨ko, 36, none⟩ (.bool false)) = w4 at *
  clear ca fa
  have hd := (unhide HI4).ten
  have HSZ := hide (size_cells o' mv nv lv cv hd)
  have HR4 := hide (Bx.whole (unhide HB4) hd)
  obtain ⟨C4, hC4⟩ : ∃ C4, C4 = cells o' mv nv lv cv := ⟨_, rfl⟩
  have HC4 := hide hC4
  rw [← hC4] at HSZ HR4 HB4
  clear hC4 hd
  have Q0 : Hid (Only (fun _ => False) w4 w4) := Only.refl _ _
  go_wp2_with fail
  refine (unhide P70 _).mono ?_
  rintro e wx ⟨rfl, hwx⟩
  rw [hwx]
  clear hwx wx P70
  go_upto_region 4 with fail
  obtain ⟨a, ha⟩ : ∃ a, a = arcU o' t := ⟨_, rfl⟩
  have hrA := rangeAt_only (unhide HR4) (unhide Q0) (fun e => e)
  have HCA := hide (show Calls Tryd.prog 12 #[.agg C4.toArray, .int .i64 t] w4 fun e w' => Ans w4 w' e a 0 by rw [unhide HC4, ha]; exact (archive_any o' mv nv lv cv t w4 (unhide HI4) (unhide HSO) (unhide HW)).mono fun e w' h => ans_ok h (by unfold arcE; rw [unhide HAR]; rfl))
  go_wp2_with (refine wpList_load_mid rfl 32 (.tmp 9) rfl ko 0 rfl C4 dsc hrA hdu hdr (unhide HSZ) ?_)
  refine (unhide HCA).mono ?_
  rintro e yA ⟨mA, nA, lA, cA, rfl, hinA, hfrA, oA⟩
  clear hrA HCA
  obtain ⟨wA, kA, eA, ekA, hbA, pA, htA⟩ := made37 yA (cells (a) mA nA lA cA) (cells_len _ _ _ _ _ hinA.ten)
  have HSZA := hide (size_cellsA (a) mA nA lA cA hinA.ten)
  have HONEA := hide hinA.one
  have HTA := hide htA
  have HEA := hide eA
  have HEKA := hide ekA
  have QA := hide (((unhide Q0).trans oA (fun _ _ e => e)).trans pA (fun _ _ e => e))
  have QWA := hide (oA.trans pA (fun _ _ e => e))
  have INA := hide (hinA.same pA)
  have HBA := hide hbA
  have APA := hide (hinA.apart (k := kA) (by omega))
  have FRA := hide hfrA
  have HKA : Hid (w4.heap.size ≤ kA) := by have := oA.size; show _ ≤ _; omega
  rw [unhide HP]
  obtain ⟨BA, hBA⟩ : ∃ B, B = cells (a) mA nA lA cA := ⟨_, rfl⟩
  rw [← hBA] at HSZA HONEA HTA HEA HBA ⊢
  have HBBA := hide hBA
  clear hinA hfrA oA pA eA ekA hbA htA hBA
  go_upto_region 5 with (refine wpList_store_mid rfl 32 (.tmp 11) (.tmp 33) rfl yA.heap.size 0 BA.toArray rfl rfl (unhide HTA) (unhide HSZA) (unhide HONEA) ?_)
  rw [zo_eq, ← unhide HEA, ← unhide HEKA]
  clear HEA HEKA HTA HONEA HSZA
  have HSA : Hid (Small a) := by rw [ha]; exact ⟨(unhide HSO).mat, (unhide HSO).names, (unhide HSO).links, (unhide HSO).custom⟩
  have HAA : Hid (a.arch = true) := by rw [ha]; rfl
  have HRA := hide (by have h := unhide HBA; rw [unhide HBBA] at h; have h2 := Bx.whole h (unhide INA).ten; rw [← unhide HBBA] at h2; exact h2)
  have HSZ2 : Hid ((Tryd.prog.info? 32).map (·.size) = some BA.length) := by rw [unhide HBBA]; exact size_cells a mA nA lA cA (unhide INA).ten
  have HA := hide ha
  clear ha
  have HKN := hide (known_any wA)
  go_wp2_with fail
  refine (unhide HKN).mono ?_
  rintro e w5 ⟨rfl, Q5h⟩
  have Q5 := hide Q5h
  clear Q5h HKN
  go_upto_region 7 with fail
  have hrB := rangeAt_only (unhide HRA) (unhide Q5) (fun e => e)
  have HCB := hide (show Calls Tryd.prog 9 #[.agg BA.toArray, .int .i64 t] w5 fun e w' => Ans w5 w' e zero 13 by rw [unhide HBBA]; exact (activate_any a mA nA lA cA t w5 ((unhide INA).same (unhide Q5)) (unhide HSA) (unhide HW)).mono fun e w' h => ans_no h (by unfold actE; rw [unhide HAA]; rfl))
  go_wp2_with (refine wpList_load_mid rfl 32 (.tmp 11) rfl kA 0 rfl BA dsc hrB hdu hdr (unhide HSZ2) ?_)
  refine (unhide HCB).mono ?_
  rintro e yB ⟨mB, nB, lB, cB, rfl, hinB, hfrB, oB⟩
  clear hrB HCB
  obtain ⟨wB, kB, eB, ekB, hbB, pB, htB⟩ := made37 yB (cells (zero) mB nB lB cB) (cells_len _ _ _ _ _ hinB.ten)
  have HSZB := hide (size_cellsA (zero) mB nB lB cB hinB.ten)
  have HONEB := hide hinB.one
  have HTB := hide htB
  have HEB := hide eB
  have HEKB := hide ekB
  have QB := hide (((unhide Q5).trans oB (fun _ _ e => e)).trans pB (fun _ _ e => e))
  have QWB := hide (oB.trans pB (fun _ _ e => e))
  have INB := hide (hinB.same pB)
  have HBB := hide hbB
  have APB := hide (hinB.apart (k := kB) (by omega))
  have FRB := hide hfrB
  have HKB : Hid (w5.heap.size ≤ kB) := by have := oB.size; show _ ≤ _; omega
  rw [unhide HP]
  obtain ⟨BB, hBB⟩ : ∃ B, B = cells (zero) mB nB lB cB := ⟨_, rfl⟩
  rw [← hBB] at HSZB HONEB HTB HEB HBB ⊢
  have HBBB := hide hBB
  clear hinB hfrB oB pB eB ekB hbB htB hBB
  go_upto_region 8 with (refine wpList_store_mid rfl 32 (.tmp 13) (.tmp 45) rfl yB.heap.size 0 BB.toArray rfl rfl (unhide HTB) (unhide HSZB) (unhide HONEB) ?_)
  rw [zo_eq, ← unhide HEB, ← unhide HEKB]
  clear HEB HEKB HTB HONEB HSZB
  clear HKB QWB FRB APB INB HBB HBBB
  go_cut [16] (fun s wx => s = .int .i64 13 ∧ Hid (Only (fun _ => False) wB wx))
  case first =>
    as_aux_lemma =>
      obtain ⟨ya, kb, eya, ekb, BA0, oa0, -⟩ := boxed wB Zo.toArray 32
      have Q := hide ((Only.refl (fun _ => False) wB).drew)
      have BZ : Hid (Bx ya.drew kb 32 Zo) := (show Bx ya kb 32 Zo from BA0).same ((Only.refl _ _).drew)
      have QY := hide (oa0.drew)
      have hkn : ¬ kb < wB.heap.size := by omega
      have HEY := hide eya
      have HEK := hide ekb
      have HRB := hide (rangeAt_only (unhide HRA) (unhide QB) (fun e => e))
      have HREV : Hid (∀ W, Only (fun _ => False) wB W → Calls Tryd.prog 10 #[.agg BA.toArray, .int .i64 (1 + r7), .string ⟨#[]⟩, .agg #[.bool false, .int .i64 0], .int .i64 t] W fun e w' => Ans W w' e zero 13) := fun W q => by
        rw [unhide HBBA]
        exact (revoke_any a mA nA lA cA (1 + r7) [] (false, 0) t W (((unhide INA).same (unhide QB)).same q) (unhide HSA) (unhide HW) (unhide HR64) ⟨by decide, by decide⟩ (Nat.zero_le _) (Or.inl rfl)).mono fun e w' h => ans_no h (by unfold revE; rw [unhide HBR t, unhide HAA]; rfl)
      clear eya ekb BA0 oa0
      refine wp_region_held_drew (S := (fun w' => Only (fun _ => False) wB w')) (by kernel_rfl) ((Only.refl _ _).drew) (fun hHeld => ?_)
      refine wpAnyH_take (i := 0) (v := ?v1) rfl (by kernel_rfl) (by kernel_rfl) (by kernel_rfl) (fun _ _ _ h => h) (Or.inl ⟨by rfl, ?hy1⟩) (by assumption) ?rest1
      case hy1 =>
        intro w hSw
        (refine exec_load_mid 32 (.tmp 11) ?_ kA 0 ?_ BA dsc (rangeAt_only (unhide HRB) hSw (fun e => e)) hdu hdr (unhide HSZ2) <;> rfl)
      try simp only [Act.put, List.setIfInBounds_toArray, List.set_cons_zero, List.set_cons_succ, List.getElem_toArray, List.getElem_cons_succ, List.getElem_cons_zero]
      refine wpAnyH_take (i := 1) (v := ?v2) rfl (by kernel_rfl) (by kernel_rfl) (by kernel_rfl) (fun _ _ _ h => h) (Or.inl ⟨by rfl, ?hy2⟩) (by assumption) ?rest2
      case hy2 =>
        intro w hSw
        go_simp
        try with_reducible rfl
      try simp only [Act.put, List.setIfInBounds_toArray, List.set_cons_zero, List.set_cons_succ, List.getElem_toArray, List.getElem_cons_succ, List.getElem_cons_zero]
      refine wpAnyH_take (i := 4) (v := ?v3) rfl (by kernel_rfl) (by kernel_rfl) (by kernel_rfl) (fun _ _ _ h => h) (Or.inl ⟨by rfl, ?hy3⟩) (by assumption) ?rest3
      case hy3 =>
        intro w hSw
        go_simp
        try with_reducible rfl
      try simp only [Act.put, List.setIfInBounds_toArray, List.set_cons_zero, List.set_cons_succ, List.getElem_toArray, List.getElem_cons_succ, List.getElem_cons_zero]
      refine wpAnyH_take (i := 5) (v := ?v4) rfl (by kernel_rfl) (by kernel_rfl) (by kernel_rfl) (fun _ _ _ h => h) (Or.inl ⟨by rfl, ?hy4⟩) (by assumption) ?rest4
      case hy4 =>
        intro w hSw
        go_simp
        try with_reducible rfl
      try simp only [Act.put, List.setIfInBounds_toArray, List.set_cons_zero, List.set_cons_succ, List.getElem_toArray, List.getElem_cons_succ, List.getElem_cons_zero]
      refine wpAnyH_ready (rs := [2, 10]) (by kernel_rfl) (by simp) ?_
      refine (AllReadyH.cons rfl (fun K hK => ?_) (AllReadyH.cons rfl (fun K hK => ?_) AllReadyH.nil))
      · skip
        go_simp
        go_wp2_with fail; refine (unhide P7 _).mono ?_; rintro e wx ⟨rfl, hwx⟩; rw [hwx]; clear hwx wx
        refine hK.out _ _ ((unhide Q)) (fun hHeld => ?_)
        clear hK K
        try simp only [Act.put, List.setIfInBounds_toArray, List.set_cons_zero, List.set_cons_succ, List.getElem_toArray, List.getElem_cons_succ, List.getElem_cons_zero]
        refine wpAnyH_take (i := 3) (v := ?v5) rfl (by kernel_rfl) (by kernel_rfl) (by kernel_rfl) (fun _ _ _ h => h) (Or.inl ⟨by rfl, ?hy5⟩) (by assumption) ?rest5
        case hy5 =>
          intro w hSw
          (go_simp; rw [unhide W3]; try with_reducible rfl)
        try simp only [Act.put, List.setIfInBounds_toArray, List.set_cons_zero, List.set_cons_succ, List.getElem_toArray, List.getElem_cons_succ, List.getElem_cons_zero]
        refine wpAnyH_ready (rs := [6, 10]) (by kernel_rfl) (by simp) ?_
        refine (AllReadyH.cons rfl (fun K hK => ?_) (AllReadyH.cons rfl (fun K hK => ?_) AllReadyH.nil))
        · skip
          have HV := hide (unhide HREV _ (unhide Q))
          go_simp
          go_wp2_with fail; refine (unhide HV).mono ?_; rintro e y ⟨m, n, l, c, rfl, hin, hfr, oy⟩; have Q2 := hide ((unhide Q).trans oy (fun _ _ e => e)); obtain ⟨w9, k9, e9, ek9, hb9, p9, ht9⟩ := made37 y (cells zero m n l c) (cells_len _ _ _ _ _ hin.ten); have HSZ9 := hide (size_cellsA zero m n l c hin.ten); have HONE9 := hide hin.one; have HT9 := hide ht9; have HE9 := hide e9; have Q9 := hide ((unhide Q2).trans p9 (fun _ _ e => e)); rw [unhide HP]; obtain ⟨B9, hB9⟩ : ∃ B, B = cells zero m n l c := ⟨_, rfl⟩; rw [← hB9] at HSZ9 HONE9 HT9 HE9 ⊢; clear hin hfr oy e9 ek9 hb9 p9 ht9 hB9
          refine hK.out _ _ ((unhide Q2)) (fun hHeld => ?_)
          clear hK K
          try simp only [Act.put, List.setIfInBounds_toArray, List.set_cons_zero, List.set_cons_succ, List.getElem_toArray, List.getElem_cons_succ, List.getElem_cons_zero]
          refine wpAnyH_take (i := 7) (v := ?v6) rfl (by kernel_rfl) (by kernel_rfl) (by kernel_rfl) (fun _ _ _ h => h) (Or.inl ⟨by rfl, ?hy6⟩) (by assumption) ?rest6
          case hy6 =>
            intro w hSw
            go_simp
            try with_reducible rfl
          try simp only [Act.put, List.setIfInBounds_toArray, List.set_cons_zero, List.set_cons_succ, List.getElem_toArray, List.getElem_cons_succ, List.getElem_cons_zero]
          refine wpAnyH_take (i := 8) (v := ?v7) rfl (by kernel_rfl) (by kernel_rfl) (by kernel_rfl) (fun _ _ _ h => h) (Or.inl ⟨by rfl, ?hy7⟩) (by assumption) ?rest7
          case hy7 =>
            intro w hSw
            go_simp
            try with_reducible rfl
          try simp only [Act.put, List.setIfInBounds_toArray, List.set_cons_zero, List.set_cons_succ, List.getElem_toArray, List.getElem_cons_succ, List.getElem_cons_zero]
          refine wpAnyH_take (i := 9) (v := ?v8) rfl (by kernel_rfl) (by kernel_rfl) (by kernel_rfl) (fun _ _ _ h => h) (Or.inl ⟨by rfl, ?hy8⟩) (by assumption) ?rest8
          case hy8 =>
            intro w hSw
            go_simp
            try with_reducible rfl
          try simp only [Act.put, List.setIfInBounds_toArray, List.set_cons_zero, List.set_cons_succ, List.getElem_toArray, List.getElem_cons_succ, List.getElem_cons_zero]
          refine wpAnyH_ready (rs := [10]) (by kernel_rfl) (by simp) ?_
          refine AllReadyH.cons rfl (fun K hK => ?_) AllReadyH.nil
          go_simp
          refine hK.out _ _ (((unhide Q2).alloc _)) (fun hHeld => ?_)
          clear hK K
          try simp only [Act.put, List.setIfInBounds_toArray, List.set_cons_zero, List.set_cons_succ, List.getElem_toArray, List.getElem_cons_succ, List.getElem_cons_zero]
          refine wpAnyH_ready (rs := [11]) (by kernel_rfl) (by simp) ?_
          refine AllReadyH.cons rfl (fun K hK => ?_) AllReadyH.nil
          refine step_store_midA rfl 32 (.tmp 15) (.tmp 55) rfl y.heap.size 0 B9.toArray rfl rfl (unhide HT9) (unhide HSZ9) (unhide HONE9) ?_; rw [zo_eq, ← unhide HE9]
          refine hK.out _ _ ((unhide Q9)) (fun hHeld => ?_)
          clear hK K
          try simp only [Act.put, List.setIfInBounds_toArray, List.set_cons_zero, List.set_cons_succ, List.getElem_toArray, List.getElem_cons_succ, List.getElem_cons_zero]
          refine wpAnyH_take (i := 12) (v := ?v9) rfl (by kernel_rfl) (by kernel_rfl) (by kernel_rfl) (fun _ _ _ h => h) (Or.inl ⟨by rfl, ?hy9⟩) (by assumption) ?rest9
          case hy9 =>
            intro w hSw
            go_simp
            try with_reducible rfl
          try simp only [Act.put, List.setIfInBounds_toArray, List.set_cons_zero, List.set_cons_succ, List.getElem_toArray, List.getElem_cons_succ, List.getElem_cons_zero]
          refine wpAnyH_done (by kernel_rfl) ?_ _
          go_step
          go_step
          go_meet
          case rel => exact ⟨rfl, unhide Q9⟩
        · skip
          go_simp
          refine hK.out _ _ ((((Only.refl (fun _ => False) wB).alloc _).drew)) (fun hHeld => ?_)
          clear hK K
          try simp only [Act.put, List.setIfInBounds_toArray, List.set_cons_zero, List.set_cons_succ, List.getElem_toArray, List.getElem_cons_succ, List.getElem_cons_zero]
          rw [zo_eq, ← unhide HEK, ← unhide HEY]
          have HV := hide (unhide HREV _ (unhide QY))
          refine wpAnyH_ready (rs := [6]) (by kernel_rfl) (by simp) ?_
          refine AllReadyH.cons rfl (fun K hK => ?_) AllReadyH.nil
          go_simp
          go_wp2_with fail; refine (unhide HV).mono ?_; rintro e y ⟨m, n, l, c, rfl, hin, hfr, oy⟩; have Q2 := hide ((unhide QY).trans oy (fun _ _ e => e)); have hz := (unhide BZ).same oy; obtain ⟨hth, hfb, hin7, hof⟩ := fin37 hin (fun j hj e => by have h1 := hfr j hj; have h2 := (unhide BZ).lt; omega) hz (cs0 := Zo) rfl; have HSZ9 := hide (size_cellsA zero m n l c hin.ten); have HONE9 := hide hin.one; have HT9 := hide hth; have Q9 := hide ((unhide Q2).trans (T := fun j => j = kb) hof (fun j hj e => by omega)); rw [unhide HP]; obtain ⟨B9, hB9⟩ : ∃ B, B = cells zero m n l c := ⟨_, rfl⟩; rw [← hB9] at HSZ9 HONE9 HT9 Q9 ⊢; clear hin hfr oy hth hfb hin7 hof hz hB9
          refine hK.out _ _ ((unhide Q2)) (fun hHeld => ?_)
          clear hK K
          try simp only [Act.put, List.setIfInBounds_toArray, List.set_cons_zero, List.set_cons_succ, List.getElem_toArray, List.getElem_cons_succ, List.getElem_cons_zero]
          refine wpAnyH_take (i := 7) (v := ?v10) rfl (by kernel_rfl) (by kernel_rfl) (by kernel_rfl) (fun _ _ _ h => h) (Or.inl ⟨by rfl, ?hy10⟩) (by assumption) ?rest10
          case hy10 =>
            intro w hSw
            go_simp
            try with_reducible rfl
          try simp only [Act.put, List.setIfInBounds_toArray, List.set_cons_zero, List.set_cons_succ, List.getElem_toArray, List.getElem_cons_succ, List.getElem_cons_zero]
          refine wpAnyH_take (i := 8) (v := ?v11) rfl (by kernel_rfl) (by kernel_rfl) (by kernel_rfl) (fun _ _ _ h => h) (Or.inl ⟨by rfl, ?hy11⟩) (by assumption) ?rest11
          case hy11 =>
            intro w hSw
            go_simp
            try with_reducible rfl
          try simp only [Act.put, List.setIfInBounds_toArray, List.set_cons_zero, List.set_cons_succ, List.getElem_toArray, List.getElem_cons_succ, List.getElem_cons_zero]
          refine wpAnyH_take (i := 9) (v := ?v12) rfl (by kernel_rfl) (by kernel_rfl) (by kernel_rfl) (fun _ _ _ h => h) (Or.inl ⟨by rfl, ?hy12⟩) (by assumption) ?rest12
          case hy12 =>
            intro w hSw
            go_simp
            try with_reducible rfl
          try simp only [Act.put, List.setIfInBounds_toArray, List.set_cons_zero, List.set_cons_succ, List.getElem_toArray, List.getElem_cons_succ, List.getElem_cons_zero]
          refine wpAnyH_ready (rs := [11]) (by kernel_rfl) (by simp) ?_
          refine AllReadyH.cons rfl (fun K hK => ?_) AllReadyH.nil
          refine step_store_midA rfl 32 (.tmp 15) (.tmp 55) rfl kb 0 B9.toArray rfl rfl (unhide HT9) (unhide HSZ9) (unhide HONE9) ?_
          refine hK.out _ _ ((unhide Q9)) (fun hHeld => ?_)
          clear hK K
          try simp only [Act.put, List.setIfInBounds_toArray, List.set_cons_zero, List.set_cons_succ, List.getElem_toArray, List.getElem_cons_succ, List.getElem_cons_zero]
          refine wpAnyH_take (i := 12) (v := ?v13) rfl (by kernel_rfl) (by kernel_rfl) (by kernel_rfl) (fun _ _ _ h => h) (Or.inl ⟨by rfl, ?hy13⟩) (by assumption) ?rest13
          case hy13 =>
            intro w hSw
            go_simp
            try with_reducible rfl
          try simp only [Act.put, List.setIfInBounds_toArray, List.set_cons_zero, List.set_cons_succ, List.getElem_toArray, List.getElem_cons_succ, List.getElem_cons_zero]
          refine wpAnyH_done (by kernel_rfl) ?_ _
          go_step
          go_step
          go_meet
          case rel => exact ⟨rfl, unhide Q9⟩
      · skip
        go_simp
        refine hK.out _ _ ((((Only.refl (fun _ => False) wB).alloc _).drew)) (fun hHeld => ?_)
        clear hK K
        try simp only [Act.put, List.setIfInBounds_toArray, List.set_cons_zero, List.set_cons_succ, List.getElem_toArray, List.getElem_cons_succ, List.getElem_cons_zero]
        rw [zo_eq, ← unhide HEK, ← unhide HEY]
        refine wpAnyH_ready (rs := [2]) (by kernel_rfl) (by simp) ?_
        refine AllReadyH.cons rfl (fun K hK => ?_) AllReadyH.nil
        go_simp
        go_wp2_with fail; refine (unhide P7 _).mono ?_; rintro e wx ⟨rfl, hwx⟩; rw [hwx]; clear hwx wx
        refine hK.out _ _ ((unhide QY)) (fun hHeld => ?_)
        clear hK K
        try simp only [Act.put, List.setIfInBounds_toArray, List.set_cons_zero, List.set_cons_succ, List.getElem_toArray, List.getElem_cons_succ, List.getElem_cons_zero]
        refine wpAnyH_take (i := 3) (v := ?v14) rfl (by kernel_rfl) (by kernel_rfl) (by kernel_rfl) (fun _ _ _ h => h) (Or.inl ⟨by rfl, ?hy14⟩) (by assumption) ?rest14
        case hy14 =>
          intro w hSw
          (go_simp; rw [unhide W3]; try with_reducible rfl)
        try simp only [Act.put, List.setIfInBounds_toArray, List.set_cons_zero, List.set_cons_succ, List.getElem_toArray, List.getElem_cons_succ, List.getElem_cons_zero]
        have HV := hide (unhide HREV _ (unhide QY))
        refine wpAnyH_ready (rs := [6]) (by kernel_rfl) (by simp) ?_
        refine AllReadyH.cons rfl (fun K hK => ?_) AllReadyH.nil
        go_simp
        go_wp2_with fail; refine (unhide HV).mono ?_; rintro e y ⟨m, n, l, c, rfl, hin, hfr, oy⟩; have Q2 := hide ((unhide QY).trans oy (fun _ _ e => e)); have hz := (unhide BZ).same oy; obtain ⟨hth, hfb, hin7, hof⟩ := fin37 hin (fun j hj e => by have h1 := hfr j hj; have h2 := (unhide BZ).lt; omega) hz (cs0 := Zo) rfl; have HSZ9 := hide (size_cellsA zero m n l c hin.ten); have HONE9 := hide hin.one; have HT9 := hide hth; have Q9 := hide ((unhide Q2).trans (T := fun j => j = kb) hof (fun j hj e => by omega)); rw [unhide HP]; obtain ⟨B9, hB9⟩ : ∃ B, B = cells zero m n l c := ⟨_, rfl⟩; rw [← hB9] at HSZ9 HONE9 HT9 Q9 ⊢; clear hin hfr oy hth hfb hin7 hof hz hB9
        refine hK.out _ _ ((unhide Q2)) (fun hHeld => ?_)
        clear hK K
        try simp only [Act.put, List.setIfInBounds_toArray, List.set_cons_zero, List.set_cons_succ, List.getElem_toArray, List.getElem_cons_succ, List.getElem_cons_zero]
        refine wpAnyH_take (i := 7) (v := ?v15) rfl (by kernel_rfl) (by kernel_rfl) (by kernel_rfl) (fun _ _ _ h => h) (Or.inl ⟨by rfl, ?hy15⟩) (by assumption) ?rest15
        case hy15 =>
          intro w hSw
          go_simp
          try with_reducible rfl
        try simp only [Act.put, List.setIfInBounds_toArray, List.set_cons_zero, List.set_cons_succ, List.getElem_toArray, List.getElem_cons_succ, List.getElem_cons_zero]
        refine wpAnyH_take (i := 8) (v := ?v16) rfl (by kernel_rfl) (by kernel_rfl) (by kernel_rfl) (fun _ _ _ h => h) (Or.inl ⟨by rfl, ?hy16⟩) (by assumption) ?rest16
        case hy16 =>
          intro w hSw
          go_simp
          try with_reducible rfl
        try simp only [Act.put, List.setIfInBounds_toArray, List.set_cons_zero, List.set_cons_succ, List.getElem_toArray, List.getElem_cons_succ, List.getElem_cons_zero]
        refine wpAnyH_take (i := 9) (v := ?v17) rfl (by kernel_rfl) (by kernel_rfl) (by kernel_rfl) (fun _ _ _ h => h) (Or.inl ⟨by rfl, ?hy17⟩) (by assumption) ?rest17
        case hy17 =>
          intro w hSw
          go_simp
          try with_reducible rfl
        try simp only [Act.put, List.setIfInBounds_toArray, List.set_cons_zero, List.set_cons_succ, List.getElem_toArray, List.getElem_cons_succ, List.getElem_cons_zero]
        refine wpAnyH_ready (rs := [11]) (by kernel_rfl) (by simp) ?_
        refine AllReadyH.cons rfl (fun K hK => ?_) AllReadyH.nil
        refine step_store_midA rfl 32 (.tmp 15) (.tmp 55) rfl kb 0 B9.toArray rfl rfl (unhide HT9) (unhide HSZ9) (unhide HONE9) ?_
        refine hK.out _ _ ((unhide Q9)) (fun hHeld => ?_)
        clear hK K
        try simp only [Act.put, List.setIfInBounds_toArray, List.set_cons_zero, List.set_cons_succ, List.getElem_toArray, List.getElem_cons_succ, List.getElem_cons_zero]
        refine wpAnyH_take (i := 12) (v := ?v18) rfl (by kernel_rfl) (by kernel_rfl) (by kernel_rfl) (fun _ _ _ h => h) (Or.inl ⟨by rfl, ?hy18⟩) (by assumption) ?rest18
        case hy18 =>
          intro w hSw
          go_simp
          try with_reducible rfl
        try simp only [Act.put, List.setIfInBounds_toArray, List.set_cons_zero, List.set_cons_succ, List.getElem_toArray, List.getElem_cons_succ, List.getElem_cons_zero]
        refine wpAnyH_done (by kernel_rfl) ?_ _
        go_step
        go_step
        go_meet
        case rel => exact ⟨rfl, unhide Q9⟩
  case rest =>
    as_aux_lemma =>
      rename World => wC
      obtain ⟨rfl, OC⟩ := hcut
      have QC := hide ((unhide QB).trans (unhide OC) (fun _ _ e => e))
      clear OC
      have hrD := rangeAt_only (unhide HRA) (unhide QC) (fun e => e)
      have HCD := hide (show Calls Tryd.prog 11 #[.agg BA.toArray, .int .i64 t] wC fun e w' => Ans wC w' e zero 13 by rw [unhide HBBA]; exact (destroy_any a mA nA lA cA t wC ((unhide INA).same (unhide QC)) (unhide HSA) (unhide HW)).mono fun e w' h => ans_no h (by unfold desE; rw [unhide HAA]; rfl))
      go_wp2_with (refine wpList_load_mid rfl 32 (.tmp 11) rfl kA 0 rfl BA dsc hrD hdu hdr (unhide HSZ2) ?_)
      refine (unhide HCD).mono ?_
      rintro e yD ⟨mD, nD, lD, cD, rfl, hinD, hfrD, oD⟩
      clear hrD HCD
      obtain ⟨wD, kD, eD, ekD, hbD, pD, htD⟩ := made37 yD (cells (zero) mD nD lD cD) (cells_len _ _ _ _ _ hinD.ten)
      have HSZD := hide (size_cellsA (zero) mD nD lD cD hinD.ten)
      have HONED := hide hinD.one
      have HTD := hide htD
      have HED := hide eD
      have HEKD := hide ekD
      have QD := hide (((unhide QC).trans oD (fun _ _ e => e)).trans pD (fun _ _ e => e))
      have QWD := hide (oD.trans pD (fun _ _ e => e))
      have IND := hide (hinD.same pD)
      have HBD := hide hbD
      have APD := hide (hinD.apart (k := kD) (by omega))
      have FRD := hide hfrD
      have HKD : Hid (wC.heap.size ≤ kD) := by have := oD.size; show _ ≤ _; omega
      rw [unhide HP]
      obtain ⟨BD, hBD⟩ : ∃ B, B = cells (zero) mD nD lD cD := ⟨_, rfl⟩
      rw [← hBD] at HSZD HONED HTD HED HBD ⊢
      have HBBD := hide hBD
      clear hinD hfrD oD pD eD ekD hbD htD hBD
      go_upto_region 10 with (refine wpList_store_mid rfl 32 (.tmp 17) (.tmp 61) rfl yD.heap.size 0 BD.toArray rfl rfl (unhide HTD) (unhide HSZD) (unhide HONED) ?_)
      rw [zo_eq, ← unhide HED, ← unhide HEKD]
      clear HED HEKD HTD HONED HSZD
      clear HKD QWD FRD APD IND HBD HBBD
      have hrE := rangeAt_only (unhide HRA) (unhide QD) (fun e => e)
      have HCE := hide (show Calls Tryd.prog 12 #[.agg BA.toArray, .int .i64 t] wD fun e w' => Ans wD w' e zero 13 by rw [unhide HBBA]; exact (archive_any a mA nA lA cA t wD ((unhide INA).same (unhide QD)) (unhide HSA) (unhide HW)).mono fun e w' h => ans_no h (by unfold arcE; rw [unhide HAA]; rfl))
      go_wp2_with (refine wpList_load_mid rfl 32 (.tmp 11) rfl kA 0 rfl BA dsc hrE hdu hdr (unhide HSZ2) ?_)
      refine (unhide HCE).mono ?_
      rintro e yE ⟨mE, nE, lE, cE, rfl, hinE, hfrE, oE⟩
      clear hrE HCE
      obtain ⟨wE, kE, eE, ekE, hbE, pE, htE⟩ := made37 yE (cells (zero) mE nE lE cE) (cells_len _ _ _ _ _ hinE.ten)
      have HSZE := hide (size_cellsA (zero) mE nE lE cE hinE.ten)
      have HONEE := hide hinE.one
      have HTE := hide htE
      have HEE := hide eE
      have HEKE := hide ekE
      have QE := hide (((unhide QD).trans oE (fun _ _ e => e)).trans pE (fun _ _ e => e))
      have QWE := hide (oE.trans pE (fun _ _ e => e))
      have INE := hide (hinE.same pE)
      have HBE := hide hbE
      have APE := hide (hinE.apart (k := kE) (by omega))
      have FRE := hide hfrE
      have HKE : Hid (wD.heap.size ≤ kE) := by have := oE.size; show _ ≤ _; omega
      rw [unhide HP]
      obtain ⟨BE, hBE⟩ : ∃ B, B = cells (zero) mE nE lE cE := ⟨_, rfl⟩
      rw [← hBE] at HSZE HONEE HTE HEE HBE ⊢
      have HBBE := hide hBE
      clear hinE hfrE oE pE eE ekE hbE htE hBE
      go_upto_region 11 with (refine wpList_store_mid rfl 32 (.tmp 19) (.tmp 67) rfl yE.heap.size 0 BE.toArray rfl rfl (unhide HTE) (unhide HSZE) (unhide HONEE) ?_)
      rw [zo_eq, ← unhide HEE, ← unhide HEKE]
      clear HEE HEKE HTE HONEE HSZE
      clear HKE QWE FRE APE INE HBE HBBE
      obtain ⟨b, hb⟩ : ∃ b, b = recU a t := ⟨_, rfl⟩
      have hrF := rangeAt_only (unhide HRA) (unhide QE) (fun e => e)
      have HCF := hide (show Calls Tryd.prog 13 #[.agg BA.toArray, .int .i64 t] wE fun e w' => Ans wE w' e b 0 by rw [unhide HBBA, hb]; exact (recover_any a mA nA lA cA t wE ((unhide INA).same (unhide QE)) (unhide HSA) (unhide HW)).mono fun e w' h => ans_ok h (by unfold recE; rw [unhide HAA]; rfl))
      go_wp2_with (refine wpList_load_mid rfl 32 (.tmp 11) rfl kA 0 rfl BA dsc hrF hdu hdr (unhide HSZ2) ?_)
      refine (unhide HCF).mono ?_
      rintro e yF ⟨mF, nF, lF, cF, rfl, hinF, hfrF, oF⟩
      clear hrF HCF
      obtain ⟨wF, kF, eF, ekF, hbF, pF, htF⟩ := made37 yF (cells (b) mF nF lF cF) (cells_len _ _ _ _ _ hinF.ten)
      have HSZF := hide (size_cellsA (b) mF nF lF cF hinF.ten)
      have HONEF := hide hinF.one
      have HTF := hide htF
      have HEF := hide eF
      have HEKF := hide ekF
      have QF := hide (((unhide QE).trans oF (fun _ _ e => e)).trans pF (fun _ _ e => e))
      have QWF := hide (oF.trans pF (fun _ _ e => e))
      have INF := hide (hinF.same pF)
      have HBF := hide hbF
      have APF := hide (hinF.apart (k := kF) (by omega))
      have FRF := hide hfrF
      have HKF : Hid (wE.heap.size ≤ kF) := by have := oF.size; show _ ≤ _; omega
      rw [unhide HP]
      obtain ⟨BF, hBF⟩ : ∃ B, B = cells (b) mF nF lF cF := ⟨_, rfl⟩
      rw [← hBF] at HSZF HONEF HTF HEF HBF ⊢
      have HBBF := hide hBF
      clear hinF hfrF oF pF eF ekF hbF htF hBF
      go_upto_region 12 with (refine wpList_store_mid rfl 32 (.tmp 21) (.tmp 73) rfl yF.heap.size 0 BF.toArray rfl rfl (unhide HTF) (unhide HSZF) (unhide HONEF) ?_)
      rw [zo_eq, ← unhide HEF, ← unhide HEKF]
      clear HEF HEKF HTF HONEF HSZF
      clear QWF
      have HDA : Hid (dget a 8 = (true, t)) := by
        have hl := (unhide HI4).ten
        show _ = _
        rw [unhide HA]
        unfold dget arcU dput
        simp [List.getD_eq_getElem?_getD, List.getElem?_set, hl]
      have hdl : a.dates.length = 10 := (unhide INA).ten
      have HDB : Hid (dget b 9 = (true, t)) := by
        show _ = _
        rw [hb]
        unfold dget recU dput
        simp [List.getD_eq_getElem?_getD, List.getElem?_set, hdl]
      have hga := get_date a mA nA lA cA hdl 8 (by decide)
      rw [show a.dates.getD 8 (false, 0) = (true, t) from unhide HDA, ← unhide HBBA] at hga
      have hgb := get_date b mF nF lF cF (unhide INF).ten 9 (by decide)
      rw [show b.dates.getD 9 (false, 0) = (true, t) from unhide HDB, ← unhide HBBF] at hgb
      have A1 : Hid (wF.cell? ⟨kA, 23, none⟩ = some (.bool true)) := ((unhide HBA).same (unhide QF)).cell 23 _ hga.1
      have A2 : Hid (wF.cell? ⟨kA, 24, none⟩ = some (.int .i64 t)) := ((unhide HBA).same (unhide QF)).cell 24 _ hga.2
      have B1 : Hid (wF.cell? ⟨kF, 25, none⟩ = some (.bool true)) := (unhide HBF).cell 25 _ hgb.1
      have B2 : Hid (wF.cell? ⟨kF, 26, none⟩ = some (.int .i64 t)) := (unhide HBF).cell 26 _ hgb.2
      have HDT := hide (fun W => date_any t W)
      clear hga hgb hdl
      go_cut [108] (fun s wx => s = .bool false ∧ Hid (Only (fun _ => False) wF wx))
      case first =>
        as_aux_lemma =>
          have Q := hide ((Only.refl (fun _ => False) wF).drew)
          refine wp_region_held_drew (S := (fun w' => Only (fun _ => False) wF w')) (by kernel_rfl) ((Only.refl _ _).drew) (fun hHeld => ?_)
          refine wpAnyH_take (i := 0) (v := ?v19) rfl (by kernel_rfl) (by kernel_rfl) (by kernel_rfl) (fun _ _ _ h => h) (Or.inl ⟨by rfl, ?hy19⟩) (by assumption) ?rest19
          case hy19 =>
            intro w hSw
            go_simp
            try with_reducible rfl
          try simp only [Act.put, List.setIfInBounds_toArray, List.set_cons_zero, List.set_cons_succ, List.getElem_toArray, List.getElem_cons_succ, List.getElem_cons_zero]
          refine wpAnyH_take (i := 1) (v := ?v20) rfl (by kernel_rfl) (by kernel_rfl) (by kernel_rfl) (fun _ _ _ h => h) (Or.inl ⟨by rfl, ?hy20⟩) (by assumption) ?rest20
          case hy20 =>
            intro w hSw
            go_simp
            try with_reducible rfl
          try simp only [Act.put, List.setIfInBounds_toArray, List.set_cons_zero, List.set_cons_succ, List.getElem_toArray, List.getElem_cons_succ, List.getElem_cons_zero]
          refine wpAnyH_take (i := 2) (v := ?v21) rfl (by kernel_rfl) (by kernel_rfl) (by kernel_rfl) (fun _ _ _ h => h) (Or.inl ⟨by rfl, ?hy21⟩) (by assumption) ?rest21
          case hy21 =>
            intro w hSw
            go_simp
            try with_reducible rfl
          try simp only [Act.put, List.setIfInBounds_toArray, List.set_cons_zero, List.set_cons_succ, List.getElem_toArray, List.getElem_cons_succ, List.getElem_cons_zero]
          refine wpAnyH_take (i := 3) (v := ?v22) rfl (by kernel_rfl) (by kernel_rfl) (by kernel_rfl) (fun _ _ _ h => h) (Or.inl ⟨by rfl, ?hy22⟩) (by assumption) ?rest22
          case hy22 =>
            intro w hSw
            go_simp
            try with_reducible rfl
          try simp only [Act.put, List.setIfInBounds_toArray, List.set_cons_zero, List.set_cons_succ, List.getElem_toArray, List.getElem_cons_succ, List.getElem_cons_zero]
          refine wpAnyH_take (i := 4) (v := ?v23) rfl (by kernel_rfl) (by kernel_rfl) (by kernel_rfl) (fun _ _ _ h => h) (Or.inl ⟨by rfl, ?hy23⟩) (by assumption) ?rest23
          case hy23 =>
            intro w hSw
            go_simp
            try with_reducible rfl
          try simp only [Act.put, List.setIfInBounds_toArray, List.set_cons_zero, List.set_cons_succ, List.getElem_toArray, List.getElem_cons_succ, List.getElem_cons_zero]
          refine wpAnyH_take (i := 5) (v := ?v24) rfl (by kernel_rfl) (by kernel_rfl) (by kernel_rfl) (fun _ _ _ h => h) (Or.inl ⟨by rfl, ?hy24⟩) (by assumption) ?rest24
          case hy24 =>
            intro w hSw
            go_simp
            try with_reducible rfl
          try simp only [Act.put, List.setIfInBounds_toArray, List.set_cons_zero, List.set_cons_succ, List.getElem_toArray, List.getElem_cons_succ, List.getElem_cons_zero]
          refine wpAnyH_take (i := 6) (v := ?v25) rfl (by kernel_rfl) (by kernel_rfl) (by kernel_rfl) (fun _ _ _ h => h) (Or.inl ⟨by rfl, ?hy25⟩) (by assumption) ?rest25
          case hy25 =>
            intro w hSw
            go_simp
            try with_reducible rfl
          try simp only [Act.put, List.setIfInBounds_toArray, List.set_cons_zero, List.set_cons_succ, List.getElem_toArray, List.getElem_cons_succ, List.getElem_cons_zero]
          refine wpAnyH_take (i := 7) (v := ?v26) rfl (by kernel_rfl) (by kernel_rfl) (by kernel_rfl) (fun _ _ _ h => h) (Or.inl ⟨by rfl, ?hy26⟩) (by assumption) ?rest26
          case hy26 =>
            intro w hSw
            go_simp
            try with_reducible rfl
          try simp only [Act.put, List.setIfInBounds_toArray, List.set_cons_zero, List.set_cons_succ, List.getElem_toArray, List.getElem_cons_succ, List.getElem_cons_zero]
          refine wpAnyH_take (i := 8) (v := ?v27) rfl (by kernel_rfl) (by kernel_rfl) (by kernel_rfl) (fun _ _ _ h => h) (Or.inl ⟨by rfl, ?hy27⟩) (by assumption) ?rest27
          case hy27 =>
            intro w hSw
            go_simp
            try with_reducible rfl
          try simp only [Act.put, List.setIfInBounds_toArray, List.set_cons_zero, List.set_cons_succ, List.getElem_toArray, List.getElem_cons_succ, List.getElem_cons_zero]
          refine wpAnyH_take (i := 9) (v := ?v28) rfl (by kernel_rfl) (by kernel_rfl) (by kernel_rfl) (fun _ _ _ h => h) (Or.inl ⟨by rfl, ?hy28⟩) (by assumption) ?rest28
          case hy28 =>
            intro w hSw
            go_simp
            try with_reducible rfl
          try simp only [Act.put, List.setIfInBounds_toArray, List.set_cons_zero, List.set_cons_succ, List.getElem_toArray, List.getElem_cons_succ, List.getElem_cons_zero]
          refine wpAnyH_take (i := 10) (v := ?v29) rfl (by kernel_rfl) (by kernel_rfl) (by kernel_rfl) (fun _ _ _ h => h) (Or.inl ⟨by rfl, ?hy29⟩) (by assumption) ?rest29
          case hy29 =>
            intro w hSw
            go_simp
            try with_reducible rfl
          try simp only [Act.put, List.setIfInBounds_toArray, List.set_cons_zero, List.set_cons_succ, List.getElem_toArray, List.getElem_cons_succ, List.getElem_cons_zero]
          refine wpAnyH_take (i := 11) (v := ?v30) rfl (by kernel_rfl) (by kernel_rfl) (by kernel_rfl) (fun _ _ _ h => h) (Or.inl ⟨by rfl, ?hy30⟩) (by assumption) ?rest30
          case hy30 =>
            intro w hSw
            go_simp
            try with_reducible rfl
          try simp only [Act.put, List.setIfInBounds_toArray, List.set_cons_zero, List.set_cons_succ, List.getElem_toArray, List.getElem_cons_succ, List.getElem_cons_zero]
          refine wpAnyH_take (i := 12) (v := ?v31) rfl (by kernel_rfl) (by kernel_rfl) (by kernel_rfl) (fun _ _ _ h => h) (Or.inl ⟨by rfl, ?hy31⟩) (by assumption) ?rest31
          case hy31 =>
            intro w hSw
            go_simp
            try with_reducible rfl
          try simp only [Act.put, List.setIfInBounds_toArray, List.set_cons_zero, List.set_cons_succ, List.getElem_toArray, List.getElem_cons_succ, List.getElem_cons_zero]
          refine wpAnyH_take (i := 13) (v := ?v32) rfl (by kernel_rfl) (by kernel_rfl) (by kernel_rfl) (fun _ _ _ h => h) (Or.inl ⟨by rfl, ?hy32⟩) (by assumption) ?rest32
          case hy32 =>
            intro w hSw
            go_simp
            try with_reducible rfl
          try simp only [Act.put, List.setIfInBounds_toArray, List.set_cons_zero, List.set_cons_succ, List.getElem_toArray, List.getElem_cons_succ, List.getElem_cons_zero]
          refine wpAnyH_take (i := 14) (v := ?v33) rfl (by kernel_rfl) (by kernel_rfl) (by kernel_rfl) (fun _ _ _ h => h) (Or.inl ⟨by rfl, ?hy33⟩) (by assumption) ?rest33
          case hy33 =>
            intro w hSw
            go_simp
            try with_reducible rfl
          try simp only [Act.put, List.setIfInBounds_toArray, List.set_cons_zero, List.set_cons_succ, List.getElem_toArray, List.getElem_cons_succ, List.getElem_cons_zero]
          refine wpAnyH_take (i := 15) (v := ?v34) rfl (by kernel_rfl) (by kernel_rfl) (by kernel_rfl) (fun _ _ _ h => h) (Or.inl ⟨by rfl, ?hy34⟩) (by assumption) ?rest34
          case hy34 =>
            intro w hSw
            go_simp
            try with_reducible rfl
          try simp only [Act.put, List.setIfInBounds_toArray, List.set_cons_zero, List.set_cons_succ, List.getElem_toArray, List.getElem_cons_succ, List.getElem_cons_zero]
          refine wpAnyH_take (i := 16) (v := ?v35) rfl (by kernel_rfl) (by kernel_rfl) (by kernel_rfl) (fun _ _ _ h => h) (Or.inl ⟨by rfl, ?hy35⟩) (by assumption) ?rest35
          case hy35 =>
            intro w hSw
            go_simp
            try with_reducible rfl
          try simp only [Act.put, List.setIfInBounds_toArray, List.set_cons_zero, List.set_cons_succ, List.getElem_toArray, List.getElem_cons_succ, List.getElem_cons_zero]
          refine wpAnyH_take (i := 17) (v := ?v36) rfl (by kernel_rfl) (by kernel_rfl) (by kernel_rfl) (fun _ _ _ h => h) (Or.inl ⟨by rfl, ?hy36⟩) (by assumption) ?rest36
          case hy36 =>
            intro w hSw
            go_simp
            try with_reducible rfl
          try simp only [Act.put, List.setIfInBounds_toArray, List.set_cons_zero, List.set_cons_succ, List.getElem_toArray, List.getElem_cons_succ, List.getElem_cons_zero]
          refine wpAnyH_take (i := 18) (v := ?v37) rfl (by kernel_rfl) (by kernel_rfl) (by kernel_rfl) (fun _ _ _ h => h) (Or.inl ⟨by rfl, ?hy37⟩) (by assumption) ?rest37
          case hy37 =>
            intro w hSw
            go_simp
            try with_reducible rfl
          try simp only [Act.put, List.setIfInBounds_toArray, List.set_cons_zero, List.set_cons_succ, List.getElem_toArray, List.getElem_cons_succ, List.getElem_cons_zero]
          refine wpAnyH_take (i := 19) (v := ?v38) rfl (by kernel_rfl) (by kernel_rfl) (by kernel_rfl) (fun _ _ _ h => h) (Or.inl ⟨by rfl, ?hy38⟩) (by assumption) ?rest38
          case hy38 =>
            intro w hSw
            go_simp
            try with_reducible rfl
          try simp only [Act.put, List.setIfInBounds_toArray, List.set_cons_zero, List.set_cons_succ, List.getElem_toArray, List.getElem_cons_succ, List.getElem_cons_zero]
          refine wpAnyH_take (i := 20) (v := ?v39) rfl (by kernel_rfl) (by kernel_rfl) (by kernel_rfl) (fun _ _ _ h => h) (Or.inl ⟨by rfl, ?hy39⟩) (by assumption) ?rest39
          case hy39 =>
            intro w hSw
            go_simp
            try with_reducible rfl
          try simp only [Act.put, List.setIfInBounds_toArray, List.set_cons_zero, List.set_cons_succ, List.getElem_toArray, List.getElem_cons_succ, List.getElem_cons_zero]
          refine wpAnyH_take (i := 21) (v := ?v40) rfl (by kernel_rfl) (by kernel_rfl) (by kernel_rfl) (fun _ _ _ h => h) (Or.inl ⟨by rfl, ?hy40⟩) (by assumption) ?rest40
          case hy40 =>
            intro w hSw
            (have q1 := hSw.cell (unhide A1) (fun e => e); have q2 := hSw.cell (unhide A2) (fun e => e); go_simp; try with_reducible rfl)
          try simp only [Act.put, List.setIfInBounds_toArray, List.set_cons_zero, List.set_cons_succ, List.getElem_toArray, List.getElem_cons_succ, List.getElem_cons_zero]
          refine wpAnyH_take (i := 22) (v := ?v41) rfl (by kernel_rfl) (by kernel_rfl) (by kernel_rfl) (fun _ _ _ h => h) (Or.inl ⟨by rfl, ?hy41⟩) (by assumption) ?rest41
          case hy41 =>
            intro w hSw
            go_simp
            try with_reducible rfl
          try simp only [Act.put, List.setIfInBounds_toArray, List.set_cons_zero, List.set_cons_succ, List.getElem_toArray, List.getElem_cons_succ, List.getElem_cons_zero]
          refine wpAnyH_ready (rs := [23]) (by kernel_rfl) (by simp) ?_
          refine AllReadyH.cons rfl (fun K hK => ?_) AllReadyH.nil
          go_simp
          go_wp2_with fail; refine (unhide HDT _).mono ?_; rintro e wG ⟨rfl, og⟩; have QG := hide ((unhide Q).trans og (fun _ _ e => e)); clear og
          refine hK.out _ _ ((unhide QG)) (fun hHeld => ?_)
          clear hK K
          try simp only [Act.put, List.setIfInBounds_toArray, List.set_cons_zero, List.set_cons_succ, List.getElem_toArray, List.getElem_cons_succ, List.getElem_cons_zero]
          refine wpAnyH_take (i := 24) (v := ?v42) rfl (by kernel_rfl) (by kernel_rfl) (by kernel_rfl) (fun _ _ _ h => h) (Or.inl ⟨by rfl, ?hy42⟩) (by assumption) ?rest42
          case hy42 =>
            intro w hSw
            (go_simp; try with_reducible rfl)
          try simp only [Act.put, List.setIfInBounds_toArray, List.set_cons_zero, List.set_cons_succ, List.getElem_toArray, List.getElem_cons_succ, List.getElem_cons_zero]
          refine wpAnyH_take (i := 25) (v := ?v43) rfl (by kernel_rfl) (by kernel_rfl) (by kernel_rfl) (fun _ _ _ h => h) (Or.inl ⟨by rfl, ?hy43⟩) (by assumption) ?rest43
          case hy43 =>
            intro w hSw
            go_simp
            try with_reducible rfl
          try simp only [Act.put, List.setIfInBounds_toArray, List.set_cons_zero, List.set_cons_succ, List.getElem_toArray, List.getElem_cons_succ, List.getElem_cons_zero]
          refine wpAnyH_take (i := 26) (v := ?v44) rfl (by kernel_rfl) (by kernel_rfl) (by kernel_rfl) (fun _ _ _ h => h) (Or.inl ⟨by rfl, ?hy44⟩) (by assumption) ?rest44
          case hy44 =>
            intro w hSw
            go_simp
            try with_reducible rfl
          try simp only [Act.put, List.setIfInBounds_toArray, List.set_cons_zero, List.set_cons_succ, List.getElem_toArray, List.getElem_cons_succ, List.getElem_cons_zero]
          refine wpAnyH_take (i := 27) (v := ?v45) rfl (by kernel_rfl) (by kernel_rfl) (by kernel_rfl) (fun _ _ _ h => h) (Or.inl ⟨by rfl, ?hy45⟩) (by assumption) ?rest45
          case hy45 =>
            intro w hSw
            go_simp
            try with_reducible rfl
          try simp only [Act.put, List.setIfInBounds_toArray, List.set_cons_zero, List.set_cons_succ, List.getElem_toArray, List.getElem_cons_succ, List.getElem_cons_zero]
          refine wpAnyH_take (i := 28) (v := ?v46) rfl (by kernel_rfl) (by kernel_rfl) (by kernel_rfl) (fun _ _ _ h => h) (Or.inl ⟨by rfl, ?hy46⟩) (by assumption) ?rest46
          case hy46 =>
            intro w hSw
            go_simp
            try with_reducible rfl
          try simp only [Act.put, List.setIfInBounds_toArray, List.set_cons_zero, List.set_cons_succ, List.getElem_toArray, List.getElem_cons_succ, List.getElem_cons_zero]
          refine wpAnyH_take (i := 29) (v := ?v47) rfl (by kernel_rfl) (by kernel_rfl) (by kernel_rfl) (fun _ _ _ h => h) (Or.inl ⟨by rfl, ?hy47⟩) (by assumption) ?rest47
          case hy47 =>
            intro w hSw
            (have q1 := hSw.cell (unhide B1) (fun e => e); have q2 := hSw.cell (unhide B2) (fun e => e); go_simp; try with_reducible rfl)
          try simp only [Act.put, List.setIfInBounds_toArray, List.set_cons_zero, List.set_cons_succ, List.getElem_toArray, List.getElem_cons_succ, List.getElem_cons_zero]
          refine wpAnyH_take (i := 30) (v := ?v48) rfl (by kernel_rfl) (by kernel_rfl) (by kernel_rfl) (fun _ _ _ h => h) (Or.inl ⟨by rfl, ?hy48⟩) (by assumption) ?rest48
          case hy48 =>
            intro w hSw
            go_simp
            try with_reducible rfl
          try simp only [Act.put, List.setIfInBounds_toArray, List.set_cons_zero, List.set_cons_succ, List.getElem_toArray, List.getElem_cons_succ, List.getElem_cons_zero]
          refine wpAnyH_ready (rs := [31]) (by kernel_rfl) (by simp) ?_
          refine AllReadyH.cons rfl (fun K hK => ?_) AllReadyH.nil
          go_simp
          go_wp2_with fail; refine (unhide HDT _).mono ?_; rintro e wH ⟨rfl, oh⟩; have QH := hide ((unhide QG).trans oh (fun _ _ e => e)); clear oh
          refine hK.out _ _ ((unhide QH)) (fun hHeld => ?_)
          clear hK K
          try simp only [Act.put, List.setIfInBounds_toArray, List.set_cons_zero, List.set_cons_succ, List.getElem_toArray, List.getElem_cons_succ, List.getElem_cons_zero]
          refine wpAnyH_take (i := 32) (v := ?v49) rfl (by kernel_rfl) (by kernel_rfl) (by kernel_rfl) (fun _ _ _ h => h) (Or.inl ⟨by rfl, ?hy49⟩) (by assumption) ?rest49
          case hy49 =>
            intro w hSw
            (go_simp; try with_reducible rfl)
          try simp only [Act.put, List.setIfInBounds_toArray, List.set_cons_zero, List.set_cons_succ, List.getElem_toArray, List.getElem_cons_succ, List.getElem_cons_zero]
          refine wpAnyH_take (i := 33) (v := ?v50) rfl (by kernel_rfl) (by kernel_rfl) (by kernel_rfl) (fun _ _ _ h => h) (Or.inl ⟨by rfl, ?hy50⟩) (by assumption) ?rest50
          case hy50 =>
            intro w hSw
            go_simp
            try with_reducible rfl
          try simp only [Act.put, List.setIfInBounds_toArray, List.set_cons_zero, List.set_cons_succ, List.getElem_toArray, List.getElem_cons_succ, List.getElem_cons_zero]
          refine wpAnyH_done (by kernel_rfl) ?_ _
          go_step
          go_step
          go_meet
          case rel => exact ⟨rfl, unhide QH⟩
      case rest =>
        as_aux_lemma =>
          rename World => wH
          obtain ⟨rfl, QH⟩ := hcut
          go_upto_region 14 with fail
          -- b.Dates = o.Dates
          clear A1 A2 B1 B2 HDT HDA HDB
          have hQ4 : Only (fun _ => False) w4 wH := ((unhide QA).trans (unhide QF) (fun _ _ e => e)).trans (unhide QH) (fun _ _ e => e)
          have hd' := (unhide HI4).ten
          have hbo := (unhide HB4).same hQ4
          rw [unhide HC4] at hbo
          have hbF := (unhide HBF).same (unhide QH)
          rw [unhide HBBF] at hbF
          have inF := (unhide INF).same (unhide QH)
          have in4 := (unhide HI4).same hQ4
          have hl20 : (o'.dates.flatMap dcells).length = 20 := by rw [dcells_len, hd']
          have hrD : wH.rangeAt ko 7 (o'.dates.flatMap dcells) := by
            have h := hbo.range 7 20
            rwa [show ((cells o' mv nv lv cv).drop 7).take 20 = o'.dates.flatMap dcells by
              show ((front o' mv ++ (o'.dates.flatMap dcells ++ back o' nv lv cv)).drop 7).take 20 = _
              rw [show (7 : Nat) = (front o' mv).length from rfl, List.drop_left, List.take_append_of_le_length (by omega), List.take_of_length_le (by omega)]] at h
          have hko : ko < wH.heap.size := hbo.lt
          have hkF : ko < kF := by have h1 := (unhide HB4).lt; have h2 := ((unhide QA).trans (unhide QE) (fun _ _ e => e)).size; have h3 := unhide HKF; omega
          have hset := setCells_blk (o'.dates.flatMap dcells) wH 7 _ hbF
          rw [set_dates b mF nF lF cF (unhide INF).ten _ hd'] at hset
          have qL : Only (fun j => j = kF) wH (wH.setCells kF 7 (o'.dates.flatMap dcells)) := Only.setCells (S := fun j => j = kF) (fun _ => rfl) _ _ _ (Only.refl _ _)
          have inFL : In (wH.setCells kF 7 (o'.dates.flatMap dcells)) b mF nF lF cF := inF.offA qL ⟨fun h0 => (unhide APF).mat h0, fun h0 => (unhide APF).names h0, fun h0 => (unhide APF).links h0, fun h0 => (unhide APF).custom h0⟩
          have in4L := in4.offA qL ((unhide HI4).apart (k := kF) (by have h2 := ((unhide QA).trans (unhide QE) (fun _ _ e => e)).size; have h3 := unhide HKF; omega))
          have hboL := hbo.only qL (by show ¬ ko = kF; omega)
          have hthD : wH.there kF 7 (o'.dates.flatMap dcells).toArray.size := by
            intro j hj
            rw [List.size_toArray, hl20] at hj
            refine ⟨?_, hbF.free _⟩
            rw [hbF.cell (7 + j) _ (List.getElem?_eq_getElem (by rw [cells_len b mF nF lF cF (unhide INF).ten]; omega))]
            rfl
          have HOND : Hid ((o'.dates.flatMap dcells).toArray.all (·.oneCell') = true) := all_oneCell_toArray (by
            intro u hu
            obtain ⟨dd, _, hu⟩ := List.mem_flatMap.1 hu
            simp only [dcells, List.mem_cons, List.not_mem_nil, or_false] at hu
            rcases hu with rfl | rfl <;> rfl)
          have HSD : Hid ((Tryd.prog.info? 25).map (·.size) = some (o'.dates.flatMap dcells).length) := by show _ = _; rw [hl20]; exact Tryd.sizeDates
          have HSDA : Hid ((Tryd.prog.info? 25).map (·.size) = some (o'.dates.flatMap dcells).toArray.size) := by show _ = _; rw [List.size_toArray, hl20]; exact Tryd.sizeDates
          have e1 : b.state = o'.state := by rw [hb, unhide HA]; rfl
          have e2 : b.arch = false := by rw [hb]; rfl
          have e3 : b.mat = o'.mat := by rw [hb, unhide HA]; rfl
          have e4 : b.mask = o'.mask := by rw [hb, unhide HA]; rfl
          have e5 : b.names = o'.names := by rw [hb, unhide HA]; rfl
          have cF6 := hset.cell 6 (.int .i64 o'.state) (by rw [← e1]; exact cell_state { b with dates := o'.dates } mF nF lF cF)
          have cF36 := hset.cell 36 (.bool false) (by rw [← e2]; exact cells_back { b with dates := o'.dates } mF nF lF cF hd' 9)
          have cF5 := hset.cell 5 mF (cells_front { b with dates := o'.dates } mF nF lF cF 5 (by decide))
          have cF4 := hset.cell 4 (.int .i64 o'.mask) (by rw [← e4]; exact cells_front { b with dates := o'.dates } mF nF lF cF 4 (by decide))
          have cF29 := hset.cell 29 nF (cells_back { b with dates := o'.dates } mF nF lF cF hd' 2)
          have co6 := hboL.cell 6 _ (cell_state o' mv nv lv cv)
          have co5 := hboL.cell 5 mv (cells_front o' mv nv lv cv 5 (by decide))
          have co4 := hboL.cell 4 (.int .i64 o'.mask) (cells_front o' mv nv lv cv 4 (by decide))
          have co29 := hboL.cell 29 nv (cells_back o' mv nv lv cv hd' 2)
          have cvF := str_conv inFL.mat
          rw [e3] at cvF
          have cvo := str_conv in4L.mat
          obtain ⟨na, nc, enF, -⟩ := inFL.names.shape
          rw [e5] at enF
          obtain ⟨oa, oc, eno, -⟩ := in4L.names.shape
          rw [enF] at cF29
          rw [eno] at co29
          have OFIN : Hid (Only (fun _ => False) w (wH.setCells kF 7 (o'.dates.flatMap dcells))) := (((unhide OW4).trans hQ4 (fun _ _ e => e))).trans qL (fun j hj e => by omega)
          have HTD := hide hthD
          obtain ⟨DD, hDD⟩ : ∃ DD, DD = o'.dates.flatMap dcells := ⟨_, rfl⟩
          rw [← hDD] at hrD HTD HOND HSD HSDA OFIN cF6 cF36 cF5 cF4 cF29 co6 co5 co4 co29 cvF cvo
          generalize str o'.mat = MS at *
          generalize o'.names.length = NL at *
          generalize o'.mask = MK at *
          generalize o'.state = ST at *
          clear hset qL inFL in4L hboL hbF hbo inF in4 hthD hDD enF eno e1 e2 e3 e4 e5 hQ4 hl20 hd'
          obtain ⟨dsD, huD, hrDD⟩ := row_desc Tryd.rowDatesA
          go_upto_region 15 with (first
            | (refine wpList_load_mid rfl 25 (.tmp 109) rfl ko 7 rfl DD dsD hrD huD hrDD (unhide HSD) ?_)
            | (refine wpList_store_mid rfl 25 (.tmp 111) (.tmp 110) rfl kF 7 DD.toArray rfl rfl (unhide HTD) (unhide HSDA) (unhide HOND) ?_))
          try simp only [List.toList_toArray]
          generalize (wH.setCells kF 7 DD) = wL at *
          clear hrD HTD HSD HSDA HOND
          go_wp2
          go_ret
          exact ⟨rfl, unhide OFIN⟩
end Ob
end Go.Proofs.YtadpmninoghcjaaDoor
