/-
  locksmithlaw11.LifeTime: moved at once, or in steps.
-/
import Derived.Test.YtnklnfbalnooaaaLfKnow
import Derived.Test.YtnklnfbalnooaaaLfVar
import Derived.Test.YtnklnfbalnooaaaLfRsame
import Derived.Test.YtnklnfbalnooaaaHoObj
import Derived.Test.YtnklnfbalnooaaaArgV
import Derived.Test.YtnklnfbalnooaaaHandPick
import Derived.Test.YtnklnfbalnooaaaLfSteps
namespace Go.Proofs.Ytnklnfbalnooaaa
open Go.RowKit
set_option linter.unusedSimpArgs false
set_option linter.unusedVariables false
namespace Ob
theorem fs_add (t r : Int) (h0 : 0 ≤ t) (h1 : t ≤ 1000) (h2 : 0 ≤ r) (h3 : r < 9) : IntKind.i64.wrap (t + r) = t + r := by rw [IntKind.wrap_i64]; omega

set_option maxRecDepth 100000 in
set_option maxHeartbeats 8000000 in
theorem time_any (x : RawH) (hx : x.Ok) (rv : Value) (m : Nat) (X : Nat → RawH) (sv : Value) (fs : List Int) (w : World) (hR : RawsH w rv m X) (hS : HasV w sv (fs.map (.int .i64))) :
    Calls Try.prog 5 #[.agg x.cells.toArray, rv, sv] w fun e w' => e = .returned (.bool true) ∧ Only (fun _ => False) w w' := by
  obtain ⟨w1, k1, e1, ek1, hb1, o1, hs1⟩ := boxed w x.cells.toArray 27
  rw [List.toList_toArray] at hb1
  have HOB := hide (hObj_any x hx rv m X w1 (hR.same o1))
  have HB1 := hide hb1
  have O1 := hide o1
  have HE1 := hide e1
  have HEK1 := hide ek1
  have HSV := hide hS
  obtain ⟨o, ho⟩ : ∃ o, o = hO x m X := ⟨_, rfl⟩
  have HSM : Hid (Small o) := by rw [ho]; exact hO_small x m X
  rw [← ho] at HOB
  have hr1 := hb1.range 0 4
  rw [List.drop_zero, List.take_of_length_le (by show 4 ≤ 4; omega)] at hr1
  obtain ⟨dsr, hru, hrd⟩ := row_desc Try.rowRawH
  have hrs : (Try.prog.info? 27).map (·.size) = some x.cells.length := Try.sizeRawH
  obtain ⟨R, hRc⟩ : ∃ R, R = x.cells := ⟨_, rfl⟩
  rw [← hRc] at HE1 HOB hr1 hrs ⊢
  obtain ⟨ra, rc, erv, -⟩ := hR.shape
  clear hb1 o1 hs1 hR hS e1 ek1 ho hRc hx
  subst erv
  go_enter Try.func5, Try.ntmps5
  go_upto_region 1 with fail
  rw [← unhide HEK1, ← unhide HE1]
  clear HEK1 HE1
  go_wp2_with (refine wpList_load_mid rfl 27 (.tmp 3) rfl k1 0 rfl R dsr hr1 hru hrd hrs ?_)
  refine (unhide HOB).mono ?_
  rintro e w2 ⟨mv, nv, lv, cv, rfl, hin, hfr, o2⟩
  have hd := hin.ten
  have hone := hin.one
  unfold val
  obtain ⟨w3, ko, e3, eko, hb3, o3, ht3⟩ := made37 w2 (cells o mv nv lv cv) (cells_len _ _ _ _ _ hd)
  obtain ⟨w4, kp, e4, ekp, hb4, o4, ht4⟩ := made37 w3 (cells o mv nv lv cv) (cells_len _ _ _ _ _ hd)
  have hkop : ko < kp := by have := hb3.lt; omega
  have hr3 := Bx.whole hb3 hd
  obtain ⟨dsc, hdu, hdr⟩ := row_desc Try.rowObj
  have HSZ := hide (size_cells o mv nv lv cv hd)
  have HSZA := hide (size_cellsA o mv nv lv cv hd)
  have HONE := hide hone
  have VO : Hid (Var w4 ko o mv nv lv cv) := ⟨hb3.same o4, (hin.same o3).same o4⟩
  have VP : Hid (Var w4 kp o mv nv lv cv) := ⟨hb4, (hin.same o3).same o4⟩
  have HAP : Hid (Apart o mv nv lv cv kp) := hin.apart (by have := o3.size; omega)
  have HKP : Hid (w.heap.size ≤ kp) := by have h1 := ((unhide O1).trans o2 (fun _ _ e => e)).size; have h2 := o3.size; show _ ≤ _; omega
  have OW : Hid (Only (fun _ => False) w w4) := (((unhide O1).trans o2 (fun _ _ e => e)).trans o3 (fun _ _ e => e)).trans o4 (fun _ _ e => e)
  have HW2 : Hid (w.heap.size ≤ w2.heap.size) := ((unhide O1).trans o2 (fun _ _ e => e)).size
  have HKO : Hid (w.heap.size ≤ ko ∧ ∀ j, (blk mv = some j ∨ blk nv = some j ∨ blk lv = some j ∨ blk cv = some j) → w.heap.size ≤ j) := ⟨by have := unhide HW2; omega, fun j hj => by have h1 := hfr j hj; have h2 := (unhide O1).size; omega⟩
  have HT3 := hide ht3
  have HT4 := hide ht4
  have HE3 := hide e3
  have HEKO := hide eko
  have HE4 := hide e4
  have HEKP := hide ekp
  have HD := hide hd
  obtain ⟨C, hC⟩ : ∃ C, C = cells o mv nv lv cv := ⟨_, rfl⟩
  rw [← hC] at HSZ HSZA HONE HT3 HT4 HE3 HE4 hr3 ⊢
  have HC := hide hC
  clear hin hfr o2 hd hone hb3 hb4 o3 o4 ht3 ht4 e3 eko e4 ekp hC O1 HOB hr1 HB1
  go_upto_region 2 with (refine wpList_store_mid rfl 39 (.tmp 7) (.tmp 16) rfl w2.heap.size 0 C.toArray rfl rfl (unhide HT3) (unhide HSZA) (unhide HONE) ?_)
  rw [zo_eq, ← unhide HE3, ← unhide HEKO]
  go_upto_region 3 with (first
    | (refine wpList_load_mid rfl 39 (.tmp 7) rfl ko 0 rfl C dsc hr3 hdu hdr (unhide HSZ) ?_)
    | (refine wpList_store_mid rfl 39 (.tmp 8) (.tmp 17) rfl w3.heap.size 0 C.toArray rfl rfl (unhide HT4) (unhide HSZA) (unhide HONE) ?_))
  rw [zo_eq, ← unhide HE4, ← unhide HEKP]
  clear HE3 HEKO HE4 HEKP HT3 HT4 HONE hr3 HSZ HSZA
  obtain ⟨so, sc, esv, hsl, hsm⟩ := (unhide HSV).shape
  rw [List.length_map] at esv hsl
  subst esv
  obtain ⟨n, hn⟩ : ∃ n, n = fs.length := ⟨_, rfl⟩
  rw [← hn] at hsl HSV ⊢
  have HN := hide hn
  have hnz : (n : Int) < 9223372036854775808 := by unfold maxLen at hsm; omega
  clear hn hsl hsm
  go_wp2
  go_loopw [9, 10, 11, 12] (fun t i a b wr => ∃ k : Nat, k ≤ n ∧ k ≤ 20 ∧ i = .int .i64 k ∧ t = .int .i64 (tmK fs k) ∧ Hid (∃ mv nv lv cv, Bx wr kp 39 (cells (mvT o fs k) mv nv lv cv) ∧ In wr (mvT o fs k) mv nv lv cv ∧ Apart (mvT o fs k) mv nv lv cv kp) ∧ Hid (Only (fun j => j = kp) w4 wr)) (fun _ i _ _ _ => 20 - (intOf i).toNat)
  case atStart => exact ⟨0, Nat.zero_le _, Nat.zero_le _, rfl, rfl, ⟨mv, nv, lv, cv, (unhide VP).box, (unhide VP).val, unhide HAP⟩, Only.refl _ _⟩
  case round =>
    rename World => wr
    obtain ⟨k, hkn, hk20, rfl, rfl, HP, OR⟩ := hrel
    obtain ⟨pm, pn, pl, pc, HP1, HP2, HP3⟩ := unhide HP
    have B1 := hide HP1
    have B2 := hide HP2
    have B3 := hide HP3
    clear HP HP1 HP2 HP3
    have HTK := hide (tmK_le fs k)
    obtain ⟨t, ht⟩ : ∃ t, t = tmK fs k := ⟨_, rfl⟩
    have ht0 : 0 ≤ t ∧ t ≤ 200 := by have := unhide HTK; rw [ht]; omega
    rw [← ht]
    by_cases hlt : k < n ∧ k < 20
    case neg =>
      have HLAST : Hid (n = 0 ∨ 0 < k) := by show n = 0 ∨ 0 < k; omega
      obtain ⟨p, hp⟩ : ∃ p, p = mvT o fs k := ⟨_, rfl⟩
      rw [← hp] at B1 B2 B3
      have HPT : Hid (0 < k → p.state = st2 o t) := fun h => by rw [hp, ht]; exact mvT_state o fs k h
      have HVO : Hid (Var wr ko o mv nv lv cv) := ⟨(unhide VO).box.only (unhide OR) (by show ¬ ko = kp; omega), (unhide VO).val.offA (unhide OR) (unhide HAP)⟩
      have HOR := hide ((unhide OW).trans (unhide OR) (fun j hj e => by have := unhide HKP; omega))
      have hkb : (k : Int) < (n : Int) ∨ ¬ (k : Int) < (n : Int) := by omega
      have W6t : Hid (W64 t) := by have := unhide HTK; show W64 t; unfold W64; omega
      have HMO := hide (move_any o mv nv lv cv t wr (unhide HVO).val (unhide HSM) (unhide W6t))
      have hro := Bx.whole (unhide HVO).box (unhide HD)
      have HSZ0 := hide (size_cells o mv nv lv cv (unhide HD))
      have BP6 := hide ((unhide B1).cell 6 (.int .i64 p.state) (cell_state p pm pn pl pc))
      unfold val at HMO
      rw [← unhide HC] at HMO hro HSZ0
      clear hp ht HTK B2 B3
      rcases hkb with hk1z | hk1z
      · have hk2z : ¬ (k : Int) < 20 := by omega
        as_aux_lemma =>
          go_wp2_with (refine wpList_load_mid rfl 39 (.tmp 7) rfl ko 0 rfl C dsc hro hdu hdr (unhide HSZ0) ?_)
          refine (unhide HMO).mono ?_
          rintro e w6 ⟨qm, qn, ql, qc, rfl, hin, hfr, o6⟩
          have hdm := hin.ten
          obtain ⟨w7, kq, e7, ekq, hb7, o7, ht7⟩ := made37 w6 (cells (move o t) qm qn ql qc) (cells_len _ _ _ _ _ hdm)
          have HONE := hide hin.one
          have HSZA := hide (size_cellsA (move o t) qm qn ql qc hdm)
          have HSZQ := hide (size_cells (move o t) qm qn ql qc hdm)
          have IQ := hide (hin.same o7)
          have R7 := hide (Bx.whole hb7 hdm)
          obtain ⟨S, hSt⟩ : ∃ S, S = (move o t).state := ⟨_, rfl⟩
          have CQ : Hid (w7.cell? ⟨kq, 6, none⟩ = some (.int .i64 S)) := by rw [hSt]; exact hb7.cell 6 _ (cell_state (move o t) qm qn ql qc)
          have CP : Hid (w7.cell? ⟨kp, 6, none⟩ = some (.int .i64 p.state)) := (o6.trans o7 (fun _ _ e => e)).cell (unhide BP6) (fun e => e)
          have HSS : Hid (0 < k → p.state = S) := fun h => by rw [hSt, move_state]; exact unhide HPT h
          have O7 := hide (((unhide HOR).trans o6 (fun _ _ e => e)).trans o7 (fun _ _ e => e))
          have HE7 := hide e7
          have HEKQ := hide ekq
          have HT7 := hide ht7
          have HM2 : Hid (∀ w', Only (fun _ => False) w7 w' → Calls Try.prog 16 #[val (move o t) qm qn ql qc, .int .i64 t] w' fun e w'' => ∃ mv' nv' lv' cv', e = .returned (val (move o t) mv' nv' lv' cv') ∧ In w'' (move o t) mv' nv' lv' cv' ∧ Only (fun _ => False) w' w'') := fun w' q => by
            have h := move_any (move o t) qm qn ql qc t w' ((unhide IQ).same q) (move_small (unhide HSM) t) (unhide W6t)
            rw [move_again] at h
            refine h.mono ?_
            rintro e w'' ⟨a1, a2, a3, a4, h1, h2, h3, h4⟩
            exact ⟨a1, a2, a3, a4, h1, h2, h4⟩
          have HRS : Hid (∀ w' a1 a2 a3 a4, Only (fun _ => False) w7 w' → In w' (move o t) a1 a2 a3 a4 → Calls Try.prog 15 #[val (move o t) a1 a2 a3 a4, val (move o t) qm qn ql qc] w' fun e w'' => e = .returned (.bool true) ∧ Only (fun _ => False) w' w'') := fun w' a1 a2 a3 a4 q h => rsame_eq (move o t) a1 a2 a3 a4 qm qn ql qc w' h ((unhide IQ).same q)
          unfold val at HM2 HRS
          obtain ⟨D, hD⟩ : ∃ D, D = cells (move o t) qm qn ql qc := ⟨_, rfl⟩
          rw [← hD] at HONE HSZA HSZQ R7 HE7 HT7 HM2 HRS ⊢
          clear hin hfr o6 hdm e7 ekq hb7 o7 ht7 hSt hD HMO hro HSZ0 HPT BP6 B1 HVO HOR
          go_upto_region 13 with (refine wpList_store_mid rfl 39 (.tmp 13) (.tmp 60) rfl w6.heap.size 0 D.toArray rfl rfl (unhide HT7) (unhide HSZA) (unhide HONE) ?_)
          rw [zo_eq, ← unhide HE7, ← unhide HEKQ]
          clear HE7 HEKQ HT7 HONE HSZA
          have HKN := hide (known_any w7.drew)
          have Q := hide ((Only.refl (fun _ => False) w7).drew)
          by_cases hn0 : n = 0
          case pos =>
            have hnb : ((n : Int) == 0) = true := by rw [hn0]; rfl
            clear hn0
            refine wp_region_held_drew (S := (fun w' => Only (fun _ => False) w7 w')) (by kernel_rfl) ((Only.refl _ _).drew) (fun hHeld => ?_)
            refine wpAnyH_ready (rs := [0]) (by kernel_rfl) (by simp) ?_
            refine AllReadyH.cons rfl (fun K hK => ?_) AllReadyH.nil
            go_simp
            go_wp2_with fail; refine (unhide HKN).mono ?_; rintro e w8 ⟨rfl, o8⟩; have O8 := hide o8; clear o8
            refine hK.out _ _ (((unhide Q).trans (unhide O8) (fun _ _ e => e))) (fun hHeld => ?_)
            clear hK K
            try simp only [Act.put, List.setIfInBounds_toArray, List.set_cons_zero, List.set_cons_succ, List.getElem_toArray, List.getElem_cons_succ, List.getElem_cons_zero]
            refine wpAnyH_take (i := 1) (v := ?v1) rfl (by kernel_rfl) (by kernel_rfl) (by kernel_rfl) (fun _ _ _ h => h) (Or.inl ⟨by rfl, ?hy1⟩) (by assumption) ?rest1
            case hy1 =>
              intro w hSw
              go_simp
              try with_reducible rfl
            try simp only [Act.put, List.setIfInBounds_toArray, List.set_cons_zero, List.set_cons_succ, List.getElem_toArray, List.getElem_cons_succ, List.getElem_cons_zero]
            refine wpAnyH_take (i := 2) (v := ?v2) rfl (by kernel_rfl) (by kernel_rfl) (by kernel_rfl) (fun _ _ _ h => h) (Or.inl ⟨by rfl, ?hy2⟩) (by assumption) ?rest2
            case hy2 =>
              intro w hSw
              go_simp
              try with_reducible rfl
            try simp only [Act.put, List.setIfInBounds_toArray, List.set_cons_zero, List.set_cons_succ, List.getElem_toArray, List.getElem_cons_succ, List.getElem_cons_zero]
            refine wpAnyH_take (i := 3) (v := ?v3) rfl (by kernel_rfl) (by kernel_rfl) (by kernel_rfl) (fun _ _ _ h => h) (Or.inl ⟨by rfl, ?hy3⟩) (by assumption) ?rest3
            case hy3 =>
              intro w hSw
              go_simp
              try with_reducible rfl
            try simp only [Act.put, List.setIfInBounds_toArray, List.set_cons_zero, List.set_cons_succ, List.getElem_toArray, List.getElem_cons_succ, List.getElem_cons_zero]
            refine wpAnyH_take (i := 4) (v := ?v4) rfl (by kernel_rfl) (by kernel_rfl) (by kernel_rfl) (fun _ _ _ h => h) (Or.inl ⟨by rfl, ?hy4⟩) (by assumption) ?rest4
            case hy4 =>
              intro w hSw
              (go_simp; try with_reducible rfl)
            try simp only [Act.put, List.setIfInBounds_toArray, List.set_cons_zero, List.set_cons_succ, List.getElem_toArray, List.getElem_cons_succ, List.getElem_cons_zero]
            refine wpAnyH_take (i := 5) (v := ?v5) rfl (by kernel_rfl) (by kernel_rfl) (by kernel_rfl) (fun _ _ _ h => h) (Or.inl ⟨by rfl, ?hy5⟩) (by assumption) ?rest5
            case hy5 =>
              intro w hSw
              go_simp
              try with_reducible rfl
            try simp only [Act.put, List.setIfInBounds_toArray, List.set_cons_zero, List.set_cons_succ, List.getElem_toArray, List.getElem_cons_succ, List.getElem_cons_zero]
            refine wpAnyH_take (i := 6) (v := undef) rfl (by kernel_rfl) (by kernel_rfl) (by kernel_rfl) (fun _ _ _ h => h) (Or.inr ⟨by rfl, rfl⟩) (by assumption) ?_
            try simp only [Act.put, List.setIfInBounds_toArray, List.set_cons_zero, List.set_cons_succ, List.getElem_toArray, List.getElem_cons_succ, List.getElem_cons_zero]
            refine wpAnyH_take (i := 7) (v := undef) rfl (by kernel_rfl) (by kernel_rfl) (by kernel_rfl) (fun _ _ _ h => h) (Or.inr ⟨by rfl, rfl⟩) (by assumption) ?_
            try simp only [Act.put, List.setIfInBounds_toArray, List.set_cons_zero, List.set_cons_succ, List.getElem_toArray, List.getElem_cons_succ, List.getElem_cons_zero]
            refine wpAnyH_take (i := 8) (v := undef) rfl (by kernel_rfl) (by kernel_rfl) (by kernel_rfl) (fun _ _ _ h => h) (Or.inr ⟨by rfl, rfl⟩) (by assumption) ?_
            try simp only [Act.put, List.setIfInBounds_toArray, List.set_cons_zero, List.set_cons_succ, List.getElem_toArray, List.getElem_cons_succ, List.getElem_cons_zero]
            refine wpAnyH_take (i := 9) (v := undef) rfl (by kernel_rfl) (by kernel_rfl) (by kernel_rfl) (fun _ _ _ h => h) (Or.inr ⟨by rfl, rfl⟩) (by assumption) ?_
            try simp only [Act.put, List.setIfInBounds_toArray, List.set_cons_zero, List.set_cons_succ, List.getElem_toArray, List.getElem_cons_succ, List.getElem_cons_zero]
            refine wpAnyH_take (i := 10) (v := undef) rfl (by kernel_rfl) (by kernel_rfl) (by kernel_rfl) (fun _ _ _ h => h) (Or.inr ⟨by rfl, rfl⟩) (by assumption) ?_
            try simp only [Act.put, List.setIfInBounds_toArray, List.set_cons_zero, List.set_cons_succ, List.getElem_toArray, List.getElem_cons_succ, List.getElem_cons_zero]
            refine wpAnyH_take (i := 11) (v := ?v6) rfl (by kernel_rfl) (by kernel_rfl) (by kernel_rfl) (fun _ _ _ h => h) (Or.inl ⟨by rfl, ?hy6⟩) (by assumption) ?rest6
            case hy6 =>
              intro w hSw
              (go_simp; try with_reducible rfl)
            try simp only [Act.put, List.setIfInBounds_toArray, List.set_cons_zero, List.set_cons_succ, List.getElem_toArray, List.getElem_cons_succ, List.getElem_cons_zero]
            refine wpAnyH_take (i := 12) (v := ?v7) rfl (by kernel_rfl) (by kernel_rfl) (by kernel_rfl) (fun _ _ _ h => h) (Or.inl ⟨by rfl, ?hy7⟩) (by assumption) ?rest7
            case hy7 =>
              intro w hSw
              (go_simp; try with_reducible rfl)
            try simp only [Act.put, List.setIfInBounds_toArray, List.set_cons_zero, List.set_cons_succ, List.getElem_toArray, List.getElem_cons_succ, List.getElem_cons_zero]
            refine wpAnyH_take (i := 13) (v := ?v8) rfl (by kernel_rfl) (by kernel_rfl) (by kernel_rfl) (fun _ _ _ h => h) (Or.inl ⟨by rfl, ?hy8⟩) (by assumption) ?rest8
            case hy8 =>
              intro w hSw
              go_simp
              try with_reducible rfl
            try simp only [Act.put, List.setIfInBounds_toArray, List.set_cons_zero, List.set_cons_succ, List.getElem_toArray, List.getElem_cons_succ, List.getElem_cons_zero]
            refine wpAnyH_take (i := 14) (v := ?v9) rfl (by kernel_rfl) (by kernel_rfl) (by kernel_rfl) (fun _ _ _ h => h) (Or.inl ⟨by rfl, ?hy9⟩) (by assumption) ?rest9
            case hy9 =>
              intro w hSw
              (refine exec_load_mid 39 (.tmp 13) ?_ kq 0 ?_ D dsc (rangeAt_only (unhide R7) hSw (fun e => e)) hdu hdr (unhide HSZQ) <;> rfl)
            try simp only [Act.put, List.setIfInBounds_toArray, List.set_cons_zero, List.set_cons_succ, List.getElem_toArray, List.getElem_cons_succ, List.getElem_cons_zero]
            refine wpAnyH_take (i := 15) (v := ?v10) rfl (by kernel_rfl) (by kernel_rfl) (by kernel_rfl) (fun _ _ _ h => h) (Or.inl ⟨by rfl, ?hy10⟩) (by assumption) ?rest10
            case hy10 =>
              intro w hSw
              go_simp
              try with_reducible rfl
            try simp only [Act.put, List.setIfInBounds_toArray, List.set_cons_zero, List.set_cons_succ, List.getElem_toArray, List.getElem_cons_succ, List.getElem_cons_zero]
            refine wpAnyH_take (i := 17) (v := ?v11) rfl (by kernel_rfl) (by kernel_rfl) (by kernel_rfl) (fun _ _ _ h => h) (Or.inl ⟨by rfl, ?hy11⟩) (by assumption) ?rest11
            case hy11 =>
              intro w hSw
              (refine exec_load_mid 39 (.tmp 13) ?_ kq 0 ?_ D dsc (rangeAt_only (unhide R7) hSw (fun e => e)) hdu hdr (unhide HSZQ) <;> rfl)
            try simp only [Act.put, List.setIfInBounds_toArray, List.set_cons_zero, List.set_cons_succ, List.getElem_toArray, List.getElem_cons_succ, List.getElem_cons_zero]
            have Q8 := hide ((unhide Q).trans (unhide O8) (fun _ _ e => e))
            have HM8 := hide (unhide HM2 w8 (unhide Q8))
            refine wpAnyH_ready (rs := [16]) (by kernel_rfl) (by simp) ?_
            refine AllReadyH.cons rfl (fun K hK => ?_) AllReadyH.nil
            go_simp
            go_wp2_with fail; refine (unhide HM8).mono ?_; rintro e w9 ⟨a1, a2, a3, a4, rfl, hin9, o9⟩; have Q9 := hide ((unhide Q8).trans o9 (fun _ _ e => e)); have HR9 := hide (unhide HRS w9 a1 a2 a3 a4 (unhide Q9) hin9); clear hin9 o9
            refine hK.out _ _ ((unhide Q9)) (fun hHeld => ?_)
            clear hK K
            try simp only [Act.put, List.setIfInBounds_toArray, List.set_cons_zero, List.set_cons_succ, List.getElem_toArray, List.getElem_cons_succ, List.getElem_cons_zero]
            refine wpAnyH_ready (rs := [18]) (by kernel_rfl) (by simp) ?_
            refine AllReadyH.cons rfl (fun K hK => ?_) AllReadyH.nil
            go_simp
            go_wp2_with fail; refine (unhide HR9).mono ?_; rintro e wa ⟨rfl, oa⟩; have QA := hide ((unhide Q9).trans oa (fun _ _ e => e)); clear oa
            refine hK.out _ _ ((unhide QA)) (fun hHeld => ?_)
            clear hK K
            try simp only [Act.put, List.setIfInBounds_toArray, List.set_cons_zero, List.set_cons_succ, List.getElem_toArray, List.getElem_cons_succ, List.getElem_cons_zero]
            refine wpAnyH_take (i := 19) (v := ?v12) rfl (by kernel_rfl) (by kernel_rfl) (by kernel_rfl) (fun _ _ _ h => h) (Or.inl ⟨by rfl, ?hy12⟩) (by assumption) ?rest12
            case hy12 =>
              intro w hSw
              (go_simp; try with_reducible rfl)
            try simp only [Act.put, List.setIfInBounds_toArray, List.set_cons_zero, List.set_cons_succ, List.getElem_toArray, List.getElem_cons_succ, List.getElem_cons_zero]
            refine wpAnyH_take (i := 20) (v := ?v13) rfl (by kernel_rfl) (by kernel_rfl) (by kernel_rfl) (fun _ _ _ h => h) (Or.inl ⟨by rfl, ?hy13⟩) (by assumption) ?rest13
            case hy13 =>
              intro w hSw
              go_simp
              try with_reducible rfl
            try simp only [Act.put, List.setIfInBounds_toArray, List.set_cons_zero, List.set_cons_succ, List.getElem_toArray, List.getElem_cons_succ, List.getElem_cons_zero]
            refine wpAnyH_done (by kernel_rfl) ?_ _
            go_wp2
            go_ret
            exact ⟨rfl, (unhide O7).trans (unhide QA) (fun _ _ e => e)⟩
          case neg =>
            have hnb : ((n : Int) == 0) = false := by rw [beq_eq_false_iff_ne]; omega
            have hps : Hid (p.state = S) := unhide HSS (by have := unhide HLAST; omega)
            rw [unhide hps] at CP
            clear hn0 hps
            refine wp_region_held_drew (S := (fun w' => Only (fun _ => False) w7 w')) (by kernel_rfl) ((Only.refl _ _).drew) (fun hHeld => ?_)
            refine wpAnyH_ready (rs := [0]) (by kernel_rfl) (by simp) ?_
            refine AllReadyH.cons rfl (fun K hK => ?_) AllReadyH.nil
            go_simp
            go_wp2_with fail; refine (unhide HKN).mono ?_; rintro e w8 ⟨rfl, o8⟩; have O8 := hide o8; clear o8
            refine hK.out _ _ (((unhide Q).trans (unhide O8) (fun _ _ e => e))) (fun hHeld => ?_)
            clear hK K
            try simp only [Act.put, List.setIfInBounds_toArray, List.set_cons_zero, List.set_cons_succ, List.getElem_toArray, List.getElem_cons_succ, List.getElem_cons_zero]
            refine wpAnyH_take (i := 1) (v := ?v14) rfl (by kernel_rfl) (by kernel_rfl) (by kernel_rfl) (fun _ _ _ h => h) (Or.inl ⟨by rfl, ?hy14⟩) (by assumption) ?rest14
            case hy14 =>
              intro w hSw
              go_simp
              try with_reducible rfl
            try simp only [Act.put, List.setIfInBounds_toArray, List.set_cons_zero, List.set_cons_succ, List.getElem_toArray, List.getElem_cons_succ, List.getElem_cons_zero]
            refine wpAnyH_take (i := 2) (v := ?v15) rfl (by kernel_rfl) (by kernel_rfl) (by kernel_rfl) (fun _ _ _ h => h) (Or.inl ⟨by rfl, ?hy15⟩) (by assumption) ?rest15
            case hy15 =>
              intro w hSw
              go_simp
              try with_reducible rfl
            try simp only [Act.put, List.setIfInBounds_toArray, List.set_cons_zero, List.set_cons_succ, List.getElem_toArray, List.getElem_cons_succ, List.getElem_cons_zero]
            refine wpAnyH_take (i := 3) (v := ?v16) rfl (by kernel_rfl) (by kernel_rfl) (by kernel_rfl) (fun _ _ _ h => h) (Or.inl ⟨by rfl, ?hy16⟩) (by assumption) ?rest16
            case hy16 =>
              intro w hSw
              go_simp
              try with_reducible rfl
            try simp only [Act.put, List.setIfInBounds_toArray, List.set_cons_zero, List.set_cons_succ, List.getElem_toArray, List.getElem_cons_succ, List.getElem_cons_zero]
            refine wpAnyH_take (i := 4) (v := ?v17) rfl (by kernel_rfl) (by kernel_rfl) (by kernel_rfl) (fun _ _ _ h => h) (Or.inl ⟨by rfl, ?hy17⟩) (by assumption) ?rest17
            case hy17 =>
              intro w hSw
              (go_simp; try with_reducible rfl)
            try simp only [Act.put, List.setIfInBounds_toArray, List.set_cons_zero, List.set_cons_succ, List.getElem_toArray, List.getElem_cons_succ, List.getElem_cons_zero]
            refine wpAnyH_take (i := 5) (v := ?v18) rfl (by kernel_rfl) (by kernel_rfl) (by kernel_rfl) (fun _ _ _ h => h) (Or.inl ⟨by rfl, ?hy18⟩) (by assumption) ?rest18
            case hy18 =>
              intro w hSw
              go_simp
              try with_reducible rfl
            try simp only [Act.put, List.setIfInBounds_toArray, List.set_cons_zero, List.set_cons_succ, List.getElem_toArray, List.getElem_cons_succ, List.getElem_cons_zero]
            refine wpAnyH_take (i := 6) (v := ?v19) rfl (by kernel_rfl) (by kernel_rfl) (by kernel_rfl) (fun _ _ _ h => h) (Or.inl ⟨by rfl, ?hy19⟩) (by assumption) ?rest19
            case hy19 =>
              intro w hSw
              go_simp
              try with_reducible rfl
            try simp only [Act.put, List.setIfInBounds_toArray, List.set_cons_zero, List.set_cons_succ, List.getElem_toArray, List.getElem_cons_succ, List.getElem_cons_zero]
            refine wpAnyH_take (i := 7) (v := ?v20) rfl (by kernel_rfl) (by kernel_rfl) (by kernel_rfl) (fun _ _ _ h => h) (Or.inl ⟨by rfl, ?hy20⟩) (by assumption) ?rest20
            case hy20 =>
              intro w hSw
              (have q := hSw.cell (unhide CQ) (fun e => e); go_simp; try with_reducible rfl)
            try simp only [Act.put, List.setIfInBounds_toArray, List.set_cons_zero, List.set_cons_succ, List.getElem_toArray, List.getElem_cons_succ, List.getElem_cons_zero]
            refine wpAnyH_take (i := 8) (v := ?v21) rfl (by kernel_rfl) (by kernel_rfl) (by kernel_rfl) (fun _ _ _ h => h) (Or.inl ⟨by rfl, ?hy21⟩) (by assumption) ?rest21
            case hy21 =>
              intro w hSw
              go_simp
              try with_reducible rfl
            try simp only [Act.put, List.setIfInBounds_toArray, List.set_cons_zero, List.set_cons_succ, List.getElem_toArray, List.getElem_cons_succ, List.getElem_cons_zero]
            refine wpAnyH_take (i := 9) (v := ?v22) rfl (by kernel_rfl) (by kernel_rfl) (by kernel_rfl) (fun _ _ _ h => h) (Or.inl ⟨by rfl, ?hy22⟩) (by assumption) ?rest22
            case hy22 =>
              intro w hSw
              (have q := hSw.cell (unhide CP) (fun e => e); go_simp; try with_reducible rfl)
            try simp only [Act.put, List.setIfInBounds_toArray, List.set_cons_zero, List.set_cons_succ, List.getElem_toArray, List.getElem_cons_succ, List.getElem_cons_zero]
            refine wpAnyH_take (i := 10) (v := ?v23) rfl (by kernel_rfl) (by kernel_rfl) (by kernel_rfl) (fun _ _ _ h => h) (Or.inl ⟨by rfl, ?hy23⟩) (by assumption) ?rest23
            case hy23 =>
              intro w hSw
              (go_simp; try with_reducible rfl)
            try simp only [Act.put, List.setIfInBounds_toArray, List.set_cons_zero, List.set_cons_succ, List.getElem_toArray, List.getElem_cons_succ, List.getElem_cons_zero]
            refine wpAnyH_take (i := 11) (v := ?v24) rfl (by kernel_rfl) (by kernel_rfl) (by kernel_rfl) (fun _ _ _ h => h) (Or.inl ⟨by rfl, ?hy24⟩) (by assumption) ?rest24
            case hy24 =>
              intro w hSw
              (go_simp; try with_reducible rfl)
            try simp only [Act.put, List.setIfInBounds_toArray, List.set_cons_zero, List.set_cons_succ, List.getElem_toArray, List.getElem_cons_succ, List.getElem_cons_zero]
            refine wpAnyH_take (i := 12) (v := ?v25) rfl (by kernel_rfl) (by kernel_rfl) (by kernel_rfl) (fun _ _ _ h => h) (Or.inl ⟨by rfl, ?hy25⟩) (by assumption) ?rest25
            case hy25 =>
              intro w hSw
              (go_simp; try with_reducible rfl)
            try simp only [Act.put, List.setIfInBounds_toArray, List.set_cons_zero, List.set_cons_succ, List.getElem_toArray, List.getElem_cons_succ, List.getElem_cons_zero]
            refine wpAnyH_take (i := 13) (v := ?v26) rfl (by kernel_rfl) (by kernel_rfl) (by kernel_rfl) (fun _ _ _ h => h) (Or.inl ⟨by rfl, ?hy26⟩) (by assumption) ?rest26
            case hy26 =>
              intro w hSw
              go_simp
              try with_reducible rfl
            try simp only [Act.put, List.setIfInBounds_toArray, List.set_cons_zero, List.set_cons_succ, List.getElem_toArray, List.getElem_cons_succ, List.getElem_cons_zero]
            refine wpAnyH_take (i := 14) (v := ?v27) rfl (by kernel_rfl) (by kernel_rfl) (by kernel_rfl) (fun _ _ _ h => h) (Or.inl ⟨by rfl, ?hy27⟩) (by assumption) ?rest27
            case hy27 =>
              intro w hSw
              (refine exec_load_mid 39 (.tmp 13) ?_ kq 0 ?_ D dsc (rangeAt_only (unhide R7) hSw (fun e => e)) hdu hdr (unhide HSZQ) <;> rfl)
            try simp only [Act.put, List.setIfInBounds_toArray, List.set_cons_zero, List.set_cons_succ, List.getElem_toArray, List.getElem_cons_succ, List.getElem_cons_zero]
            refine wpAnyH_take (i := 15) (v := ?v28) rfl (by kernel_rfl) (by kernel_rfl) (by kernel_rfl) (fun _ _ _ h => h) (Or.inl ⟨by rfl, ?hy28⟩) (by assumption) ?rest28
            case hy28 =>
              intro w hSw
              go_simp
              try with_reducible rfl
            try simp only [Act.put, List.setIfInBounds_toArray, List.set_cons_zero, List.set_cons_succ, List.getElem_toArray, List.getElem_cons_succ, List.getElem_cons_zero]
            refine wpAnyH_take (i := 17) (v := ?v29) rfl (by kernel_rfl) (by kernel_rfl) (by kernel_rfl) (fun _ _ _ h => h) (Or.inl ⟨by rfl, ?hy29⟩) (by assumption) ?rest29
            case hy29 =>
              intro w hSw
              (refine exec_load_mid 39 (.tmp 13) ?_ kq 0 ?_ D dsc (rangeAt_only (unhide R7) hSw (fun e => e)) hdu hdr (unhide HSZQ) <;> rfl)
            try simp only [Act.put, List.setIfInBounds_toArray, List.set_cons_zero, List.set_cons_succ, List.getElem_toArray, List.getElem_cons_succ, List.getElem_cons_zero]
            have Q8 := hide ((unhide Q).trans (unhide O8) (fun _ _ e => e))
            have HM8 := hide (unhide HM2 w8 (unhide Q8))
            refine wpAnyH_ready (rs := [16]) (by kernel_rfl) (by simp) ?_
            refine AllReadyH.cons rfl (fun K hK => ?_) AllReadyH.nil
            go_simp
            go_wp2_with fail; refine (unhide HM8).mono ?_; rintro e w9 ⟨a1, a2, a3, a4, rfl, hin9, o9⟩; have Q9 := hide ((unhide Q8).trans o9 (fun _ _ e => e)); have HR9 := hide (unhide HRS w9 a1 a2 a3 a4 (unhide Q9) hin9); clear hin9 o9
            refine hK.out _ _ ((unhide Q9)) (fun hHeld => ?_)
            clear hK K
            try simp only [Act.put, List.setIfInBounds_toArray, List.set_cons_zero, List.set_cons_succ, List.getElem_toArray, List.getElem_cons_succ, List.getElem_cons_zero]
            refine wpAnyH_ready (rs := [18]) (by kernel_rfl) (by simp) ?_
            refine AllReadyH.cons rfl (fun K hK => ?_) AllReadyH.nil
            go_simp
            go_wp2_with fail; refine (unhide HR9).mono ?_; rintro e wa ⟨rfl, oa⟩; have QA := hide ((unhide Q9).trans oa (fun _ _ e => e)); clear oa
            refine hK.out _ _ ((unhide QA)) (fun hHeld => ?_)
            clear hK K
            try simp only [Act.put, List.setIfInBounds_toArray, List.set_cons_zero, List.set_cons_succ, List.getElem_toArray, List.getElem_cons_succ, List.getElem_cons_zero]
            refine wpAnyH_take (i := 19) (v := ?v30) rfl (by kernel_rfl) (by kernel_rfl) (by kernel_rfl) (fun _ _ _ h => h) (Or.inl ⟨by rfl, ?hy30⟩) (by assumption) ?rest30
            case hy30 =>
              intro w hSw
              (go_simp; try with_reducible rfl)
            try simp only [Act.put, List.setIfInBounds_toArray, List.set_cons_zero, List.set_cons_succ, List.getElem_toArray, List.getElem_cons_succ, List.getElem_cons_zero]
            refine wpAnyH_take (i := 20) (v := ?v31) rfl (by kernel_rfl) (by kernel_rfl) (by kernel_rfl) (fun _ _ _ h => h) (Or.inl ⟨by rfl, ?hy31⟩) (by assumption) ?rest31
            case hy31 =>
              intro w hSw
              go_simp
              try with_reducible rfl
            try simp only [Act.put, List.setIfInBounds_toArray, List.set_cons_zero, List.set_cons_succ, List.getElem_toArray, List.getElem_cons_succ, List.getElem_cons_zero]
            refine wpAnyH_done (by kernel_rfl) ?_ _
            go_wp2
            go_ret
            exact ⟨rfl, (unhide O7).trans (unhide QA) (fun _ _ e => e)⟩
      · as_aux_lemma =>
          go_wp2_with (refine wpList_load_mid rfl 39 (.tmp 7) rfl ko 0 rfl C dsc hro hdu hdr (unhide HSZ0) ?_)
          refine (unhide HMO).mono ?_
          rintro e w6 ⟨qm, qn, ql, qc, rfl, hin, hfr, o6⟩
          have hdm := hin.ten
          obtain ⟨w7, kq, e7, ekq, hb7, o7, ht7⟩ := made37 w6 (cells (move o t) qm qn ql qc) (cells_len _ _ _ _ _ hdm)
          have HONE := hide hin.one
          have HSZA := hide (size_cellsA (move o t) qm qn ql qc hdm)
          have HSZQ := hide (size_cells (move o t) qm qn ql qc hdm)
          have IQ := hide (hin.same o7)
          have R7 := hide (Bx.whole hb7 hdm)
          obtain ⟨S, hSt⟩ : ∃ S, S = (move o t).state := ⟨_, rfl⟩
          have CQ : Hid (w7.cell? ⟨kq, 6, none⟩ = some (.int .i64 S)) := by rw [hSt]; exact hb7.cell 6 _ (cell_state (move o t) qm qn ql qc)
          have CP : Hid (w7.cell? ⟨kp, 6, none⟩ = some (.int .i64 p.state)) := (o6.trans o7 (fun _ _ e => e)).cell (unhide BP6) (fun e => e)
          have HSS : Hid (0 < k → p.state = S) := fun h => by rw [hSt, move_state]; exact unhide HPT h
          have O7 := hide (((unhide HOR).trans o6 (fun _ _ e => e)).trans o7 (fun _ _ e => e))
          have HE7 := hide e7
          have HEKQ := hide ekq
          have HT7 := hide ht7
          have HM2 : Hid (∀ w', Only (fun _ => False) w7 w' → Calls Try.prog 16 #[val (move o t) qm qn ql qc, .int .i64 t] w' fun e w'' => ∃ mv' nv' lv' cv', e = .returned (val (move o t) mv' nv' lv' cv') ∧ In w'' (move o t) mv' nv' lv' cv' ∧ Only (fun _ => False) w' w'') := fun w' q => by
            have h := move_any (move o t) qm qn ql qc t w' ((unhide IQ).same q) (move_small (unhide HSM) t) (unhide W6t)
            rw [move_again] at h
            refine h.mono ?_
            rintro e w'' ⟨a1, a2, a3, a4, h1, h2, h3, h4⟩
            exact ⟨a1, a2, a3, a4, h1, h2, h4⟩
          have HRS : Hid (∀ w' a1 a2 a3 a4, Only (fun _ => False) w7 w' → In w' (move o t) a1 a2 a3 a4 → Calls Try.prog 15 #[val (move o t) a1 a2 a3 a4, val (move o t) qm qn ql qc] w' fun e w'' => e = .returned (.bool true) ∧ Only (fun _ => False) w' w'') := fun w' a1 a2 a3 a4 q h => rsame_eq (move o t) a1 a2 a3 a4 qm qn ql qc w' h ((unhide IQ).same q)
          unfold val at HM2 HRS
          obtain ⟨D, hD⟩ : ∃ D, D = cells (move o t) qm qn ql qc := ⟨_, rfl⟩
          rw [← hD] at HONE HSZA HSZQ R7 HE7 HT7 HM2 HRS ⊢
          clear hin hfr o6 hdm e7 ekq hb7 o7 ht7 hSt hD HMO hro HSZ0 HPT BP6 B1 HVO HOR
          go_upto_region 13 with (refine wpList_store_mid rfl 39 (.tmp 13) (.tmp 60) rfl w6.heap.size 0 D.toArray rfl rfl (unhide HT7) (unhide HSZA) (unhide HONE) ?_)
          rw [zo_eq, ← unhide HE7, ← unhide HEKQ]
          clear HE7 HEKQ HT7 HONE HSZA
          have HKN := hide (known_any w7.drew)
          have Q := hide ((Only.refl (fun _ => False) w7).drew)
          by_cases hn0 : n = 0
          case pos =>
            have hnb : ((n : Int) == 0) = true := by rw [hn0]; rfl
            clear hn0
            refine wp_region_held_drew (S := (fun w' => Only (fun _ => False) w7 w')) (by kernel_rfl) ((Only.refl _ _).drew) (fun hHeld => ?_)
            refine wpAnyH_ready (rs := [0]) (by kernel_rfl) (by simp) ?_
            refine AllReadyH.cons rfl (fun K hK => ?_) AllReadyH.nil
            go_simp
            go_wp2_with fail; refine (unhide HKN).mono ?_; rintro e w8 ⟨rfl, o8⟩; have O8 := hide o8; clear o8
            refine hK.out _ _ (((unhide Q).trans (unhide O8) (fun _ _ e => e))) (fun hHeld => ?_)
            clear hK K
            try simp only [Act.put, List.setIfInBounds_toArray, List.set_cons_zero, List.set_cons_succ, List.getElem_toArray, List.getElem_cons_succ, List.getElem_cons_zero]
            refine wpAnyH_take (i := 1) (v := ?v32) rfl (by kernel_rfl) (by kernel_rfl) (by kernel_rfl) (fun _ _ _ h => h) (Or.inl ⟨by rfl, ?hy32⟩) (by assumption) ?rest32
            case hy32 =>
              intro w hSw
              go_simp
              try with_reducible rfl
            try simp only [Act.put, List.setIfInBounds_toArray, List.set_cons_zero, List.set_cons_succ, List.getElem_toArray, List.getElem_cons_succ, List.getElem_cons_zero]
            refine wpAnyH_take (i := 2) (v := ?v33) rfl (by kernel_rfl) (by kernel_rfl) (by kernel_rfl) (fun _ _ _ h => h) (Or.inl ⟨by rfl, ?hy33⟩) (by assumption) ?rest33
            case hy33 =>
              intro w hSw
              go_simp
              try with_reducible rfl
            try simp only [Act.put, List.setIfInBounds_toArray, List.set_cons_zero, List.set_cons_succ, List.getElem_toArray, List.getElem_cons_succ, List.getElem_cons_zero]
            refine wpAnyH_take (i := 3) (v := ?v34) rfl (by kernel_rfl) (by kernel_rfl) (by kernel_rfl) (fun _ _ _ h => h) (Or.inl ⟨by rfl, ?hy34⟩) (by assumption) ?rest34
            case hy34 =>
              intro w hSw
              go_simp
              try with_reducible rfl
            try simp only [Act.put, List.setIfInBounds_toArray, List.set_cons_zero, List.set_cons_succ, List.getElem_toArray, List.getElem_cons_succ, List.getElem_cons_zero]
            refine wpAnyH_take (i := 4) (v := ?v35) rfl (by kernel_rfl) (by kernel_rfl) (by kernel_rfl) (fun _ _ _ h => h) (Or.inl ⟨by rfl, ?hy35⟩) (by assumption) ?rest35
            case hy35 =>
              intro w hSw
              (go_simp; try with_reducible rfl)
            try simp only [Act.put, List.setIfInBounds_toArray, List.set_cons_zero, List.set_cons_succ, List.getElem_toArray, List.getElem_cons_succ, List.getElem_cons_zero]
            refine wpAnyH_take (i := 5) (v := ?v36) rfl (by kernel_rfl) (by kernel_rfl) (by kernel_rfl) (fun _ _ _ h => h) (Or.inl ⟨by rfl, ?hy36⟩) (by assumption) ?rest36
            case hy36 =>
              intro w hSw
              go_simp
              try with_reducible rfl
            try simp only [Act.put, List.setIfInBounds_toArray, List.set_cons_zero, List.set_cons_succ, List.getElem_toArray, List.getElem_cons_succ, List.getElem_cons_zero]
            refine wpAnyH_take (i := 6) (v := undef) rfl (by kernel_rfl) (by kernel_rfl) (by kernel_rfl) (fun _ _ _ h => h) (Or.inr ⟨by rfl, rfl⟩) (by assumption) ?_
            try simp only [Act.put, List.setIfInBounds_toArray, List.set_cons_zero, List.set_cons_succ, List.getElem_toArray, List.getElem_cons_succ, List.getElem_cons_zero]
            refine wpAnyH_take (i := 7) (v := undef) rfl (by kernel_rfl) (by kernel_rfl) (by kernel_rfl) (fun _ _ _ h => h) (Or.inr ⟨by rfl, rfl⟩) (by assumption) ?_
            try simp only [Act.put, List.setIfInBounds_toArray, List.set_cons_zero, List.set_cons_succ, List.getElem_toArray, List.getElem_cons_succ, List.getElem_cons_zero]
            refine wpAnyH_take (i := 8) (v := undef) rfl (by kernel_rfl) (by kernel_rfl) (by kernel_rfl) (fun _ _ _ h => h) (Or.inr ⟨by rfl, rfl⟩) (by assumption) ?_
            try simp only [Act.put, List.setIfInBounds_toArray, List.set_cons_zero, List.set_cons_succ, List.getElem_toArray, List.getElem_cons_succ, List.getElem_cons_zero]
            refine wpAnyH_take (i := 9) (v := undef) rfl (by kernel_rfl) (by kernel_rfl) (by kernel_rfl) (fun _ _ _ h => h) (Or.inr ⟨by rfl, rfl⟩) (by assumption) ?_
            try simp only [Act.put, List.setIfInBounds_toArray, List.set_cons_zero, List.set_cons_succ, List.getElem_toArray, List.getElem_cons_succ, List.getElem_cons_zero]
            refine wpAnyH_take (i := 10) (v := undef) rfl (by kernel_rfl) (by kernel_rfl) (by kernel_rfl) (fun _ _ _ h => h) (Or.inr ⟨by rfl, rfl⟩) (by assumption) ?_
            try simp only [Act.put, List.setIfInBounds_toArray, List.set_cons_zero, List.set_cons_succ, List.getElem_toArray, List.getElem_cons_succ, List.getElem_cons_zero]
            refine wpAnyH_take (i := 11) (v := ?v37) rfl (by kernel_rfl) (by kernel_rfl) (by kernel_rfl) (fun _ _ _ h => h) (Or.inl ⟨by rfl, ?hy37⟩) (by assumption) ?rest37
            case hy37 =>
              intro w hSw
              (go_simp; try with_reducible rfl)
            try simp only [Act.put, List.setIfInBounds_toArray, List.set_cons_zero, List.set_cons_succ, List.getElem_toArray, List.getElem_cons_succ, List.getElem_cons_zero]
            refine wpAnyH_take (i := 12) (v := ?v38) rfl (by kernel_rfl) (by kernel_rfl) (by kernel_rfl) (fun _ _ _ h => h) (Or.inl ⟨by rfl, ?hy38⟩) (by assumption) ?rest38
            case hy38 =>
              intro w hSw
              (go_simp; try with_reducible rfl)
            try simp only [Act.put, List.setIfInBounds_toArray, List.set_cons_zero, List.set_cons_succ, List.getElem_toArray, List.getElem_cons_succ, List.getElem_cons_zero]
            refine wpAnyH_take (i := 13) (v := ?v39) rfl (by kernel_rfl) (by kernel_rfl) (by kernel_rfl) (fun _ _ _ h => h) (Or.inl ⟨by rfl, ?hy39⟩) (by assumption) ?rest39
            case hy39 =>
              intro w hSw
              go_simp
              try with_reducible rfl
            try simp only [Act.put, List.setIfInBounds_toArray, List.set_cons_zero, List.set_cons_succ, List.getElem_toArray, List.getElem_cons_succ, List.getElem_cons_zero]
            refine wpAnyH_take (i := 14) (v := ?v40) rfl (by kernel_rfl) (by kernel_rfl) (by kernel_rfl) (fun _ _ _ h => h) (Or.inl ⟨by rfl, ?hy40⟩) (by assumption) ?rest40
            case hy40 =>
              intro w hSw
              (refine exec_load_mid 39 (.tmp 13) ?_ kq 0 ?_ D dsc (rangeAt_only (unhide R7) hSw (fun e => e)) hdu hdr (unhide HSZQ) <;> rfl)
            try simp only [Act.put, List.setIfInBounds_toArray, List.set_cons_zero, List.set_cons_succ, List.getElem_toArray, List.getElem_cons_succ, List.getElem_cons_zero]
            refine wpAnyH_take (i := 15) (v := ?v41) rfl (by kernel_rfl) (by kernel_rfl) (by kernel_rfl) (fun _ _ _ h => h) (Or.inl ⟨by rfl, ?hy41⟩) (by assumption) ?rest41
            case hy41 =>
              intro w hSw
              go_simp
              try with_reducible rfl
            try simp only [Act.put, List.setIfInBounds_toArray, List.set_cons_zero, List.set_cons_succ, List.getElem_toArray, List.getElem_cons_succ, List.getElem_cons_zero]
            refine wpAnyH_take (i := 17) (v := ?v42) rfl (by kernel_rfl) (by kernel_rfl) (by kernel_rfl) (fun _ _ _ h => h) (Or.inl ⟨by rfl, ?hy42⟩) (by assumption) ?rest42
            case hy42 =>
              intro w hSw
              (refine exec_load_mid 39 (.tmp 13) ?_ kq 0 ?_ D dsc (rangeAt_only (unhide R7) hSw (fun e => e)) hdu hdr (unhide HSZQ) <;> rfl)
            try simp only [Act.put, List.setIfInBounds_toArray, List.set_cons_zero, List.set_cons_succ, List.getElem_toArray, List.getElem_cons_succ, List.getElem_cons_zero]
            have Q8 := hide ((unhide Q).trans (unhide O8) (fun _ _ e => e))
            have HM8 := hide (unhide HM2 w8 (unhide Q8))
            refine wpAnyH_ready (rs := [16]) (by kernel_rfl) (by simp) ?_
            refine AllReadyH.cons rfl (fun K hK => ?_) AllReadyH.nil
            go_simp
            go_wp2_with fail; refine (unhide HM8).mono ?_; rintro e w9 ⟨a1, a2, a3, a4, rfl, hin9, o9⟩; have Q9 := hide ((unhide Q8).trans o9 (fun _ _ e => e)); have HR9 := hide (unhide HRS w9 a1 a2 a3 a4 (unhide Q9) hin9); clear hin9 o9
            refine hK.out _ _ ((unhide Q9)) (fun hHeld => ?_)
            clear hK K
            try simp only [Act.put, List.setIfInBounds_toArray, List.set_cons_zero, List.set_cons_succ, List.getElem_toArray, List.getElem_cons_succ, List.getElem_cons_zero]
            refine wpAnyH_ready (rs := [18]) (by kernel_rfl) (by simp) ?_
            refine AllReadyH.cons rfl (fun K hK => ?_) AllReadyH.nil
            go_simp
            go_wp2_with fail; refine (unhide HR9).mono ?_; rintro e wa ⟨rfl, oa⟩; have QA := hide ((unhide Q9).trans oa (fun _ _ e => e)); clear oa
            refine hK.out _ _ ((unhide QA)) (fun hHeld => ?_)
            clear hK K
            try simp only [Act.put, List.setIfInBounds_toArray, List.set_cons_zero, List.set_cons_succ, List.getElem_toArray, List.getElem_cons_succ, List.getElem_cons_zero]
            refine wpAnyH_take (i := 19) (v := ?v43) rfl (by kernel_rfl) (by kernel_rfl) (by kernel_rfl) (fun _ _ _ h => h) (Or.inl ⟨by rfl, ?hy43⟩) (by assumption) ?rest43
            case hy43 =>
              intro w hSw
              (go_simp; try with_reducible rfl)
            try simp only [Act.put, List.setIfInBounds_toArray, List.set_cons_zero, List.set_cons_succ, List.getElem_toArray, List.getElem_cons_succ, List.getElem_cons_zero]
            refine wpAnyH_take (i := 20) (v := ?v44) rfl (by kernel_rfl) (by kernel_rfl) (by kernel_rfl) (fun _ _ _ h => h) (Or.inl ⟨by rfl, ?hy44⟩) (by assumption) ?rest44
            case hy44 =>
              intro w hSw
              go_simp
              try with_reducible rfl
            try simp only [Act.put, List.setIfInBounds_toArray, List.set_cons_zero, List.set_cons_succ, List.getElem_toArray, List.getElem_cons_succ, List.getElem_cons_zero]
            refine wpAnyH_done (by kernel_rfl) ?_ _
            go_wp2
            go_ret
            exact ⟨rfl, (unhide O7).trans (unhide QA) (fun _ _ e => e)⟩
          case neg =>
            have hnb : ((n : Int) == 0) = false := by rw [beq_eq_false_iff_ne]; omega
            have hps : Hid (p.state = S) := unhide HSS (by have := unhide HLAST; omega)
            rw [unhide hps] at CP
            clear hn0 hps
            refine wp_region_held_drew (S := (fun w' => Only (fun _ => False) w7 w')) (by kernel_rfl) ((Only.refl _ _).drew) (fun hHeld => ?_)
            refine wpAnyH_ready (rs := [0]) (by kernel_rfl) (by simp) ?_
            refine AllReadyH.cons rfl (fun K hK => ?_) AllReadyH.nil
            go_simp
            go_wp2_with fail; refine (unhide HKN).mono ?_; rintro e w8 ⟨rfl, o8⟩; have O8 := hide o8; clear o8
            refine hK.out _ _ (((unhide Q).trans (unhide O8) (fun _ _ e => e))) (fun hHeld => ?_)
            clear hK K
            try simp only [Act.put, List.setIfInBounds_toArray, List.set_cons_zero, List.set_cons_succ, List.getElem_toArray, List.getElem_cons_succ, List.getElem_cons_zero]
            refine wpAnyH_take (i := 1) (v := ?v45) rfl (by kernel_rfl) (by kernel_rfl) (by kernel_rfl) (fun _ _ _ h => h) (Or.inl ⟨by rfl, ?hy45⟩) (by assumption) ?rest45
            case hy45 =>
              intro w hSw
              go_simp
              try with_reducible rfl
            try simp only [Act.put, List.setIfInBounds_toArray, List.set_cons_zero, List.set_cons_succ, List.getElem_toArray, List.getElem_cons_succ, List.getElem_cons_zero]
            refine wpAnyH_take (i := 2) (v := ?v46) rfl (by kernel_rfl) (by kernel_rfl) (by kernel_rfl) (fun _ _ _ h => h) (Or.inl ⟨by rfl, ?hy46⟩) (by assumption) ?rest46
            case hy46 =>
              intro w hSw
              go_simp
              try with_reducible rfl
            try simp only [Act.put, List.setIfInBounds_toArray, List.set_cons_zero, List.set_cons_succ, List.getElem_toArray, List.getElem_cons_succ, List.getElem_cons_zero]
            refine wpAnyH_take (i := 3) (v := ?v47) rfl (by kernel_rfl) (by kernel_rfl) (by kernel_rfl) (fun _ _ _ h => h) (Or.inl ⟨by rfl, ?hy47⟩) (by assumption) ?rest47
            case hy47 =>
              intro w hSw
              go_simp
              try with_reducible rfl
            try simp only [Act.put, List.setIfInBounds_toArray, List.set_cons_zero, List.set_cons_succ, List.getElem_toArray, List.getElem_cons_succ, List.getElem_cons_zero]
            refine wpAnyH_take (i := 4) (v := ?v48) rfl (by kernel_rfl) (by kernel_rfl) (by kernel_rfl) (fun _ _ _ h => h) (Or.inl ⟨by rfl, ?hy48⟩) (by assumption) ?rest48
            case hy48 =>
              intro w hSw
              (go_simp; try with_reducible rfl)
            try simp only [Act.put, List.setIfInBounds_toArray, List.set_cons_zero, List.set_cons_succ, List.getElem_toArray, List.getElem_cons_succ, List.getElem_cons_zero]
            refine wpAnyH_take (i := 5) (v := ?v49) rfl (by kernel_rfl) (by kernel_rfl) (by kernel_rfl) (fun _ _ _ h => h) (Or.inl ⟨by rfl, ?hy49⟩) (by assumption) ?rest49
            case hy49 =>
              intro w hSw
              go_simp
              try with_reducible rfl
            try simp only [Act.put, List.setIfInBounds_toArray, List.set_cons_zero, List.set_cons_succ, List.getElem_toArray, List.getElem_cons_succ, List.getElem_cons_zero]
            refine wpAnyH_take (i := 6) (v := ?v50) rfl (by kernel_rfl) (by kernel_rfl) (by kernel_rfl) (fun _ _ _ h => h) (Or.inl ⟨by rfl, ?hy50⟩) (by assumption) ?rest50
            case hy50 =>
              intro w hSw
              go_simp
              try with_reducible rfl
            try simp only [Act.put, List.setIfInBounds_toArray, List.set_cons_zero, List.set_cons_succ, List.getElem_toArray, List.getElem_cons_succ, List.getElem_cons_zero]
            refine wpAnyH_take (i := 7) (v := ?v51) rfl (by kernel_rfl) (by kernel_rfl) (by kernel_rfl) (fun _ _ _ h => h) (Or.inl ⟨by rfl, ?hy51⟩) (by assumption) ?rest51
            case hy51 =>
              intro w hSw
              (have q := hSw.cell (unhide CQ) (fun e => e); go_simp; try with_reducible rfl)
            try simp only [Act.put, List.setIfInBounds_toArray, List.set_cons_zero, List.set_cons_succ, List.getElem_toArray, List.getElem_cons_succ, List.getElem_cons_zero]
            refine wpAnyH_take (i := 8) (v := ?v52) rfl (by kernel_rfl) (by kernel_rfl) (by kernel_rfl) (fun _ _ _ h => h) (Or.inl ⟨by rfl, ?hy52⟩) (by assumption) ?rest52
            case hy52 =>
              intro w hSw
              go_simp
              try with_reducible rfl
            try simp only [Act.put, List.setIfInBounds_toArray, List.set_cons_zero, List.set_cons_succ, List.getElem_toArray, List.getElem_cons_succ, List.getElem_cons_zero]
            refine wpAnyH_take (i := 9) (v := ?v53) rfl (by kernel_rfl) (by kernel_rfl) (by kernel_rfl) (fun _ _ _ h => h) (Or.inl ⟨by rfl, ?hy53⟩) (by assumption) ?rest53
            case hy53 =>
              intro w hSw
              (have q := hSw.cell (unhide CP) (fun e => e); go_simp; try with_reducible rfl)
            try simp only [Act.put, List.setIfInBounds_toArray, List.set_cons_zero, List.set_cons_succ, List.getElem_toArray, List.getElem_cons_succ, List.getElem_cons_zero]
            refine wpAnyH_take (i := 10) (v := ?v54) rfl (by kernel_rfl) (by kernel_rfl) (by kernel_rfl) (fun _ _ _ h => h) (Or.inl ⟨by rfl, ?hy54⟩) (by assumption) ?rest54
            case hy54 =>
              intro w hSw
              (go_simp; try with_reducible rfl)
            try simp only [Act.put, List.setIfInBounds_toArray, List.set_cons_zero, List.set_cons_succ, List.getElem_toArray, List.getElem_cons_succ, List.getElem_cons_zero]
            refine wpAnyH_take (i := 11) (v := ?v55) rfl (by kernel_rfl) (by kernel_rfl) (by kernel_rfl) (fun _ _ _ h => h) (Or.inl ⟨by rfl, ?hy55⟩) (by assumption) ?rest55
            case hy55 =>
              intro w hSw
              (go_simp; try with_reducible rfl)
            try simp only [Act.put, List.setIfInBounds_toArray, List.set_cons_zero, List.set_cons_succ, List.getElem_toArray, List.getElem_cons_succ, List.getElem_cons_zero]
            refine wpAnyH_take (i := 12) (v := ?v56) rfl (by kernel_rfl) (by kernel_rfl) (by kernel_rfl) (fun _ _ _ h => h) (Or.inl ⟨by rfl, ?hy56⟩) (by assumption) ?rest56
            case hy56 =>
              intro w hSw
              (go_simp; try with_reducible rfl)
            try simp only [Act.put, List.setIfInBounds_toArray, List.set_cons_zero, List.set_cons_succ, List.getElem_toArray, List.getElem_cons_succ, List.getElem_cons_zero]
            refine wpAnyH_take (i := 13) (v := ?v57) rfl (by kernel_rfl) (by kernel_rfl) (by kernel_rfl) (fun _ _ _ h => h) (Or.inl ⟨by rfl, ?hy57⟩) (by assumption) ?rest57
            case hy57 =>
              intro w hSw
              go_simp
              try with_reducible rfl
            try simp only [Act.put, List.setIfInBounds_toArray, List.set_cons_zero, List.set_cons_succ, List.getElem_toArray, List.getElem_cons_succ, List.getElem_cons_zero]
            refine wpAnyH_take (i := 14) (v := ?v58) rfl (by kernel_rfl) (by kernel_rfl) (by kernel_rfl) (fun _ _ _ h => h) (Or.inl ⟨by rfl, ?hy58⟩) (by assumption) ?rest58
            case hy58 =>
              intro w hSw
              (refine exec_load_mid 39 (.tmp 13) ?_ kq 0 ?_ D dsc (rangeAt_only (unhide R7) hSw (fun e => e)) hdu hdr (unhide HSZQ) <;> rfl)
            try simp only [Act.put, List.setIfInBounds_toArray, List.set_cons_zero, List.set_cons_succ, List.getElem_toArray, List.getElem_cons_succ, List.getElem_cons_zero]
            refine wpAnyH_take (i := 15) (v := ?v59) rfl (by kernel_rfl) (by kernel_rfl) (by kernel_rfl) (fun _ _ _ h => h) (Or.inl ⟨by rfl, ?hy59⟩) (by assumption) ?rest59
            case hy59 =>
              intro w hSw
              go_simp
              try with_reducible rfl
            try simp only [Act.put, List.setIfInBounds_toArray, List.set_cons_zero, List.set_cons_succ, List.getElem_toArray, List.getElem_cons_succ, List.getElem_cons_zero]
            refine wpAnyH_take (i := 17) (v := ?v60) rfl (by kernel_rfl) (by kernel_rfl) (by kernel_rfl) (fun _ _ _ h => h) (Or.inl ⟨by rfl, ?hy60⟩) (by assumption) ?rest60
            case hy60 =>
              intro w hSw
              (refine exec_load_mid 39 (.tmp 13) ?_ kq 0 ?_ D dsc (rangeAt_only (unhide R7) hSw (fun e => e)) hdu hdr (unhide HSZQ) <;> rfl)
            try simp only [Act.put, List.setIfInBounds_toArray, List.set_cons_zero, List.set_cons_succ, List.getElem_toArray, List.getElem_cons_succ, List.getElem_cons_zero]
            have Q8 := hide ((unhide Q).trans (unhide O8) (fun _ _ e => e))
            have HM8 := hide (unhide HM2 w8 (unhide Q8))
            refine wpAnyH_ready (rs := [16]) (by kernel_rfl) (by simp) ?_
            refine AllReadyH.cons rfl (fun K hK => ?_) AllReadyH.nil
            go_simp
            go_wp2_with fail; refine (unhide HM8).mono ?_; rintro e w9 ⟨a1, a2, a3, a4, rfl, hin9, o9⟩; have Q9 := hide ((unhide Q8).trans o9 (fun _ _ e => e)); have HR9 := hide (unhide HRS w9 a1 a2 a3 a4 (unhide Q9) hin9); clear hin9 o9
            refine hK.out _ _ ((unhide Q9)) (fun hHeld => ?_)
            clear hK K
            try simp only [Act.put, List.setIfInBounds_toArray, List.set_cons_zero, List.set_cons_succ, List.getElem_toArray, List.getElem_cons_succ, List.getElem_cons_zero]
            refine wpAnyH_ready (rs := [18]) (by kernel_rfl) (by simp) ?_
            refine AllReadyH.cons rfl (fun K hK => ?_) AllReadyH.nil
            go_simp
            go_wp2_with fail; refine (unhide HR9).mono ?_; rintro e wa ⟨rfl, oa⟩; have QA := hide ((unhide Q9).trans oa (fun _ _ e => e)); clear oa
            refine hK.out _ _ ((unhide QA)) (fun hHeld => ?_)
            clear hK K
            try simp only [Act.put, List.setIfInBounds_toArray, List.set_cons_zero, List.set_cons_succ, List.getElem_toArray, List.getElem_cons_succ, List.getElem_cons_zero]
            refine wpAnyH_take (i := 19) (v := ?v61) rfl (by kernel_rfl) (by kernel_rfl) (by kernel_rfl) (fun _ _ _ h => h) (Or.inl ⟨by rfl, ?hy61⟩) (by assumption) ?rest61
            case hy61 =>
              intro w hSw
              (go_simp; try with_reducible rfl)
            try simp only [Act.put, List.setIfInBounds_toArray, List.set_cons_zero, List.set_cons_succ, List.getElem_toArray, List.getElem_cons_succ, List.getElem_cons_zero]
            refine wpAnyH_take (i := 20) (v := ?v62) rfl (by kernel_rfl) (by kernel_rfl) (by kernel_rfl) (fun _ _ _ h => h) (Or.inl ⟨by rfl, ?hy62⟩) (by assumption) ?rest62
            case hy62 =>
              intro w hSw
              go_simp
              try with_reducible rfl
            try simp only [Act.put, List.setIfInBounds_toArray, List.set_cons_zero, List.set_cons_succ, List.getElem_toArray, List.getElem_cons_succ, List.getElem_cons_zero]
            refine wpAnyH_done (by kernel_rfl) ?_ _
            go_wp2
            go_ret
            exact ⟨rfl, (unhide O7).trans (unhide QA) (fun _ _ e => e)⟩
    case pos =>
    obtain ⟨hl1, hl2⟩ := hlt
    have hkz1 : (k : Int) < (n : Int) := by omega
    have hkz2 : (k : Int) < 20 := by omega
    have hkL : k < fs.length := by have := unhide HN; omega
    obtain ⟨sb, so2, rfl, -, hsat⟩ := (unhide HSV).at (by omega)
    have c0 := (unhide OR).cell ((unhide OW).cell (hsat k (by rw [List.length_map]; exact hkL)) (fun e => e)) (by show ¬ sb = kp; have h1 := (unhide HSV).blk_lt (by intro e; rw [List.map_eq_nil_iff] at e; rw [e] at hkL; simp at hkL) sb rfl; have h2 := unhide HKP; omega)
    rw [List.getElem_map] at c0
    obtain ⟨f, hf⟩ : ∃ f, f = fs[k] := ⟨_, rfl⟩
    rw [← hf] at c0
    have HT1 : Hid (tmK fs (k + 1) = t + f % 9) := by show tmK fs k + fs.getD k 0 % 9 = _; rw [← ht, List.getD_eq_getElem?_getD, List.getElem?_eq_getElem hkL, hf]; rfl
    have h9 := Int.emod_nonneg f (show (9 : Int) ≠ 0 by decide)
    have h9' := Int.emod_lt_of_pos f (show (0 : Int) < 9 by decide)
    have wadd := fs_add t (f % 9) ht0.1 (by omega) h9 h9'
    have P9 := hide (pick_any f 9 wr (by decide) (by decide))
    clear hf hsat hkL
    go_wp2_with fail
    refine (unhide P9).mono ?_
    rintro e wx ⟨rfl, hwx⟩
    rw [hwx]
    clear hwx wx P9 c0
    generalize f % 9 = r at *
    obtain ⟨p, hp⟩ : ∃ p, p = mvT o fs k := ⟨_, rfl⟩
    rw [← hp] at B1 B2 B3
    have HSP : Hid (Small p) := by rw [hp]; exact mvT_small (unhide HSM) fs k
    have HPK := hide hp
    clear hp
    obtain ⟨u, hu⟩ : ∃ u, u = t + r := ⟨_, rfl⟩
    rw [← hu] at HT1 wadd
    have hu0 : 0 ≤ u ∧ u ≤ 300 := by omega
    have HUU := hide hu
    clear hu
    have HD2 : Hid (p.dates.length = 10) := (unhide B2).ten
    have HNX := hide (next_any p pm pn pl pc wr (unhide HD2))
    have HMV := hide (fun w' (q : Only (fun _ => False) wr w') => move_any p pm pn pl pc u w' ((unhide B2).same q) (unhide HSP) (by unfold W64; omega))
    have hrp := Bx.whole (unhide B1) (unhide HD2)
    have HSZ := hide (size_cells p pm pn pl pc (unhide HD2))
    unfold val at HNX HMV
    obtain ⟨C2, hC2⟩ : ∃ C, C = cells p pm pn pl pc := ⟨_, rfl⟩
    rw [← hC2] at HNX HMV hrp HSZ B1
    have HC2 := hide hC2
    clear hC2
    have wadd' := wadd
    rw [unhide HUU] at wadd'
    go_wp2_with (refine wpList_load_mid rfl 39 (.tmp 8) rfl kp 0 rfl C2 dsc hrp hdu hdr (unhide HSZ) ?_)
    refine (unhide HNX).mono ?_
    rintro e w5 ⟨rfl, o5⟩
    have e9 : tmK fs k + r = u := by rw [← ht]; exact (unhide HUU).symm
    rw [e9]
    have HST : Hid ((nxt p).2 = true → u < (nxt p).1 → st2 p u = p.state) := fun h1 h2 => next_ahead p u h1 h2
    obtain ⟨a, ha⟩ : ∃ a, a = (nxt p).1 := ⟨_, rfl⟩
    obtain ⟨b, hb⟩ : ∃ b, b = (nxt p).2 := ⟨_, rfl⟩
    rw [← ha, ← hb] at HST ⊢
    have B15 := hide ((unhide B1).same o5)
    have B25 := hide ((unhide B2).same o5)
    have O5 := hide o5
    have OR5 : Hid (Only (fun j => j = kp) w4 w5) := (unhide OR).trans o5 (fun _ _ e => e.elim)
    have HWD := wadd
    clear ha hb o5 HNX hrp wadd' ht B1 B2 OR HTK HUU e9 ht0 h9 h9'
    by_cases hgt : b = true ∧ u < a
    case pos =>
      obtain ⟨rfl, hgt⟩ := hgt
      have HSS : Hid (st2 p u = p.state) := unhide HST rfl hgt
      go_upto_region 9 with fail
      have Q := hide ((Only.refl (fun _ => False) w5).drew)
      have HM5 := hide (unhide HMV w5.drew ((unhide O5).trans (unhide Q) (fun _ _ e => e)))
      have R5 : Hid (w5.rangeAt kp 0 C2) := by
        have hr6 := (unhide B15).range 0 37
        rwa [List.drop_zero, List.take_of_length_le (by rw [unhide HC2, cells_len _ _ _ _ _ (unhide HD2)]; omega)] at hr6
      have C6 := hide ((unhide B15).cell 6 (.int .i64 p.state) (by rw [unhide HC2]; exact cell_state p pm pn pl pc))
      refine wp_region_held_drew (S := (fun w' => Only (fun _ => False) w5 w')) (by kernel_rfl) ((Only.refl _ _).drew) (fun hHeld => ?_)
      refine wpAnyH_take (i := 0) (v := ?v63) rfl (by kernel_rfl) (by kernel_rfl) (by kernel_rfl) (fun _ _ _ h => h) (Or.inl ⟨by rfl, ?hy63⟩) (by assumption) ?rest63
      case hy63 =>
        intro w hSw
        go_simp
        try with_reducible rfl
      try simp only [Act.put, List.setIfInBounds_toArray, List.set_cons_zero, List.set_cons_succ, List.getElem_toArray, List.getElem_cons_succ, List.getElem_cons_zero]
      refine wpAnyH_take (i := 1) (v := ?v64) rfl (by kernel_rfl) (by kernel_rfl) (by kernel_rfl) (fun _ _ _ h => h) (Or.inl ⟨by rfl, ?hy64⟩) (by assumption) ?rest64
      case hy64 =>
        intro w hSw
        go_simp
        try with_reducible rfl
      try simp only [Act.put, List.setIfInBounds_toArray, List.set_cons_zero, List.set_cons_succ, List.getElem_toArray, List.getElem_cons_succ, List.getElem_cons_zero]
      refine wpAnyH_take (i := 2) (v := ?v65) rfl (by kernel_rfl) (by kernel_rfl) (by kernel_rfl) (fun _ _ _ h => h) (Or.inl ⟨by rfl, ?hy65⟩) (by assumption) ?rest65
      case hy65 =>
        intro w hSw
        go_simp
        try with_reducible rfl
      try simp only [Act.put, List.setIfInBounds_toArray, List.set_cons_zero, List.set_cons_succ, List.getElem_toArray, List.getElem_cons_succ, List.getElem_cons_zero]
      refine wpAnyH_take (i := 3) (v := ?v66) rfl (by kernel_rfl) (by kernel_rfl) (by kernel_rfl) (fun _ _ _ h => h) (Or.inl ⟨by rfl, ?hy66⟩) (by assumption) ?rest66
      case hy66 =>
        intro w hSw
        go_simp
        try with_reducible rfl
      try simp only [Act.put, List.setIfInBounds_toArray, List.set_cons_zero, List.set_cons_succ, List.getElem_toArray, List.getElem_cons_succ, List.getElem_cons_zero]
      refine wpAnyH_take (i := 4) (v := ?v67) rfl (by kernel_rfl) (by kernel_rfl) (by kernel_rfl) (fun _ _ _ h => h) (Or.inl ⟨by rfl, ?hy67⟩) (by assumption) ?rest67
      case hy67 =>
        intro w hSw
        (go_simp; try with_reducible rfl)
      try simp only [Act.put, List.setIfInBounds_toArray, List.set_cons_zero, List.set_cons_succ, List.getElem_toArray, List.getElem_cons_succ, List.getElem_cons_zero]
      refine wpAnyH_take (i := 5) (v := ?v68) rfl (by kernel_rfl) (by kernel_rfl) (by kernel_rfl) (fun _ _ _ h => h) (Or.inl ⟨by rfl, ?hy68⟩) (by assumption) ?rest68
      case hy68 =>
        intro w hSw
        go_simp
        try with_reducible rfl
      try simp only [Act.put, List.setIfInBounds_toArray, List.set_cons_zero, List.set_cons_succ, List.getElem_toArray, List.getElem_cons_succ, List.getElem_cons_zero]
      refine wpAnyH_take (i := 6) (v := ?v69) rfl (by kernel_rfl) (by kernel_rfl) (by kernel_rfl) (fun _ _ _ h => h) (Or.inl ⟨by rfl, ?hy69⟩) (by assumption) ?rest69
      case hy69 =>
        intro w hSw
        go_simp
        try with_reducible rfl
      try simp only [Act.put, List.setIfInBounds_toArray, List.set_cons_zero, List.set_cons_succ, List.getElem_toArray, List.getElem_cons_succ, List.getElem_cons_zero]
      refine wpAnyH_take (i := 7) (v := ?v70) rfl (by kernel_rfl) (by kernel_rfl) (by kernel_rfl) (fun _ _ _ h => h) (Or.inl ⟨by rfl, ?hy70⟩) (by assumption) ?rest70
      case hy70 =>
        intro w hSw
        (refine exec_load_mid 39 (.tmp 8) ?_ kp 0 ?_ C2 dsc (rangeAt_only (unhide R5) hSw (fun e => e)) hdu hdr (unhide HSZ) <;> rfl)
      try simp only [Act.put, List.setIfInBounds_toArray, List.set_cons_zero, List.set_cons_succ, List.getElem_toArray, List.getElem_cons_succ, List.getElem_cons_zero]
      refine wpAnyH_take (i := 8) (v := ?v71) rfl (by kernel_rfl) (by kernel_rfl) (by kernel_rfl) (fun _ _ _ h => h) (Or.inl ⟨by rfl, ?hy71⟩) (by assumption) ?rest71
      case hy71 =>
        intro w hSw
        go_simp
        try with_reducible rfl
      try simp only [Act.put, List.setIfInBounds_toArray, List.set_cons_zero, List.set_cons_succ, List.getElem_toArray, List.getElem_cons_succ, List.getElem_cons_zero]
      refine wpAnyH_take (i := 11) (v := ?v72) rfl (by kernel_rfl) (by kernel_rfl) (by kernel_rfl) (fun _ _ _ h => h) (Or.inl ⟨by rfl, ?hy72⟩) (by assumption) ?rest72
      case hy72 =>
        intro w hSw
        go_simp
        try with_reducible rfl
      try simp only [Act.put, List.setIfInBounds_toArray, List.set_cons_zero, List.set_cons_succ, List.getElem_toArray, List.getElem_cons_succ, List.getElem_cons_zero]
      refine wpAnyH_take (i := 12) (v := ?v73) rfl (by kernel_rfl) (by kernel_rfl) (by kernel_rfl) (fun _ _ _ h => h) (Or.inl ⟨by rfl, ?hy73⟩) (by assumption) ?rest73
      case hy73 =>
        intro w hSw
        (have q := hSw.cell (unhide C6) (fun e => e); go_simp; try with_reducible rfl)
      try simp only [Act.put, List.setIfInBounds_toArray, List.set_cons_zero, List.set_cons_succ, List.getElem_toArray, List.getElem_cons_succ, List.getElem_cons_zero]
      refine wpAnyH_ready (rs := [9]) (by kernel_rfl) (by simp) ?_
      refine AllReadyH.cons rfl (fun K hK => ?_) AllReadyH.nil
      go_simp
      go_wp2_with fail; refine (unhide HM5).mono ?_; rintro e w6 ⟨qm, qn, ql, qc, rfl, hin6, hfr6, o6⟩; have d6 : (cells (move p u) qm qn ql qc)[6]? = some (.int .i64 p.state) := (by rw [cell_state, move_state, unhide HSS]); have D6 := hide d6; have O6 := hide o6; clear hin6 hfr6 o6 d6
      refine hK.out _ _ (((unhide Q).trans (unhide O6) (fun _ _ e => e))) (fun hHeld => ?_)
      clear hK K
      try simp only [Act.put, List.setIfInBounds_toArray, List.set_cons_zero, List.set_cons_succ, List.getElem_toArray, List.getElem_cons_succ, List.getElem_cons_zero]
      refine wpAnyH_take (i := 10) (v := ?v74) rfl (by kernel_rfl) (by kernel_rfl) (by kernel_rfl) (fun _ _ _ h => h) (Or.inl ⟨by rfl, ?hy74⟩) (by assumption) ?rest74
      case hy74 =>
        intro w hSw
        (have q := field_state _ p.state (unhide D6) w; go_simp; try with_reducible rfl)
      try simp only [Act.put, List.setIfInBounds_toArray, List.set_cons_zero, List.set_cons_succ, List.getElem_toArray, List.getElem_cons_succ, List.getElem_cons_zero]
      refine wpAnyH_take (i := 13) (v := ?v75) rfl (by kernel_rfl) (by kernel_rfl) (by kernel_rfl) (fun _ _ _ h => h) (Or.inl ⟨by rfl, ?hy75⟩) (by assumption) ?rest75
      case hy75 =>
        intro w hSw
        (go_simp; try with_reducible rfl)
      try simp only [Act.put, List.setIfInBounds_toArray, List.set_cons_zero, List.set_cons_succ, List.getElem_toArray, List.getElem_cons_succ, List.getElem_cons_zero]
      refine wpAnyH_take (i := 14) (v := ?v76) rfl (by kernel_rfl) (by kernel_rfl) (by kernel_rfl) (fun _ _ _ h => h) (Or.inl ⟨by rfl, ?hy76⟩) (by assumption) ?rest76
      case hy76 =>
        intro w hSw
        (go_simp; try with_reducible rfl)
      try simp only [Act.put, List.setIfInBounds_toArray, List.set_cons_zero, List.set_cons_succ, List.getElem_toArray, List.getElem_cons_succ, List.getElem_cons_zero]
      refine wpAnyH_done (by kernel_rfl) ?_ _
      have O56 : Hid (Only (fun _ => False) w5 w6) := (unhide Q).trans (unhide O6) (fun _ _ e => e)
      have B16 := hide ((unhide B15).same (unhide O56))
      have B26 := hide ((unhide B25).same (unhide O56))
      have O6r := hide ((unhide O5).trans (unhide O56) (fun _ _ e => e))
      have OR6 : Hid (Only (fun j => j = kp) w4 w6) := (unhide OR5).trans (unhide O56) (fun _ _ e => e.elim)
      clear HM5 R5 C6 D6 Q O6
      have hr6 := (unhide B16).range 0 37
      rw [List.drop_zero, List.take_of_length_le (by rw [unhide HC2, cells_len _ _ _ _ _ (unhide HD2)]; omega)] at hr6
      have HM6 := hide (unhide HMV w6 (unhide O6r))
      go_wp2_with (refine wpList_load_mid rfl 39 (.tmp 8) rfl kp 0 rfl C2 dsc hr6 hdu hdr (unhide HSZ) ?_)
      refine (unhide HM6).mono ?_
      rintro e w7 ⟨qm, qn, ql, qc, rfl, hin7, hfr7, o7⟩
      have hkp6 : kp < (w6).heap.size := (unhide B16).lt
      have hap7 : Apart (move p u) qm qn ql qc kp := hfr7.apart hkp6
      obtain ⟨hth, hfb, hin8, hof⟩ := store_var hin7 hap7 ((unhide B16).same o7) (by rw [unhide HC2, cells_len _ _ _ _ _ (unhide HD2)])
      have hone := hin7.one
      have hsza := size_cellsA (move p u) qm qn ql qc hin7.ten
      have HTH := hide hth
      have HFB := hide hfb
      have HIN8 := hide hin8
      have HOF := hide (((unhide OR6).trans o7 (fun _ _ e => e.elim)).trans hof (fun _ _ e => e))
      have HONE := hide hone
      have HSZA := hide hsza
      have HAP7 := hide hap7
      have HNXT : Hid (mvT o fs (k + 1) = move p u) := by show move (mvT o fs k) (tmK fs (k + 1)) = _; rw [← unhide HPK, unhide HT1]
      clear hth hfb hin8 hof hone hsza hap7 hin7 hfr7 o7 hr6
      obtain ⟨D2, hD2⟩ : ∃ D, D = cells (move p u) qm qn ql qc := ⟨_, rfl⟩
      rw [← hD2] at HTH HFB HOF HONE HSZA HIN8 ⊢
      have HDD := hide hD2
      clear hD2
      go_wp2_with (refine wpList_store_mid rfl 39 (.tmp 8) (.tmp 57) rfl kp 0 D2.toArray rfl rfl (unhide HTH) (unhide HSZA) (unhide HONE) ?_)
      go_roundw
      case rel => exact ⟨k + 1, by omega, by omega, by go_num, by rw [unhide HT1], ⟨qm, qn, ql, qc, by rw [unhide HNXT, ← unhide HDD]; exact unhide HFB, by rw [unhide HNXT]; exact unhide HIN8, by rw [unhide HNXT]; exact unhide HAP7⟩, unhide HOF⟩
      case measure => simp [intOf]; omega
    case neg =>
    have hcase : b = false ∨ (b = true ∧ decide (u < a) = false) := by
      cases b with
      | false => exact Or.inl rfl
      | true => exact Or.inr ⟨rfl, decide_eq_false (fun h => hgt ⟨rfl, h⟩)⟩
    clear hgt
    rcases hcase with rfl | ⟨rfl, hle⟩
    all_goals
      go_wp2_with fail
      go_quiet (fail)
      obtain ⟨w6, hw6⟩ : ∃ w6, w6 = w5.drewN nq := ⟨_, rfl⟩
      rw [← hw6]
      have O56 : Hid (Only (fun _ => False) w5 w6) := by rw [hw6]; exact (Only.refl _ _).drewN _
      have B16 := hide ((unhide B15).same (unhide O56))
      have B26 := hide ((unhide B25).same (unhide O56))
      have O6r := hide ((unhide O5).trans (unhide O56) (fun _ _ e => e))
      have OR6 : Hid (Only (fun j => j = kp) w4 w6) := (unhide OR5).trans (unhide O56) (fun _ _ e => e.elim)
      clear hw6
      have hr6 := (unhide B16).range 0 37
      rw [List.drop_zero, List.take_of_length_le (by rw [unhide HC2, cells_len _ _ _ _ _ (unhide HD2)]; omega)] at hr6
      have HM6 := hide (unhide HMV w6 (unhide O6r))
      go_wp2_with (refine wpList_load_mid rfl 39 (.tmp 8) rfl kp 0 rfl C2 dsc hr6 hdu hdr (unhide HSZ) ?_)
      refine (unhide HM6).mono ?_
      rintro e w7 ⟨qm, qn, ql, qc, rfl, hin7, hfr7, o7⟩
      have hkp6 : kp < (w6).heap.size := (unhide B16).lt
      have hap7 : Apart (move p u) qm qn ql qc kp := hfr7.apart hkp6
      obtain ⟨hth, hfb, hin8, hof⟩ := store_var hin7 hap7 ((unhide B16).same o7) (by rw [unhide HC2, cells_len _ _ _ _ _ (unhide HD2)])
      have hone := hin7.one
      have hsza := size_cellsA (move p u) qm qn ql qc hin7.ten
      have HTH := hide hth
      have HFB := hide hfb
      have HIN8 := hide hin8
      have HOF := hide (((unhide OR6).trans o7 (fun _ _ e => e.elim)).trans hof (fun _ _ e => e))
      have HONE := hide hone
      have HSZA := hide hsza
      have HAP7 := hide hap7
      have HNXT : Hid (mvT o fs (k + 1) = move p u) := by show move (mvT o fs k) (tmK fs (k + 1)) = _; rw [← unhide HPK, unhide HT1]
      clear hth hfb hin8 hof hone hsza hap7 hin7 hfr7 o7 hr6
      obtain ⟨D2, hD2⟩ : ∃ D, D = cells (move p u) qm qn ql qc := ⟨_, rfl⟩
      rw [← hD2] at HTH HFB HOF HONE HSZA HIN8 ⊢
      have HDD := hide hD2
      clear hD2
      go_wp2_with (refine wpList_store_mid rfl 39 (.tmp 8) (.tmp 57) rfl kp 0 D2.toArray rfl rfl (unhide HTH) (unhide HSZA) (unhide HONE) ?_)
      go_roundw
      case rel => exact ⟨k + 1, by omega, by omega, by go_num, by rw [unhide HT1], ⟨qm, qn, ql, qc, by rw [unhide HNXT, ← unhide HDD]; exact unhide HFB, by rw [unhide HNXT]; exact unhide HIN8, by rw [unhide HNXT]; exact unhide HAP7⟩, unhide HOF⟩
      case measure => simp [intOf]; omega
end Ob
end Go.Proofs.Ytnklnfbalnooaaa
