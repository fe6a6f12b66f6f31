/-
  locksmithlaw11.LifeMoves: what time does to any object, and when it next would.
-/
import Derived.Test.YtnklnfbalnooaaaLfKnow
import Derived.Test.YtnklnfbalnooaaaLfRsame
import Derived.Test.YtnklnfbalnooaaaHoObj
import Derived.Test.YtnklnfbalnooaaaLfRmove
import Derived.Test.YtnklnfbalnooaaaHandPick
namespace Go.Proofs.Ytnklnfbalnooaaa
open Go.RowKit
set_option linter.unusedSimpArgs false
set_option linter.unusedVariables false
namespace Ob
theorem ints_at {w : World} {v : Value} {L : List Int} (h : HasF w v 1 icells L) : ∃ ao cap, v = .slice ao L.length cap ∧ ∀ k n, L[k]? = some n → ∃ b o, ao = some ⟨b, o, none⟩ ∧ w.cell? ⟨b, o + k, none⟩ = some (.int .i64 n) := by
  obtain ⟨ao, cap, e, h1, h2, h3⟩ := h.has
  subst e
  refine ⟨ao, cap, rfl, fun k n hk => ?_⟩
  have hl : k < L.length := (List.getElem?_eq_some_iff.1 hk).1
  obtain ⟨b, o, rfl, hb, hat⟩ := h.at (by omega)
  have c := hat k n hk 0 _ rfl
  rw [Nat.add_zero, Nat.mul_one] at c
  exact ⟨b, o, rfl, c⟩

set_option maxRecDepth 100000 in
set_option maxHeartbeats 8000000 in
theorem moves_any (x : RawH) (hx : x.Ok) (rv : Value) (m : Nat) (X : Nat → RawH) (now : Int) (w : World) (hR : RawsH w rv m X) :
    Calls Try.prog 4 #[.agg x.cells.toArray, rv, .int .i64 now] w fun e w' => e = .returned (.bool true) ∧ Only (fun _ => False) w w' := by
  obtain ⟨w1, k1, e1, ek1, hb1, o1, hs1⟩ := boxed w x.cells.toArray 27
  rw [List.toList_toArray] at hb1
  have HOB := hide (hObj_any x hx rv m X w1 (hR.same o1))
  have O1 := hide o1
  have HE1 := hide e1
  have HEK1 := hide ek1
  obtain ⟨o, ho⟩ : ∃ o, o = hO x m X := ⟨_, rfl⟩
  have HSM : Hid (Small o) := by rw [ho]; exact hO_small x m X
  rw [← ho] at HOB
  have hr1 := hb1.range 0 4
  rw [List.drop_zero, List.take_of_length_le (by show 4 ≤ 4; omega)] at hr1
  obtain ⟨dsr, hru, hrd⟩ := row_desc Try.rowRawH
  have hrs : (Try.prog.info? 27).map (·.size) = some x.cells.length := Try.sizeRawH
  obtain ⟨R, hRc⟩ : ∃ R, R = x.cells := ⟨_, rfl⟩
  rw [← hRc] at HE1 HOB hr1 hrs ⊢
  obtain ⟨ra, rc, erv, -⟩ := hR.shape
  clear hb1 o1 hs1 hR e1 ek1 ho hRc hx
  subst erv
  have P70 := hide (fun W => pick_any now 70 W (by decide) (by decide))
  obtain ⟨t, ht⟩ : ∃ t, t = now % 70 := ⟨_, rfl⟩
  have ht0 : 0 ≤ t := by rw [ht]; exact Int.emod_nonneg _ (by decide)
  have ht1 : t < 70 := by rw [ht]; exact Int.emod_lt_of_pos _ (by decide)
  have HW : Hid (W64 t) := by show W64 t; unfold W64; omega
  rw [← ht] at P70
  clear ht
  go_enter Try.func4, Try.ntmps4
  go_upto_region 1 with fail
  rw [← unhide HEK1, ← unhide HE1]
  clear HEK1 HE1
  go_wp2_with (refine wpList_load_mid rfl 27 (.tmp 3) rfl k1 0 rfl R dsr hr1 hru hrd hrs ?_)
  refine (unhide HOB).mono ?_
  rintro e w2 ⟨mv, nv, lv, cv, rfl, hin, hfr, o2⟩
  have hd := hin.ten
  unfold val
  obtain ⟨w3, ko, e3, eko, hb3, o3, ht3⟩ := made37 w2 (cells o mv nv lv cv) (cells_len _ _ _ _ _ hd)
  obtain ⟨dsc, hdu, hdr⟩ := row_desc Try.rowObj
  have HSZ := hide (size_cells o mv nv lv cv hd)
  have HSZA := hide (size_cellsA o mv nv lv cv hd)
  have HONE := hide hin.one
  have HR3 := hide (Bx.whole hb3 hd)
  have I3 := hide (hin.same o3)
  have OW : Hid (Only (fun _ => False) w w3) := ((unhide O1).trans o2 (fun _ _ e => e)).trans o3 (fun _ _ e => e)
  have HT3 := hide ht3
  have HE3 := hide e3
  have HEKO := hide eko
  have HD := hide hd
  have HDU := hide (fun w' => due_any o mv nv lv cv t w' hd)
  have HRD := hide (fun w' => rdue_any o mv nv lv cv t w' hd)
  have HNX := hide (fun w' => next_any o mv nv lv cv w' hd)
  have HRN := hide (fun w' => rnext_any o mv nv lv cv w' hd)
  have HMV := hide (fun w' (q : Only (fun _ => False) w3 w') => move_any o mv nv lv cv t w' ((unhide I3).same q) (unhide HSM) (unhide HW))
  have HRM := hide (fun w' (q : Only (fun _ => False) w3 w') => rmove_any o mv nv lv cv t w' ((unhide I3).same q) (unhide HW))
  have HRS := hide (fun w' a1 a2 a3 a4 (h1 : In w' (move o t) a1 a2 a3 a4) (h2 : In w' (move o t) mv nv lv cv) => rsame_eq (move o t) a1 a2 a3 a4 mv nv lv cv w' h1 h2)
  unfold val at HDU HRD HNX HRN HMV HRM HRS
  obtain ⟨C, hC⟩ : ∃ C, C = cells o mv nv lv cv := ⟨_, rfl⟩
  obtain ⟨D, hD⟩ : ∃ D, D = cells (move o t) mv nv lv cv := ⟨_, rfl⟩
  rw [← hC] at HSZ HSZA HONE HT3 HE3 HR3 HDU HRD HNX HRN HMV HRM ⊢
  rw [← hD] at HRM HRS
  clear hin hfr o2 hd hb3 o3 ht3 e3 eko hC hD O1 HOB hr1
  go_upto_region 2 with (refine wpList_store_mid rfl 39 (.tmp 7) (.tmp 18) rfl w2.heap.size 0 C.toArray rfl rfl (unhide HT3) (unhide HSZA) (unhide HONE) ?_)
  rw [zo_eq, ← unhide HE3, ← unhide HEKO]
  clear HE3 HEKO HT3 HONE HSZA
  go_wp2_with fail
  refine (unhide P70 _).mono ?_
  rintro e wx ⟨rfl, hwx⟩
  rw [hwx]
  clear hwx wx P70
  have hr3 := unhide HR3
  go_wp2_with (refine wpList_load_mid rfl 39 (.tmp 7) rfl ko 0 rfl C dsc hr3 hdu hdr (unhide HSZ) ?_)
  refine (unhide HDU w3).mono ?_
  rintro e w4 ⟨v, rfl, hown, o4⟩
  have F4 : Hid (HasF w4 v 1 icells (due o t)) := hasF_own hown (fun _ _ => rfl) rfl
  obtain ⟨vo, vc, rfl⟩ := ownsRow_shape hown
  have O4 := hide o4
  have hr4 := rangeAt_only (unhide HR3) o4 (fun e => e)
  clear hown o4 hr3
  go_wp2_with (refine wpList_load_mid rfl 39 (.tmp 7) rfl ko 0 rfl C dsc hr4 hdu hdr (unhide HSZ) ?_)
  refine (unhide HRD w4).mono ?_
  rintro e w5 ⟨u, rfl, hown, o5⟩
  have F5 : Hid (HasF w5 u 1 icells (due o t)) := hasF_own hown (fun _ _ => rfl) rfl
  obtain ⟨uo, uc, rfl⟩ := ownsRow_shape hown
  have F45 := hide ((unhide F4).same o5)
  have O5 := hide ((unhide O4).trans o5 (fun _ _ e => e))
  have hL2 : (due o t).length ≤ 2 := dueK_len o t 2
  clear hown o5 hr4 F4 O4 HDU HRD
  obtain ⟨n, hn⟩ : ∃ n, n = (due o t).length := ⟨_, rfl⟩
  have HN := hide hn
  rw [← hn] at hL2 F5 F45 ⊢
  clear hn
  go_wp2
  go_loopw [11] (fun i wr => ∃ k : Nat, k ≤ n ∧ i = .int .i64 k ∧ Hid (Only (fun _ => False) w5 wr)) (fun i _ => n - (intOf i).toNat)
  case atStart => exact ⟨0, Nat.zero_le _, rfl, Only.refl _ _⟩
  case round =>
    rename World => wr
    obtain ⟨k, hk, rfl, OR⟩ := hrel
    by_cases hlt : k < n
    case pos =>
      have hkz : (k : Int) < (n : Int) := by omega
      have hku : k < (due o t).length := by have := unhide HN; omega
      obtain ⟨z, hz⟩ : ∃ z, (due o t)[k]? = some z := ⟨_, List.getElem?_eq_getElem hku⟩
      obtain ⟨p1, q1, rfl, _, g1⟩ := (unhide F45).at (by omega)
      obtain ⟨p2, q2, rfl, _, g2⟩ := (unhide F5).at (by omega)
      have s1 := (unhide OR).cell (g1 k z hz 0 _ rfl) (fun e => e)
      have s2 := (unhide OR).cell (g2 k z hz 0 _ rfl) (fun e => e)
      rw [Nat.add_zero, Nat.mul_one] at s1 s2
      clear g1 g2 hz hku
      go_wp2_with fail
      go_quiet (fail)
      go_wp2
      go_roundw
      case rel => exact ⟨k + 1, by omega, by go_num, (unhide OR).drewN _⟩
      case measure => simp [intOf]; omega
    case neg =>
      obtain rfl : k = n := by omega
      have O6 := hide ((unhide O5).trans (unhide OR) (fun _ _ e => e))
      have hr6 := rangeAt_only (unhide HR3) (unhide O6) (fun e => e)
      go_wp2_with (refine wpList_load_mid rfl 39 (.tmp 7) rfl ko 0 rfl C dsc hr6 hdu hdr (unhide HSZ) ?_)
      refine (unhide HNX wr).mono ?_
      rintro e w7 ⟨rfl, o7⟩
      have O7 := hide ((unhide O6).trans o7 (fun _ _ e => e))
      have hr7 := rangeAt_only (unhide HR3) (unhide O7) (fun e => e)
      clear hr6 o7 O6
      go_wp2_with (refine wpList_load_mid rfl 39 (.tmp 7) rfl ko 0 rfl C dsc hr7 hdu hdr (unhide HSZ) ?_)
      refine (unhide HRN w7).mono ?_
      rintro e w8 ⟨rfl, o8⟩
      have O8 := hide ((unhide O7).trans o8 (fun _ _ e => e))
      generalize (nxt o).1 = a at *
      generalize (nxt o).2 = b at *
      clear hr7 o8 O7 HNX HRN
      have HR8 := hide (rangeAt_only (unhide HR3) (unhide O8) (fun e => e))
      go_upto_region 14 with fail
      have Q := hide ((Only.refl (fun _ => False) w8).drew)
      have HKN := hide (known_any w8.drew)
      refine wp_region_held_drew (S := (fun w' => Only (fun _ => False) w8 w')) (by kernel_rfl) ((Only.refl _ _).drew) (fun hHeld => ?_)
      refine wpAnyH_ready (rs := [0]) (by kernel_rfl) (by simp) ?_
      refine AllReadyH.cons rfl (fun K hK => ?_) AllReadyH.nil
      go_simp
      go_wp2_with fail; refine (unhide HKN).mono ?_; rintro e w9 ⟨rfl, o9⟩; have Q9 := hide ((unhide Q).trans o9 (fun _ _ e => e)); clear o9
      refine hK.out _ _ ((unhide Q9)) (fun hHeld => ?_)
      clear hK K
      try simp only [Act.put, List.setIfInBounds_toArray, List.set_cons_zero, List.set_cons_succ, List.getElem_toArray, List.getElem_cons_succ, List.getElem_cons_zero]
      refine wpAnyH_take (i := 1) (v := ?v1) rfl (by kernel_rfl) (by kernel_rfl) (by kernel_rfl) (fun _ _ _ h => h) (Or.inl ⟨by rfl, ?hy1⟩) (by assumption) ?rest1
      case hy1 =>
        intro w hSw
        go_simp
        try with_reducible rfl
      try simp only [Act.put, List.setIfInBounds_toArray, List.set_cons_zero, List.set_cons_succ, List.getElem_toArray, List.getElem_cons_succ, List.getElem_cons_zero]
      refine wpAnyH_take (i := 2) (v := ?v2) rfl (by kernel_rfl) (by kernel_rfl) (by kernel_rfl) (fun _ _ _ h => h) (Or.inl ⟨by rfl, ?hy2⟩) (by assumption) ?rest2
      case hy2 =>
        intro w hSw
        (refine exec_load_mid 39 (.tmp 7) ?_ ko 0 ?_ C dsc (rangeAt_only (unhide HR8) hSw (fun e => e)) hdu hdr (unhide HSZ) <;> rfl)
      try simp only [Act.put, List.setIfInBounds_toArray, List.set_cons_zero, List.set_cons_succ, List.getElem_toArray, List.getElem_cons_succ, List.getElem_cons_zero]
      refine wpAnyH_take (i := 3) (v := ?v3) rfl (by kernel_rfl) (by kernel_rfl) (by kernel_rfl) (fun _ _ _ h => h) (Or.inl ⟨by rfl, ?hy3⟩) (by assumption) ?rest3
      case hy3 =>
        intro w hSw
        go_simp
        try with_reducible rfl
      try simp only [Act.put, List.setIfInBounds_toArray, List.set_cons_zero, List.set_cons_succ, List.getElem_toArray, List.getElem_cons_succ, List.getElem_cons_zero]
      refine wpAnyH_take (i := 5) (v := ?v4) rfl (by kernel_rfl) (by kernel_rfl) (by kernel_rfl) (fun _ _ _ h => h) (Or.inl ⟨by rfl, ?hy4⟩) (by assumption) ?rest4
      case hy4 =>
        intro w hSw
        (refine exec_load_mid 39 (.tmp 7) ?_ ko 0 ?_ C dsc (rangeAt_only (unhide HR8) hSw (fun e => e)) hdu hdr (unhide HSZ) <;> rfl)
      try simp only [Act.put, List.setIfInBounds_toArray, List.set_cons_zero, List.set_cons_succ, List.getElem_toArray, List.getElem_cons_succ, List.getElem_cons_zero]
      refine wpAnyH_take (i := 6) (v := ?v5) rfl (by kernel_rfl) (by kernel_rfl) (by kernel_rfl) (fun _ _ _ h => h) (Or.inl ⟨by rfl, ?hy5⟩) (by assumption) ?rest5
      case hy5 =>
        intro w hSw
        go_simp
        try with_reducible rfl
      try simp only [Act.put, List.setIfInBounds_toArray, List.set_cons_zero, List.set_cons_succ, List.getElem_toArray, List.getElem_cons_succ, List.getElem_cons_zero]
      have HM9 := hide (unhide HMV w9 ((unhide O8).trans (unhide Q9) (fun _ _ e => e)))
      refine wpAnyH_ready (rs := [4]) (by kernel_rfl) (by simp) ?_
      refine AllReadyH.cons rfl (fun K hK => ?_) AllReadyH.nil
      go_simp
      go_wp2_with fail; refine (unhide HM9).mono ?_; rintro e wa ⟨a1, a2, a3, a4, rfl, hina, hfra, oa⟩; have QA := hide ((unhide Q9).trans oa (fun _ _ e => e)); have IA := hide hina; have HMA := hide (unhide HRM wa ((unhide O8).trans (unhide QA) (fun _ _ e => e))); clear oa hina hfra
      refine hK.out _ _ ((unhide QA)) (fun hHeld => ?_)
      clear hK K
      try simp only [Act.put, List.setIfInBounds_toArray, List.set_cons_zero, List.set_cons_succ, List.getElem_toArray, List.getElem_cons_succ, List.getElem_cons_zero]
      refine wpAnyH_ready (rs := [7]) (by kernel_rfl) (by simp) ?_
      refine AllReadyH.cons rfl (fun K hK => ?_) AllReadyH.nil
      go_simp
      go_wp2_with fail; refine (unhide HMA).mono ?_; rintro e wb ⟨rfl, hinb, ob⟩; have QB := hide ((unhide QA).trans ob (fun _ _ e => e)); have HSB := hide (unhide HRS wb a1 a2 a3 a4 ((unhide IA).same ob) hinb); clear ob hinb
      refine hK.out _ _ ((unhide QB)) (fun hHeld => ?_)
      clear hK K
      try simp only [Act.put, List.setIfInBounds_toArray, List.set_cons_zero, List.set_cons_succ, List.getElem_toArray, List.getElem_cons_succ, List.getElem_cons_zero]
      refine wpAnyH_ready (rs := [8]) (by kernel_rfl) (by simp) ?_
      refine AllReadyH.cons rfl (fun K hK => ?_) AllReadyH.nil
      go_simp
      go_wp2_with fail; refine (unhide HSB).mono ?_; rintro e wc ⟨rfl, oc⟩; have QC := hide ((unhide QB).trans oc (fun _ _ e => e)); clear oc
      refine hK.out _ _ ((unhide QC)) (fun hHeld => ?_)
      clear hK K
      try simp only [Act.put, List.setIfInBounds_toArray, List.set_cons_zero, List.set_cons_succ, List.getElem_toArray, List.getElem_cons_succ, List.getElem_cons_zero]
      refine wpAnyH_take (i := 9) (v := ?v6) rfl (by kernel_rfl) (by kernel_rfl) (by kernel_rfl) (fun _ _ _ h => h) (Or.inl ⟨by rfl, ?hy6⟩) (by assumption) ?rest6
      case hy6 =>
        intro w hSw
        (go_simp; try with_reducible rfl)
      try simp only [Act.put, List.setIfInBounds_toArray, List.set_cons_zero, List.set_cons_succ, List.getElem_toArray, List.getElem_cons_succ, List.getElem_cons_zero]
      refine wpAnyH_take (i := 10) (v := ?v7) rfl (by kernel_rfl) (by kernel_rfl) (by kernel_rfl) (fun _ _ _ h => h) (Or.inl ⟨by rfl, ?hy7⟩) (by assumption) ?rest7
      case hy7 =>
        intro w hSw
        go_simp
        try with_reducible rfl
      try simp only [Act.put, List.setIfInBounds_toArray, List.set_cons_zero, List.set_cons_succ, List.getElem_toArray, List.getElem_cons_succ, List.getElem_cons_zero]
      refine wpAnyH_take (i := 11) (v := ?v8) rfl (by kernel_rfl) (by kernel_rfl) (by kernel_rfl) (fun _ _ _ h => h) (Or.inl ⟨by rfl, ?hy8⟩) (by assumption) ?rest8
      case hy8 =>
        intro w hSw
        go_simp
        try with_reducible rfl
      try simp only [Act.put, List.setIfInBounds_toArray, List.set_cons_zero, List.set_cons_succ, List.getElem_toArray, List.getElem_cons_succ, List.getElem_cons_zero]
      refine wpAnyH_take (i := 12) (v := ?v9) rfl (by kernel_rfl) (by kernel_rfl) (by kernel_rfl) (fun _ _ _ h => h) (Or.inl ⟨by rfl, ?hy9⟩) (by assumption) ?rest9
      case hy9 =>
        intro w hSw
        go_simp
        try with_reducible rfl
      try simp only [Act.put, List.setIfInBounds_toArray, List.set_cons_zero, List.set_cons_succ, List.getElem_toArray, List.getElem_cons_succ, List.getElem_cons_zero]
      refine wpAnyH_take (i := 13) (v := ?v10) rfl (by kernel_rfl) (by kernel_rfl) (by kernel_rfl) (fun _ _ _ h => h) (Or.inl ⟨by rfl, ?hy10⟩) (by assumption) ?rest10
      case hy10 =>
        intro w hSw
        (go_simp; try with_reducible rfl)
      try simp only [Act.put, List.setIfInBounds_toArray, List.set_cons_zero, List.set_cons_succ, List.getElem_toArray, List.getElem_cons_succ, List.getElem_cons_zero]
      refine wpAnyH_take (i := 14) (v := ?v11) rfl (by kernel_rfl) (by kernel_rfl) (by kernel_rfl) (fun _ _ _ h => h) (Or.inl ⟨by rfl, ?hy11⟩) (by assumption) ?rest11
      case hy11 =>
        intro w hSw
        (go_simp; try with_reducible rfl)
      try simp only [Act.put, List.setIfInBounds_toArray, List.set_cons_zero, List.set_cons_succ, List.getElem_toArray, List.getElem_cons_succ, List.getElem_cons_zero]
      refine wpAnyH_take (i := 15) (v := ?v12) rfl (by kernel_rfl) (by kernel_rfl) (by kernel_rfl) (fun _ _ _ h => h) (Or.inl ⟨by rfl, ?hy12⟩) (by assumption) ?rest12
      case hy12 =>
        intro w hSw
        go_simp
        try with_reducible rfl
      try simp only [Act.put, List.setIfInBounds_toArray, List.set_cons_zero, List.set_cons_succ, List.getElem_toArray, List.getElem_cons_succ, List.getElem_cons_zero]
      refine wpAnyH_take (i := 16) (v := ?v13) rfl (by kernel_rfl) (by kernel_rfl) (by kernel_rfl) (fun _ _ _ h => h) (Or.inl ⟨by rfl, ?hy13⟩) (by assumption) ?rest13
      case hy13 =>
        intro w hSw
        go_simp
        try with_reducible rfl
      try simp only [Act.put, List.setIfInBounds_toArray, List.set_cons_zero, List.set_cons_succ, List.getElem_toArray, List.getElem_cons_succ, List.getElem_cons_zero]
      refine wpAnyH_take (i := 17) (v := ?v14) rfl (by kernel_rfl) (by kernel_rfl) (by kernel_rfl) (fun _ _ _ h => h) (Or.inl ⟨by rfl, ?hy14⟩) (by assumption) ?rest14
      case hy14 =>
        intro w hSw
        go_simp
        try with_reducible rfl
      try simp only [Act.put, List.setIfInBounds_toArray, List.set_cons_zero, List.set_cons_succ, List.getElem_toArray, List.getElem_cons_succ, List.getElem_cons_zero]
      refine wpAnyH_take (i := 18) (v := ?v15) rfl (by kernel_rfl) (by kernel_rfl) (by kernel_rfl) (fun _ _ _ h => h) (Or.inl ⟨by rfl, ?hy15⟩) (by assumption) ?rest15
      case hy15 =>
        intro w hSw
        (go_simp; try with_reducible rfl)
      try simp only [Act.put, List.setIfInBounds_toArray, List.set_cons_zero, List.set_cons_succ, List.getElem_toArray, List.getElem_cons_succ, List.getElem_cons_zero]
      refine wpAnyH_take (i := 19) (v := ?v16) rfl (by kernel_rfl) (by kernel_rfl) (by kernel_rfl) (fun _ _ _ h => h) (Or.inl ⟨by rfl, ?hy16⟩) (by assumption) ?rest16
      case hy16 =>
        intro w hSw
        (go_simp; try with_reducible rfl)
      try simp only [Act.put, List.setIfInBounds_toArray, List.set_cons_zero, List.set_cons_succ, List.getElem_toArray, List.getElem_cons_succ, List.getElem_cons_zero]
      refine wpAnyH_take (i := 20) (v := ?v17) rfl (by kernel_rfl) (by kernel_rfl) (by kernel_rfl) (fun _ _ _ h => h) (Or.inl ⟨by rfl, ?hy17⟩) (by assumption) ?rest17
      case hy17 =>
        intro w hSw
        go_simp
        try with_reducible rfl
      try simp only [Act.put, List.setIfInBounds_toArray, List.set_cons_zero, List.set_cons_succ, List.getElem_toArray, List.getElem_cons_succ, List.getElem_cons_zero]
      refine wpAnyH_done (by kernel_rfl) ?_ _
      go_wp2
      go_ret
      exact ⟨rfl, ((unhide OW).trans (unhide O8) (fun _ _ e => e)).trans (unhide QC) (fun _ _ e => e)⟩
end Ob
end Go.Proofs.Ytnklnfbalnooaaa
