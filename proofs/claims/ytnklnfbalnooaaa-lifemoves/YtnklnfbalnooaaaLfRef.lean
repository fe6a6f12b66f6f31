/-
  The reference's Due, Next, Move.
-/
import Derived.Test.YtnklnfbalnooaaaLfVar
import Derived.Test.YtnklnfbalnooaaaObGrd
namespace Go.Proofs.Ytnklnfbalnooaaa
open Go.RowKit
set_option linter.unusedSimpArgs false
set_option linter.unusedVariables false
namespace Ob

set_option maxRecDepth 100000 in
theorem rdate_any (t : Int) (w : World) :
    Calls Try.prog 26 #[.int .i64 t] w fun e w' => e = .returned (.agg #[.bool true, .int .i64 t]) ∧ Only (fun _ => False) w w' := by
  go_enter Try.func26, Try.ntmps26
  go_wp2
  refine bodyPost_ret (results_st rfl _ _ w.heap.size 31 _ (0, 0) rfl (Bx.new w 31 [.bool true, .int .i64 t]) Try.rowOn Try.sizeOn) rfl ?_
  exact ⟨rfl, (Only.refl _ w).alloc _⟩

set_option maxRecDepth 100000 in
set_option maxHeartbeats 4000000 in
theorem rat_any (i : Nat) (hi : i < 10) (o : Ob) (mv nv lv cv : Value) (t : Int) (w : World) (hd : o.dates.length = 10) :
    Calls Try.prog 23 #[.agg #[.int .i64 i, .int .i64 t], val o mv nv lv cv] w fun e w' => e = .returned (.bool (isAt (dget o i) t)) ∧ Only (fun _ => False) w w' := by
  obtain ⟨w1, k1, e1, ek1, hb1, o1, hs1⟩ := boxed w #[.int .i64 i, .int .i64 t] 68
  obtain ⟨w2, k2, e2, ek2, hb2, o2, hs2⟩ := boxed w1 (cells o mv nv lv cv).toArray 39
  rw [List.toList_toArray] at hb2
  have hiz : (i : Int) < 10 := by omega
  have d0 := (hb1.same o2).cell 0 (.int .i64 i) rfl
  have d1 := (hb1.same o2).cell 1 (.int .i64 t) rfl
  have hdt := get_date o mv nv lv cv hd i hi
  have c0 := hb2.cell _ _ hdt.1
  have c1 := hb2.cell _ _ hdt.2
  have HR : Hid (isAt (dget o i) t = ((o.dates.getD i (false, 0)).1 && decide ((o.dates.getD i (false, 0)).2 ≤ t))) := rfl
  generalize (o.dates.getD i (false, 0)).1 = b at *
  generalize (o.dates.getD i (false, 0)).2 = d at *
  have O2 := hide (o1.trans o2 (fun _ _ e => e))
  have HE1 := hide e1
  have HEK1 := hide ek1
  have HE2 := hide e2
  have HEK2 : Hid (k1 + 1 = k2) := by show _ = _; omega
  unfold val
  obtain ⟨A, hA⟩ : ∃ A, A = cells o mv nv lv cv := ⟨_, rfl⟩
  rw [← hA] at HE2 ⊢
  clear hA hb1 hb2 o1 o2 e1 ek1 e2 ek2 hs1 hs2 hdt hd hi
  go_enter Try.func23, Try.ntmps23
  go_upto_region 1 with fail
  rw [← unhide HEK1, ← unhide HE1, unhide HEK2, ← unhide HE2]
  clear HE1 HEK1 HE2 HEK2
  cases b with
  | false =>
    go_wp2_with fail
    go_quiet (fail)
    go_wp2
    go_ret
    exact ⟨by rw [unhide HR]; rfl, (unhide O2).drewN _⟩
  | true =>
    go_wp2_with fail
    go_quiet (fail)
    go_wp2
    go_ret
    exact ⟨by rw [unhide HR]; rfl, (unhide O2).drewN _⟩

set_option maxRecDepth 100000 in
set_option maxHeartbeats 4000000 in
theorem rnext_any (o : Ob) (mv nv lv cv : Value) (w : World) (hd : o.dates.length = 10) :
    Calls Try.prog 14 #[val o mv nv lv cv] w fun e w' => e = .returned (.tuple #[.int .i64 (nxt o).1, .bool (nxt o).2]) ∧ Only (fun _ => False) w w' := by
  obtain ⟨w1, k1, e1, ek1, hb1, o1, hs1⟩ := boxed w (cells o mv nv lv cv).toArray 39
  rw [List.toList_toArray] at hb1
  have c6 := hb1.cell 6 _ (cell_state o mv nv lv cv)
  have hd1 := get_date o mv nv lv cv hd 1 (by decide)
  have hd4 := get_date o mv nv lv cv hd 4 (by decide)
  have a1 := hb1.cell 9 (.bool (dget o 1).1) hd1.1
  have b1 := hb1.cell 10 (.int .i64 (dget o 1).2) hd1.2
  have a4 := hb1.cell 15 (.bool (dget o 4).1) hd4.1
  have b4 := hb1.cell 16 (.int .i64 (dget o 4).2) hd4.2
  have HN : Hid (nxt o = if decide (o.state = 1) && (dget o 1).1 then ((dget o 1).2, true) else if decide (o.state = 2) && (dget o 4).1 then ((dget o 4).2, true) else (0, false)) := rfl
  generalize o.state = S at *
  generalize (dget o 1).1 = p1 at *
  generalize (dget o 1).2 = q1 at *
  generalize (dget o 4).1 = p4 at *
  generalize (dget o 4).2 = q4 at *
  have O1 := hide o1
  have HE1 := hide e1
  have HEK1 := hide ek1
  unfold val
  obtain ⟨A, hA⟩ : ∃ A, A = cells o mv nv lv cv := ⟨_, rfl⟩
  rw [← hA] at HE1 ⊢
  clear hA hb1 o1 e1 ek1 hs1 hd1 hd4 hd
  go_enter Try.func14, Try.ntmps14
  go_upto_region 1 with fail
  rw [← unhide HEK1, ← unhide HE1]
  clear HE1 HEK1
  by_cases s1 : S = 1
  · subst s1
    cases p1 with
    | true =>
      go_wp2
      refine bodyPost_ret (results_tmp2 rfl _ _ _) rfl ?_
      exact ⟨by rw [unhide HN]; rfl, unhide O1⟩
    | false =>
      go_wp2
      refine bodyPost_ret (results_tmp2 rfl _ _ _) rfl ?_
      exact ⟨by rw [unhide HN]; rfl, unhide O1⟩
  · by_cases s2 : S = 2
    · subst s2
      cases p4 with
      | true =>
        go_wp2
        refine bodyPost_ret (results_tmp2 rfl _ _ _) rfl ?_
        exact ⟨by rw [unhide HN]; rfl, unhide O1⟩
      | false =>
        go_wp2
        refine bodyPost_ret (results_tmp2 rfl _ _ _) rfl ?_
        exact ⟨by rw [unhide HN]; rfl, unhide O1⟩
    · have HS1 : Hid (decide (S = 1) = false) := decide_eq_false s1
      have HS2 : Hid (decide (S = 2) = false) := decide_eq_false s2
      go_wp2
      refine bodyPost_ret (results_tmp2 rfl _ _ _) rfl ?_
      exact ⟨by rw [unhide HN, unhide HS1, unhide HS2]; rfl, unhide O1⟩
set_option maxRecDepth 100000 in
set_option maxHeartbeats 8000000 in
theorem rdue_any (o : Ob) (mv nv lv cv : Value) (t : Int) (w : World) (hd : o.dates.length = 10) :
    Calls Try.prog 12 #[val o mv nv lv cv, .int .i64 t] w fun e w' => ∃ v, e = .returned v ∧ w'.ownsRow w.heap.size 3 1 v (due o t).length ((due o t).flatMap icells) ∧ Only (fun _ => False) w w' := by
  obtain ⟨w1, k1, e1, ek1, hb1, o1, hs1⟩ := boxed w (cells o mv nv lv cv).toArray 39
  rw [List.toList_toArray] at hb1
  have c6 := hb1.cell 6 _ (cell_state o mv nv lv cv)
  have f6 := hb1.free 6
  have HG1 : Hid (go1 o t = (decide (o.state = 1) && isAt (dget o 1) t)) := rfl
  have HG2 : Hid (go2 o t = (decide (st1 o t = 2) && isAt (dget o 4) t)) := rfl
  have HDU : Hid (due o t = (if go1 o t then [2] else []) ++ (if go2 o t then [3] else [])) := rfl
  have HST : Hid (st1 o t = if go1 o t then 2 else o.state) := rfl
  have HD := hide hd
  have HB := hide hb1
  have O1 := hide o1
  have HE1 := hide e1
  have HEK1 := hide ek1
  have hk1 : w.heap.size ≤ k1 := by omega
  have HL := hide hb1.lt
  have R1 := hide (Bx.whole hb1 hd)
  have HSZ := hide (size_cells o mv nv lv cv hd)
  obtain ⟨dsc, hdu, hdr⟩ := row_desc Try.rowObj
  have HA1 := hide (fun w' => rat_any 1 (by decide) o mv nv lv cv t w' hd)
  have HA4 := hide (fun w' => rat_any 4 (by decide) o mv nv lv cv t w' hd)
  have HA42 := hide (fun w' => rat_any 4 (by decide) { o with state := 2 } mv nv lv cv t w' hd)
  have H42 : Hid (dget { o with state := 2 } 4 = dget o 4) := rfl
  rw [unhide H42] at HA42
  obtain ⟨A, hA⟩ : ∃ A, A = cells o mv nv lv cv := ⟨_, rfl⟩
  obtain ⟨A2, hA2⟩ : ∃ A, A = cells { o with state := 2 } mv nv lv cv := ⟨_, rfl⟩
  have HS2 : Hid (A.set 6 (.int .i64 2) = A2) := by rw [hA, hA2]; exact set_state o mv nv lv cv hd 2
  unfold val at HA1 HA4 HA42 ⊢
  have HSZ2 : Hid ((Try.prog.info? 39).map (·.size) = some A2.length) := by show _ = _; rw [hA2, cells_len { o with state := 2 } mv nv lv cv hd]; exact Try.sizeObj
  have HA2L : Hid (A2.length = 37) := by rw [hA2]; exact cells_len { o with state := 2 } mv nv lv cv hd
  have HA26 : Hid (A2[6]? = some (.int .i64 2)) := by rw [hA2]; exact cell_state { o with state := 2 } mv nv lv cv
  rw [← hA] at HE1 HB R1 HSZ HA1 HA4 ⊢
  rw [← hA2] at HA42
  obtain ⟨S, hS⟩ : ∃ S, S = o.state := ⟨_, rfl⟩
  obtain ⟨b1, hb1'⟩ : ∃ b, b = isAt (dget o 1) t := ⟨_, rfl⟩
  obtain ⟨b4, hb4'⟩ : ∃ b, b = isAt (dget o 4) t := ⟨_, rfl⟩
  rw [← hS] at c6 HG1 HST
  rw [← hb1'] at HA1 HG1
  rw [← hb4'] at HA4 HA42 HG2
  clear hA hA2 hb1 o1 e1 ek1 hs1 hd hS hb1' hb4'
  go_enter Try.func12, Try.ntmps12
  go_upto_region 2 with fail
  rw [← unhide HEK1, ← unhide HE1]
  clear HE1 HEK1
  by_cases s1 : S = 1
  · subst s1
    go_wp2_with (refine wpList_load_g (by rfl) 39 (.tmp 2) rfl k1 0 rfl A dsc (unhide R1) hdu hdr (unhide HSZ) ?_)
    refine (unhide HA1 w1).mono ?_
    rintro e w2 ⟨rfl, o2⟩
    have O2 := hide ((unhide O1).trans o2 (fun _ _ e => e))
    have HB2 := hide ((unhide HB).same o2)
    have c62 := o2.cell c6 (fun e => e)
    have f62 := (unhide HB2).free 6
    have hL2 := (unhide HB2).lt
    clear o2 c6 f6
    cases b1 with
    | false =>
      have HF1 : Hid (go1 o t = false) := by show _ = _; rw [unhide HG1]; rfl
      have HF2 : Hid (go2 o t = false) := by show _ = _; rw [unhide HG2, unhide HST, unhide HF1]; rfl
      have HV : Hid (due o t = []) := by show _ = _; rw [unhide HDU, unhide HF1, unhide HF2]; rfl
      go_wp2
      go_ret
      exact ⟨_, rfl, by rw [unhide HV]; exact World.ownsRow_nil _ _ _ _, unhide O2⟩
    | true =>
      have HF1 : Hid (go1 o t = true) := by show _ = _; rw [unhide HG1]; rfl
      obtain ⟨x3, g3, uo3, uc3, y3, e4, eg, hrun, own3, q3, at3⟩ := appI (x := w2) (v := .slice none 0 0) (L := []) (base := w.heap.size) (World.ownsRow_nil _ _ _ _) (unhide O2).size (by decide) 2
      have OWN3 := hide own3
      have q3' : Only (fun _ => False) w2 y3 := q3.mono (fun j _ e => by cases e)
      have O3 := hide ((unhide O2).trans q3' (fun _ _ e => e))
      have HB3 := hide ((unhide HB2).same q3')
      have c63 := q3'.cell c62 (fun e => e)
      have f63 := (unhide HB3).free 6
      have HE4 := hide e4
      have HEG := hide eg
      have HRUN := hide hrun
      have HBK3 : Hid (∀ j, blk (.slice uo3 1 uc3) = some j → w2.heap.size ≤ j) := fun j hj => by
        rcases at3 with e | h
        · have e' : blk (.slice uo3 1 uc3) = none := e
          rw [e'] at hj; cases hj
        · exact h j hj
      have HL2 := hide hL2
      clear e4 eg hrun own3 q3 q3' c62 f62 hL2 at3
      go_upto_region 4 with (first | (at_builtin; rw [← unhide HE4, ← unhide HEG]; refine wpList_app rfl (.tmp 15) (.tmp 16) 41 rfl (.slice none 0 0) (.slice (some ⟨g3, 0, none⟩) 1 1) _ y3 rfl rfl (unhide HRUN) ?_))
      clear HE4 HEG HRUN
      have q4 : Only (fun j => j = k1) y3 (y3.setCell ⟨k1, 6, none⟩ (.int .i64 2)) := (Only.refl _ _).here _ _
      have HB4 : Hid (Bx (y3.setCell ⟨k1, 6, none⟩ (.int .i64 2)) k1 39 A2) := by rw [← unhide HS2]; exact (unhide HB3).set 6 _
      have O4 : Hid (Only (fun _ => False) w (y3.setCell ⟨k1, 6, none⟩ (.int .i64 2))) := (unhide O3).trans q4 (fun j hj e => by omega)
      have OWN4 : Hid ((y3.setCell ⟨k1, 6, none⟩ (.int .i64 2)).ownsRow w.heap.size 3 1 (.slice uo3 1 uc3) [2].length ([2].flatMap icells)) := q4.owns (unhide OWN3) (fun j hj e => by have h1 := unhide HBK3 j ((own_blk (unhide OWN3)).symm.trans hj); have h2 := unhide HL2; omega)
      go_upto_region 5 with fail
      generalize (y3.setCell ⟨k1, 6, none⟩ (.int .i64 2)) = w4 at *
      have c64 := (unhide HB4).cell 6 (.int .i64 2) (by exact unhide HA26)
      have hr4 := (unhide HB4).range 0 37
      rw [List.drop_zero, List.take_of_length_le (by rw [unhide HA2L]; omega)] at hr4
      clear c63 f63 q4 HB3 O3 OWN3
      go_wp2_with (refine wpList_load_g (by rfl) 39 (.tmp 2) rfl k1 0 rfl A2 dsc hr4 hdu hdr (unhide HSZ2) ?_)
      refine (unhide HA42 w4).mono ?_
      rintro e w5 ⟨rfl, o5⟩
      have O5 := hide ((unhide O4).trans o5 (fun _ _ e => e))
      have OWN5 := hide (o5.owns (unhide OWN4) (fun _ _ e => e))
      clear o5 hr4 c64
      cases b4 with
      | false =>
        have HF2 : Hid (go2 o t = false) := by show _ = _; rw [unhide HG2, Bool.and_false]
        have HV : Hid (due o t = [2]) := by show _ = _; rw [unhide HDU, unhide HF1, unhide HF2]; rfl
        go_wp2
        go_ret
        exact ⟨_, rfl, by rw [unhide HV]; exact unhide OWN5, unhide O5⟩
      | true =>
        have HF2 : Hid (go2 o t = true) := by show _ = _; rw [unhide HG2, unhide HST, unhide HF1]; rfl
        obtain ⟨x6, g6, uo6, uc6, y6, e4, eg, hrun, own6, q6, -⟩ := appI (unhide OWN5) (unhide O5).size (by decide) 3
        have OWN6 := hide own6
        have O6 := hide ((unhide O5).trans (T := fun j => blk (.slice uo3 1 uc3) = some j) q6 (fun j hj e => by have := (own_lt (unhide OWN5) j e).1; omega))
        have HE4 := hide e4
        have HEG := hide eg
        have HRUN := hide hrun
        clear e4 eg hrun own6 q6
        go_upto_region 7 with (first | (at_builtin; rw [← unhide HE4, ← unhide HEG]; refine wpList_app rfl (.tmp 28) (.tmp 29) 41 rfl (.slice uo3 1 uc3) (.slice (some ⟨g6, 0, none⟩) 1 1) _ y6 rfl rfl (unhide HRUN) ?_))
        have HV : Hid (due o t = [2, 3]) := by show _ = _; rw [unhide HDU, unhide HF1, unhide HF2]; rfl
        go_wp2
        go_ret
        exact ⟨_, rfl, by rw [unhide HV]; exact unhide OWN6, unhide O6⟩
  · have HF1 : Hid (go1 o t = false) := by show _ = _; rw [unhide HG1, decide_eq_false s1]; rfl
    by_cases s2 : S = 2
    · subst s2
      go_wp2_with (refine wpList_load_g (by rfl) 39 (.tmp 2) rfl k1 0 rfl A dsc (unhide R1) hdu hdr (unhide HSZ) ?_)
      refine (unhide HA4 w1).mono ?_
      rintro e w5 ⟨rfl, o5⟩
      have O5 := hide ((unhide O1).trans o5 (fun _ _ e => e))
      clear o5 c6 f6
      cases b4 with
      | false =>
        have HF2 : Hid (go2 o t = false) := by show _ = _; rw [unhide HG2, Bool.and_false]
        have HV : Hid (due o t = []) := by show _ = _; rw [unhide HDU, unhide HF1, unhide HF2]; rfl
        go_wp2
        go_ret
        exact ⟨_, rfl, by rw [unhide HV]; exact World.ownsRow_nil _ _ _ _, unhide O5⟩
      | true =>
        have HF2 : Hid (go2 o t = true) := by show _ = _; rw [unhide HG2, unhide HST, unhide HF1]; rfl
        obtain ⟨x6, g6, uo6, uc6, y6, e4, eg, hrun, own6, q6, -⟩ := appI (x := w5) (v := .slice none 0 0) (L := []) (base := w.heap.size) (World.ownsRow_nil _ _ _ _) (unhide O5).size (by decide) 3
        have OWN6 := hide own6
        have O6 := hide ((unhide O5).trans (T := fun j => blk (.slice none 0 0) = some j) q6 (fun j hj e => by cases e))
        have HE4 := hide e4
        have HEG := hide eg
        have HRUN := hide hrun
        clear e4 eg hrun own6 q6
        go_upto_region 7 with (first | (at_builtin; rw [← unhide HE4, ← unhide HEG]; refine wpList_app rfl (.tmp 28) (.tmp 29) 41 rfl (.slice none 0 0) (.slice (some ⟨g6, 0, none⟩) 1 1) _ y6 rfl rfl (unhide HRUN) ?_))
        have HV : Hid (due o t = [3]) := by show _ = _; rw [unhide HDU, unhide HF1, unhide HF2]; rfl
        go_wp2
        go_ret
        exact ⟨_, rfl, by rw [unhide HV]; exact unhide OWN6, unhide O6⟩
    · have HF2 : Hid (go2 o t = false) := by show _ = _; rw [unhide HG2, unhide HST, unhide HF1]; simp [s2]
      have HV : Hid (due o t = []) := by show _ = _; rw [unhide HDU, unhide HF1, unhide HF2]; rfl
      go_wp2
      go_ret
      exact ⟨_, rfl, by rw [unhide HV]; exact World.ownsRow_nil _ _ _ _, unhide O1⟩

end Ob
end Go.Proofs.Ytnklnfbalnooaaa
