/-
  The reference's Activate, Destroy, Archive, Recover.
-/
import Derived.Test.YtadpmninoghcjaaDoorLfRef
import Derived.Test.YtadpmninoghcjaaDoorLfSpec
import Derived.Test.YtadpmninoghcjaaDoorLfMove
namespace Go.Proofs.YtadpmninoghcjaaDoor
open Go.RowKit
set_option linter.unusedSimpArgs false
set_option linter.unusedVariables false
namespace Ob
/-- what one of the reference's calls answers: the lists may be those that were handed in -/
def RAns (w w' : World) (e : Ending) (o : Ob) (r : Int) (H : Nat → Prop) : Prop := ∃ mv nv lv cv, e = .returned (.tuple #[val o mv nv lv cv, .int .i64 r]) ∧ In w' o mv nv lv cv ∧ Only (fun _ => False) w w' ∧ ∀ k, H k → Apart o mv nv lv cv k
theorem in_dput {w : World} {o : Ob} {mv nv lv cv : Value} (h : In w o mv nv lv cv) (i : Nat) (d : Bool × Int) (hd2 : W64 d.2) : In w (dput o i d) mv nv lv cv :=
  ⟨h.mat, h.names, h.links, h.custom, (by show (List.set _ _ _).length = 10; rw [List.length_set]; exact h.ten), h.ints, (fun e he => by rcases List.mem_or_eq_of_mem_set he with he | rfl; exact h.dats e he; exact hd2), h.lks, h.strs⟩
theorem in_state {w : World} {o : Ob} {mv nv lv cv : Value} (h : In w o mv nv lv cv) (n : Int) (hn : W64 n) : In w { o with state := n } mv nv lv cv :=
  ⟨h.mat, h.names, h.links, h.custom, h.ten, ⟨h.ints.1, h.ints.2.1, h.ints.2.2.1, h.ints.2.2.2.1, hn, h.ints.2.2.2.2.2⟩, h.dats, h.lks, h.strs⟩
theorem in_arch {w : World} {o : Ob} {mv nv lv cv : Value} (h : In w o mv nv lv cv) (b : Bool) : In w { o with arch := b } mv nv lv cv := ⟨h.mat, h.names, h.links, h.custom, h.ten, h.ints, h.dats, h.lks, h.strs⟩
theorem in_mat0 {w : World} {o : Ob} {mv nv lv cv : Value} (h : In w o mv nv lv cv) : In w { o with mat := [] } (.slice none 0 0) nv lv cv := ⟨Or.inl ⟨rfl, rfl⟩, h.names, h.links, h.custom, h.ten, h.ints, h.dats, h.lks, h.strs⟩
theorem in_whenD {w : World} {o : Ob} {mv nv lv cv : Value} (h : In w o mv nv lv cv) : In w { o with state := whenD o } mv nv lv cv := by
  have hw : whenD o = 5 ∨ whenD o = 6 := by unfold whenD; split <;> simp
  exact in_state h _ (by rcases hw with e | e <;> rw [e] <;> exact ⟨by decide, by decide⟩)
set_option maxRecDepth 100000 in
theorem no_any (r : Int) (w : World) :
    Calls Tryd.prog 31 #[.int .i64 r] w fun e w' => e = .returned (.tuple #[.agg Zo.toArray, .int .i64 r]) ∧ Only (fun _ => False) w w' := by
  obtain ⟨w1, k1, e1, ek1, hb1, o1, hs1⟩ := boxed w Zo.toArray 32
  rw [List.toList_toArray] at hb1
  have HT := hide (bx_there hb1 Zo.toArray.size rfl)
  have HFB : Hid (Bx (w1.setCells k1 0 Zo) k1 32 Zo) := setCells_bx hb1 Zo rfl
  have OF : Hid (Only (fun _ => False) w (w1.setCells k1 0 Zo)) := Only.setCells (fun h => absurd h (by omega)) _ _ _ o1
  have HE1 := hide e1
  have HEK1 := hide ek1
  clear hb1 o1 hs1 e1 ek1
  go_enter Tryd.func31, Tryd.ntmps31
  go_upto_region 1 with fail
  rw [zo_eq, ← unhide HEK1, ← unhide HE1]
  clear HE1 HEK1
  go_wp2_with (refine wpList_store_mid rfl 32 (.tmp 2) (.tmp 4) rfl k1 0 Zo.toArray rfl rfl (unhide HT) Tryd.sizeObj zo_one ?_)
  refine bodyPost_ret (results_st2 rfl _ _ k1 32 Zo.toArray rfl (unhide HFB) Tryd.rowObjM Tryd.sizeObj) rfl ?_
  exact ⟨rfl, unhide OF⟩
set_option maxRecDepth 100000 in
set_option maxHeartbeats 8000000 in
theorem ractivate_any (o : Ob) (mv nv lv cv : Value) (t : Int) (w : World) (I : In w o mv nv lv cv) (ht : W64 t) (hs1 : 1 ≤ o.state) (hs6 : o.state ≤ 6) :
    Calls Tryd.prog 17 #[val o mv nv lv cv, .int .i64 t] w fun e w' => RAns w w' e (told (actE o) (actU o t)) (actE o) (Apart o mv nv lv cv) := by
  have hd := I.ten
  obtain ⟨w1, k1, e1, ek1, hb1, o1, hz1⟩ := boxed w (cells o mv nv lv cv).toArray 32
  obtain ⟨w2, k2, e2, ek2, hb2, o2, hz2⟩ := boxed w1 Zo.toArray 32
  rw [List.toList_toArray] at hb1
  have OW := hide (o1.trans o2 (fun _ _ e => e))
  have HB0 := hide (hb1.same o2)
  have HZ : Hid (Bx w2 k2 32 Zo) := hb2
  have hk1 : w.heap.size ≤ k1 := by omega
  have hk2 : k1 < k2 := by omega
  have HI := hide I
  have HD0 := hide hd
  have HT := hide ht
  have HE1 := hide e1
  have HEK1 := hide ek1
  have HE2 := hide e2
  have HK12 : Hid (k1 + 1 = k2) := by show _ = _; omega
  have Q0 : Hid (Only (fun j => j = k1) w2 w2) := Only.refl _ _
  have ca := (unhide HB0).cell 36 _ (cells_back o mv nv lv cv hd 9)
  have c6 := (unhide HB0).cell 6 _ (cell_state o mv nv lv cv)
  obtain ⟨dsc, hdu, hdr⟩ := row_desc Tryd.rowObj
  have hst : o.state = 1 ∨ o.state = 2 ∨ o.state = 3 ∨ o.state = 4 ∨ o.state = 5 ∨ o.state = 6 := by omega
  unfold val
  obtain ⟨A, hA⟩ : ∃ A, A = cells o mv nv lv cv := ⟨_, rfl⟩
  rw [← hA] at HE1 ⊢
  clear hA hb1 hb2 o1 o2 e1 ek1 e2 ek2 hz1 hz2 hd I ht hs1 hs6
  go_enter Tryd.func17, Tryd.ntmps17
  go_upto_region 1 with fail
  rw [zo_eq, ← unhide HE1, ← unhide HEK1, ← unhide HE2, unhide HK12]
  clear HE1 HEK1 HE2
  cases ha : o.arch with
  | true =>
    rw [ha] at ca
    have HE : Hid (actE o = 13) := by show _ = _; unfold actE; rw [ha]; rfl
    clear c6 hst ha
    have HNO := hide (no_any 13 w2)
    go_wp2_with fail
    refine (unhide HNO).mono ?_
    rintro e y ⟨rfl, oy⟩
    have hzy := ((unhide HZ).only (unhide Q0) (by show ¬ k2 = k1; omega)).same oy
    obtain ⟨hth, hfb, hin, hof⟩ := fin37 (in_zero y) (fun j hj => by simp [blk] at hj) hzy (cs0 := Zo) rfl
    rw [← zo_cells] at hth hfb hin hof
    have OF : Hid (Only (fun _ => False) w (y.setCells k2 0 Zo)) := (((unhide OW).trans (T := fun j => j = k1) (unhide Q0) (fun j hj e => by omega)).trans oy (fun _ _ e => e)).trans (T := fun j => j = k2) hof (fun j hj e => by omega)
    have HTH := hide hth
    have HFB := hide hfb
    have HIN := hide hin
    clear hth hfb hin hof hzy oy HNO
    go_wp2_with (refine wpList_store_mid rfl 32 (.tmp 4) (.tmp 10) rfl k2 0 Zo.toArray rfl rfl (unhide HTH) Tryd.sizeObj zo_one ?_)
    refine bodyPost_ret (results_st2 rfl _ _ k2 32 Zo.toArray rfl (unhide HFB) Tryd.rowObjM Tryd.sizeObj) rfl ?_
    exact ⟨.slice none 0 0, .slice none 0 0, .slice none 0 0, .slice none 0 0, by rw [unhide HE]; rfl, by rw [unhide HE]; exact unhide HIN, unhide OF, fun k _ => by rw [unhide HE]; exact (⟨fun g => absurd rfl g, fun g => absurd rfl g, fun g => absurd rfl g, fun g => absurd rfl g⟩ : Apart zero _ _ _ _ k)⟩
  | false =>
    rw [ha] at ca
    rcases hst with hst | hst | hst | hst | hst | hst
    · as_aux_lemma =>
      rw [hst] at c6
      have HE : Hid (actE o = 0) := by show _ = _; unfold actE; rw [ha, hst]; rfl
      clear ha hst
      go_upto_region 5 with fail
      clear ca c6
      have cS := (unhide HB0).cell 6 _ (cell_state o mv nv lv cv)
      have fS := (unhide HB0).free 6
      obtain ⟨P1, hP1⟩ : ∃ P, P = ({ o with state := 2 } : Ob) := ⟨_, rfl⟩
      have HB1 : Hid (Bx (w2.setCell ⟨k1, 6, none⟩ (.int .i64 2)) k1 32 (cells P1 mv nv lv cv)) := by
        have h := (unhide HB0).set 6 ((.int .i64 2))
        rw [set_state o mv nv lv cv (unhide HD0) 2, ← hP1] at h
        exact h
      have HD1 : Hid (P1.dates.length = 10) := by rw [hP1]; exact unhide HD0
      have HP1 := hide hP1
      have Q1 : Hid (Only (fun j => j = k1) w2 (w2.setCell ⟨k1, 6, none⟩ (.int .i64 2))) := (unhide Q0).here _ _
      clear hP1 HB0 Q0 HD0
      go_upto_region 6 with fail
      generalize (w2.setCell ⟨k1, 6, none⟩ (.int .i64 2)) = x1 at *
      clear cS fS
      have HON := hide (rdate_any t x1)
      go_wp2_with fail
      refine (unhide HON).mono ?_
      rintro e y1 ⟨rfl, oy⟩
      have HBy := hide ((unhide HB1).same oy)
      have QY := hide ((unhide Q1).trans oy (fun _ _ e => e.elim))
      clear oy HON
      have hdy := get_date P1 mv nv lv cv (unhide HD1) 1 (by decide)
      have ca := (unhide HBy).cell 9 _ hdy.1
      have cb := (unhide HBy).cell 10 _ hdy.2
      have fy := (unhide HBy).free
      obtain ⟨P2, hP2⟩ : ∃ P, P = dput P1 1 (true, t) := ⟨_, rfl⟩
      have HB2 : Hid (Bx ((y1.setCell ⟨k1, 9, none⟩ (.bool true)).setCell ⟨k1, 10, none⟩ (.int .i64 t)) k1 32 (cells P2 mv nv lv cv)) := by
        have h := setCells_blk [.bool true, .int .i64 t] y1 9 _ (unhide HBy)
        rw [set_date P1 mv nv lv cv (unhide HD1) 1 (by decide) true t] at h
        rw [hP2]
        exact h
      have HD2 : Hid (P2.dates.length = 10) := by rw [hP2]; show (List.set _ _ _).length = 10; rw [List.length_set]; exact unhide HD1
      have HP2 := hide hP2
      have Q2 : Hid (Only (fun j => j = k1) w2 ((y1.setCell ⟨k1, 9, none⟩ (.bool true)).setCell ⟨k1, 10, none⟩ (.int .i64 t))) := ((unhide QY).here _ _).here _ _
      clear hP2 hdy HB1 Q1 HD1
      go_upto_region 7 with fail
      generalize ((y1.setCell ⟨k1, 9, none⟩ (.bool true)).setCell ⟨k1, 10, none⟩ (.int .i64 t)) = x2 at *
      clear ca cb fy
      clear HBy QY
      have HON := hide (rdate_any t x2)
      go_wp2_with fail
      refine (unhide HON).mono ?_
      rintro e y2 ⟨rfl, oy⟩
      have HBy := hide ((unhide HB2).same oy)
      have QY := hide ((unhide Q2).trans oy (fun _ _ e => e.elim))
      clear oy HON
      have hdy := get_date P2 mv nv lv cv (unhide HD2) 9 (by decide)
      have ca := (unhide HBy).cell 25 _ hdy.1
      have cb := (unhide HBy).cell 26 _ hdy.2
      have fy := (unhide HBy).free
      obtain ⟨P3, hP3⟩ : ∃ P, P = dput P2 9 (true, t) := ⟨_, rfl⟩
      have HB3 : Hid (Bx ((y2.setCell ⟨k1, 25, none⟩ (.bool true)).setCell ⟨k1, 26, none⟩ (.int .i64 t)) k1 32 (cells P3 mv nv lv cv)) := by
        have h := setCells_blk [.bool true, .int .i64 t] y2 25 _ (unhide HBy)
        rw [set_date P2 mv nv lv cv (unhide HD2) 9 (by decide) true t] at h
        rw [hP3]
        exact h
      have HD3 : Hid (P3.dates.length = 10) := by rw [hP3]; show (List.set _ _ _).length = 10; rw [List.length_set]; exact unhide HD2
      have HP3 := hide hP3
      have Q3 : Hid (Only (fun j => j = k1) w2 ((y2.setCell ⟨k1, 25, none⟩ (.bool true)).setCell ⟨k1, 26, none⟩ (.int .i64 t))) := ((unhide QY).here _ _).here _ _
      clear hP3 hdy HB2 Q2 HD2
      go_upto_region 8 with fail
      generalize ((y2.setCell ⟨k1, 25, none⟩ (.bool true)).setCell ⟨k1, 26, none⟩ (.int .i64 t)) = x3 at *
      clear ca cb fy
      clear HBy QY
      have OWn : Hid (Only (fun _ => False) w x3) := (unhide OW).trans (T := fun j => j = k1) (unhide Q3) (fun j hj e => by omega)
      have IU : In x3 (actU o t) mv nv lv cv := in_dput (in_dput (in_state ((unhide HI).same (unhide OWn)) 2 ⟨by decide, by decide⟩) 1 (true, t) (unhide HT)) 9 (true, t) (unhide HT)
      have hfin : P3 = actU o t := by rw [unhide HP3, unhide HP2, unhide HP1]; rfl
      have HBF := unhide HB3
      rw [hfin] at HBF
      clear hfin
      have HAPU : Apart (actU o t) mv nv lv cv k2 := by
        have hs := (unhide OW).size
        have hi := unhide HI
        have hm : ∀ j, (blk mv = some j ∧ o.mat ≠ [] ∨ blk nv = some j ∧ o.names ≠ [] ∨ blk lv = some j ∧ o.links ≠ [] ∨ blk cv = some j ∧ o.custom ≠ []) → ¬ j = k2 := fun j hj e => by
          rcases hj with ⟨h, g⟩ | ⟨h, g⟩ | ⟨h, g⟩ | ⟨h, g⟩
          · have := hi.mat.blk_lt g j h; omega
          · have := hi.names.lt g j h; omega
          · have := hi.links.lt g j h; omega
          · have := hi.custom.lt g j h; omega
        exact ⟨fun g j h => hm j (Or.inl ⟨h, g⟩), fun g j h => hm j (Or.inr (Or.inl ⟨h, g⟩)), fun g j h => hm j (Or.inr (Or.inr (Or.inl ⟨h, g⟩))), fun g j h => hm j (Or.inr (Or.inr (Or.inr ⟨h, g⟩)))⟩
      obtain ⟨hth, hfb, hin, hof⟩ := store_var IU HAPU ((unhide HZ).only (unhide Q3) (by show ¬ k2 = k1; omega)) (cs0 := Zo) rfl
      have HONE := hide IU.one
      have HR := hide (Bx.whole HBF IU.ten)
      have HSZB := hide (size_cells (actU o t) mv nv lv cv IU.ten)
      have HSZA := hide (size_cellsA (actU o t) mv nv lv cv IU.ten)
      have HTH := hide hth
      have HFB := hide hfb
      have HIN := hide hin
      have HOF := hide hof
      obtain ⟨B, hB⟩ : ∃ B, B = cells (actU o t) mv nv lv cv := ⟨_, rfl⟩
      rw [← hB] at HONE HR HSZA HSZB HTH HFB HIN HOF
      have HBB := hide hB
      clear hth hfb hin hof IU HAPU hB HBF HB3 Q3 HD3
      go_wp2_with (first | (refine wpList_load_mid rfl 32 (.tmp 2) rfl k1 0 rfl B dsc (unhide HR) hdu hdr (unhide HSZB) ?_) | (refine wpList_store_mid rfl 32 (.tmp 4) (.tmp 28) rfl k2 0 B.toArray rfl rfl (unhide HTH) (unhide HSZA) (unhide HONE) ?_))
      refine bodyPost_ret (results_st2 rfl _ _ k2 32 B.toArray rfl (unhide HFB) Tryd.rowObjM (unhide HSZA)) rfl ?_
      exact ⟨mv, nv, lv, cv, by rw [unhide HE, unhide HBB]; rfl, by rw [unhide HE]; exact unhide HIN, (unhide OWn).trans (T := fun j => j = k2) (unhide HOF) (fun j hj e => by omega), fun k hA => by rw [unhide HE]; exact (⟨fun g j h => hA.mat (g) j h, fun g j h => hA.names (g) j h, fun g j h => hA.links (g) j h, fun g j h => hA.custom (g) j h⟩ : Apart (actU o t) mv nv lv cv k)⟩
    · as_aux_lemma =>
      rw [hst] at c6
      have HE : Hid (actE o = 11) := by show _ = _; unfold actE; rw [ha, hst]; rfl
      clear ha hst
      have HNO := hide (no_any 11 w2)
      go_wp2_with fail
      refine (unhide HNO).mono ?_
      rintro e y ⟨rfl, oy⟩
      have hzy := ((unhide HZ).only (unhide Q0) (by show ¬ k2 = k1; omega)).same oy
      obtain ⟨hth, hfb, hin, hof⟩ := fin37 (in_zero y) (fun j hj => by simp [blk] at hj) hzy (cs0 := Zo) rfl
      rw [← zo_cells] at hth hfb hin hof
      have OF : Hid (Only (fun _ => False) w (y.setCells k2 0 Zo)) := (((unhide OW).trans (T := fun j => j = k1) (unhide Q0) (fun j hj e => by omega)).trans oy (fun _ _ e => e)).trans (T := fun j => j = k2) hof (fun j hj e => by omega)
      have HTH := hide hth
      have HFB := hide hfb
      have HIN := hide hin
      clear hth hfb hin hof hzy oy HNO
      go_wp2_with (refine wpList_store_mid rfl 32 (.tmp 4) (.tmp 17) rfl k2 0 Zo.toArray rfl rfl (unhide HTH) Tryd.sizeObj zo_one ?_)
      refine bodyPost_ret (results_st2 rfl _ _ k2 32 Zo.toArray rfl (unhide HFB) Tryd.rowObjM Tryd.sizeObj) rfl ?_
      exact ⟨.slice none 0 0, .slice none 0 0, .slice none 0 0, .slice none 0 0, by rw [unhide HE]; rfl, by rw [unhide HE]; exact unhide HIN, unhide OF, fun k _ => by rw [unhide HE]; exact (⟨fun g => absurd rfl g, fun g => absurd rfl g, fun g => absurd rfl g, fun g => absurd rfl g⟩ : Apart zero _ _ _ _ k)⟩
    · as_aux_lemma =>
      rw [hst] at c6
      have HE : Hid (actE o = 11) := by show _ = _; unfold actE; rw [ha, hst]; rfl
      clear ha hst
      have HNO := hide (no_any 11 w2)
      go_wp2_with fail
      refine (unhide HNO).mono ?_
      rintro e y ⟨rfl, oy⟩
      have hzy := ((unhide HZ).only (unhide Q0) (by show ¬ k2 = k1; omega)).same oy
      obtain ⟨hth, hfb, hin, hof⟩ := fin37 (in_zero y) (fun j hj => by simp [blk] at hj) hzy (cs0 := Zo) rfl
      rw [← zo_cells] at hth hfb hin hof
      have OF : Hid (Only (fun _ => False) w (y.setCells k2 0 Zo)) := (((unhide OW).trans (T := fun j => j = k1) (unhide Q0) (fun j hj e => by omega)).trans oy (fun _ _ e => e)).trans (T := fun j => j = k2) hof (fun j hj e => by omega)
      have HTH := hide hth
      have HFB := hide hfb
      have HIN := hide hin
      clear hth hfb hin hof hzy oy HNO
      go_wp2_with (refine wpList_store_mid rfl 32 (.tmp 4) (.tmp 17) rfl k2 0 Zo.toArray rfl rfl (unhide HTH) Tryd.sizeObj zo_one ?_)
      refine bodyPost_ret (results_st2 rfl _ _ k2 32 Zo.toArray rfl (unhide HFB) Tryd.rowObjM Tryd.sizeObj) rfl ?_
      exact ⟨.slice none 0 0, .slice none 0 0, .slice none 0 0, .slice none 0 0, by rw [unhide HE]; rfl, by rw [unhide HE]; exact unhide HIN, unhide OF, fun k _ => by rw [unhide HE]; exact (⟨fun g => absurd rfl g, fun g => absurd rfl g, fun g => absurd rfl g, fun g => absurd rfl g⟩ : Apart zero _ _ _ _ k)⟩
    · as_aux_lemma =>
      rw [hst] at c6
      have HE : Hid (actE o = 11) := by show _ = _; unfold actE; rw [ha, hst]; rfl
      clear ha hst
      have HNO := hide (no_any 11 w2)
      go_wp2_with fail
      refine (unhide HNO).mono ?_
      rintro e y ⟨rfl, oy⟩
      have hzy := ((unhide HZ).only (unhide Q0) (by show ¬ k2 = k1; omega)).same oy
      obtain ⟨hth, hfb, hin, hof⟩ := fin37 (in_zero y) (fun j hj => by simp [blk] at hj) hzy (cs0 := Zo) rfl
      rw [← zo_cells] at hth hfb hin hof
      have OF : Hid (Only (fun _ => False) w (y.setCells k2 0 Zo)) := (((unhide OW).trans (T := fun j => j = k1) (unhide Q0) (fun j hj e => by omega)).trans oy (fun _ _ e => e)).trans (T := fun j => j = k2) hof (fun j hj e => by omega)
      have HTH := hide hth
      have HFB := hide hfb
      have HIN := hide hin
      clear hth hfb hin hof hzy oy HNO
      go_wp2_with (refine wpList_store_mid rfl 32 (.tmp 4) (.tmp 17) rfl k2 0 Zo.toArray rfl rfl (unhide HTH) Tryd.sizeObj zo_one ?_)
      refine bodyPost_ret (results_st2 rfl _ _ k2 32 Zo.toArray rfl (unhide HFB) Tryd.rowObjM Tryd.sizeObj) rfl ?_
      exact ⟨.slice none 0 0, .slice none 0 0, .slice none 0 0, .slice none 0 0, by rw [unhide HE]; rfl, by rw [unhide HE]; exact unhide HIN, unhide OF, fun k _ => by rw [unhide HE]; exact (⟨fun g => absurd rfl g, fun g => absurd rfl g, fun g => absurd rfl g, fun g => absurd rfl g⟩ : Apart zero _ _ _ _ k)⟩
    · as_aux_lemma =>
      rw [hst] at c6
      have HE : Hid (actE o = 11) := by show _ = _; unfold actE; rw [ha, hst]; rfl
      clear ha hst
      have HNO := hide (no_any 11 w2)
      go_wp2_with fail
      refine (unhide HNO).mono ?_
      rintro e y ⟨rfl, oy⟩
      have hzy := ((unhide HZ).only (unhide Q0) (by show ¬ k2 = k1; omega)).same oy
      obtain ⟨hth, hfb, hin, hof⟩ := fin37 (in_zero y) (fun j hj => by simp [blk] at hj) hzy (cs0 := Zo) rfl
      rw [← zo_cells] at hth hfb hin hof
      have OF : Hid (Only (fun _ => False) w (y.setCells k2 0 Zo)) := (((unhide OW).trans (T := fun j => j = k1) (unhide Q0) (fun j hj e => by omega)).trans oy (fun _ _ e => e)).trans (T := fun j => j = k2) hof (fun j hj e => by omega)
      have HTH := hide hth
      have HFB := hide hfb
      have HIN := hide hin
      clear hth hfb hin hof hzy oy HNO
      go_wp2_with (refine wpList_store_mid rfl 32 (.tmp 4) (.tmp 17) rfl k2 0 Zo.toArray rfl rfl (unhide HTH) Tryd.sizeObj zo_one ?_)
      refine bodyPost_ret (results_st2 rfl _ _ k2 32 Zo.toArray rfl (unhide HFB) Tryd.rowObjM Tryd.sizeObj) rfl ?_
      exact ⟨.slice none 0 0, .slice none 0 0, .slice none 0 0, .slice none 0 0, by rw [unhide HE]; rfl, by rw [unhide HE]; exact unhide HIN, unhide OF, fun k _ => by rw [unhide HE]; exact (⟨fun g => absurd rfl g, fun g => absurd rfl g, fun g => absurd rfl g, fun g => absurd rfl g⟩ : Apart zero _ _ _ _ k)⟩
    · as_aux_lemma =>
      rw [hst] at c6
      have HE : Hid (actE o = 11) := by show _ = _; unfold actE; rw [ha, hst]; rfl
      clear ha hst
      have HNO := hide (no_any 11 w2)
      go_wp2_with fail
      refine (unhide HNO).mono ?_
      rintro e y ⟨rfl, oy⟩
      have hzy := ((unhide HZ).only (unhide Q0) (by show ¬ k2 = k1; omega)).same oy
      obtain ⟨hth, hfb, hin, hof⟩ := fin37 (in_zero y) (fun j hj => by simp [blk] at hj) hzy (cs0 := Zo) rfl
      rw [← zo_cells] at hth hfb hin hof
      have OF : Hid (Only (fun _ => False) w (y.setCells k2 0 Zo)) := (((unhide OW).trans (T := fun j => j = k1) (unhide Q0) (fun j hj e => by omega)).trans oy (fun _ _ e => e)).trans (T := fun j => j = k2) hof (fun j hj e => by omega)
      have HTH := hide hth
      have HFB := hide hfb
      have HIN := hide hin
      clear hth hfb hin hof hzy oy HNO
      go_wp2_with (refine wpList_store_mid rfl 32 (.tmp 4) (.tmp 17) rfl k2 0 Zo.toArray rfl rfl (unhide HTH) Tryd.sizeObj zo_one ?_)
      refine bodyPost_ret (results_st2 rfl _ _ k2 32 Zo.toArray rfl (unhide HFB) Tryd.rowObjM Tryd.sizeObj) rfl ?_
      exact ⟨.slice none 0 0, .slice none 0 0, .slice none 0 0, .slice none 0 0, by rw [unhide HE]; rfl, by rw [unhide HE]; exact unhide HIN, unhide OF, fun k _ => by rw [unhide HE]; exact (⟨fun g => absurd rfl g, fun g => absurd rfl g, fun g => absurd rfl g, fun g => absurd rfl g⟩ : Apart zero _ _ _ _ k)⟩
set_option maxRecDepth 100000 in
set_option maxHeartbeats 8000000 in
theorem rdestroy_any (o : Ob) (mv nv lv cv : Value) (t : Int) (w : World) (I : In w o mv nv lv cv) (ht : W64 t) (hs1 : 1 ≤ o.state) (hs6 : o.state ≤ 6) :
    Calls Tryd.prog 19 #[val o mv nv lv cv, .int .i64 t] w fun e w' => RAns w w' e (told (desE o) (desU o t)) (desE o) (Apart o mv nv lv cv) := by
  have hd := I.ten
  obtain ⟨w1, k1, e1, ek1, hb1, o1, hz1⟩ := boxed w (cells o mv nv lv cv).toArray 32
  obtain ⟨w2, k2, e2, ek2, hb2, o2, hz2⟩ := boxed w1 Zo.toArray 32
  rw [List.toList_toArray] at hb1
  have OW := hide (o1.trans o2 (fun _ _ e => e))
  have HB0 := hide (hb1.same o2)
  have HZ : Hid (Bx w2 k2 32 Zo) := hb2
  have hk1 : w.heap.size ≤ k1 := by omega
  have hk2 : k1 < k2 := by omega
  have HI := hide I
  have HD0 := hide hd
  have HT := hide ht
  have HE1 := hide e1
  have HEK1 := hide ek1
  have HE2 := hide e2
  have HK12 : Hid (k1 + 1 = k2) := by show _ = _; omega
  have Q0 : Hid (Only (fun j => j = k1) w2 w2) := Only.refl _ _
  have ca := (unhide HB0).cell 36 _ (cells_back o mv nv lv cv hd 9)
  have c6 := (unhide HB0).cell 6 _ (cell_state o mv nv lv cv)
  obtain ⟨dsc, hdu, hdr⟩ := row_desc Tryd.rowObj
  have hst : o.state = 1 ∨ o.state = 2 ∨ o.state = 3 ∨ o.state = 4 ∨ o.state = 5 ∨ o.state = 6 := by omega
  unfold val
  obtain ⟨A, hA⟩ : ∃ A, A = cells o mv nv lv cv := ⟨_, rfl⟩
  rw [← hA] at HE1 ⊢
  clear hA hb1 hb2 o1 o2 e1 ek1 e2 ek2 hz1 hz2 hd I ht hs1 hs6
  go_enter Tryd.func19, Tryd.ntmps19
  go_upto_region 2 with fail
  rw [zo_eq, ← unhide HE1, ← unhide HEK1, ← unhide HE2, unhide HK12]
  clear HE1 HEK1 HE2
  cases ha : o.arch with
  | true =>
    rw [ha] at ca
    have HE : Hid (desE o = 13) := by show _ = _; unfold desE; rw [ha]; rfl
    clear c6 hst ha
    have HNO := hide (no_any 13 w2)
    go_wp2_with fail
    refine (unhide HNO).mono ?_
    rintro e y ⟨rfl, oy⟩
    have hzy := ((unhide HZ).only (unhide Q0) (by show ¬ k2 = k1; omega)).same oy
    obtain ⟨hth, hfb, hin, hof⟩ := fin37 (in_zero y) (fun j hj => by simp [blk] at hj) hzy (cs0 := Zo) rfl
    rw [← zo_cells] at hth hfb hin hof
    have OF : Hid (Only (fun _ => False) w (y.setCells k2 0 Zo)) := (((unhide OW).trans (T := fun j => j = k1) (unhide Q0) (fun j hj e => by omega)).trans oy (fun _ _ e => e)).trans (T := fun j => j = k2) hof (fun j hj e => by omega)
    have HTH := hide hth
    have HFB := hide hfb
    have HIN := hide hin
    clear hth hfb hin hof hzy oy HNO
    go_wp2_with (refine wpList_store_mid rfl 32 (.tmp 4) (.tmp 13) rfl k2 0 Zo.toArray rfl rfl (unhide HTH) Tryd.sizeObj zo_one ?_)
    refine bodyPost_ret (results_st2 rfl _ _ k2 32 Zo.toArray rfl (unhide HFB) Tryd.rowObjM Tryd.sizeObj) rfl ?_
    exact ⟨.slice none 0 0, .slice none 0 0, .slice none 0 0, .slice none 0 0, by rw [unhide HE]; rfl, by rw [unhide HE]; exact unhide HIN, unhide OF, fun k _ => by rw [unhide HE]; exact (⟨fun g => absurd rfl g, fun g => absurd rfl g, fun g => absurd rfl g, fun g => absurd rfl g⟩ : Apart zero _ _ _ _ k)⟩
  | false =>
    rw [ha] at ca
    rcases hst with hst | hst | hst | hst | hst | hst
    · as_aux_lemma =>
      rw [hst] at c6
      have HE : Hid (desE o = 0) := by show _ = _; unfold desE whenD; rw [ha, hst]; rfl
      have HWD : Hid (whenD o = 5) := by show _ = _; unfold whenD; rw [hst]; rfl
      clear ha hst
      go_upto_region 5 with fail
      clear ca c6
      have cS := (unhide HB0).cell 6 _ (cell_state o mv nv lv cv)
      have fS := (unhide HB0).free 6
      obtain ⟨P1, hP1⟩ : ∃ P, P = ({ o with state := 5 } : Ob) := ⟨_, rfl⟩
      have HB1 : Hid (Bx (w2.setCell ⟨k1, 6, none⟩ (.int .i64 5)) k1 32 (cells P1 mv nv lv cv)) := by
        have h := (unhide HB0).set 6 ((.int .i64 5))
        rw [set_state o mv nv lv cv (unhide HD0) 5, ← hP1] at h
        exact h
      have HD1 : Hid (P1.dates.length = 10) := by rw [hP1]; exact unhide HD0
      have HP1 := hide hP1
      have Q1 : Hid (Only (fun j => j = k1) w2 (w2.setCell ⟨k1, 6, none⟩ (.int .i64 5))) := (unhide Q0).here _ _
      clear hP1 HB0 Q0 HD0
      go_upto_region 8 with fail
      generalize (w2.setCell ⟨k1, 6, none⟩ (.int .i64 5)) = x1 at *
      clear cS fS
      have cS := (unhide HB1).cell 5 _ (cells_front P1 mv nv lv cv 5 (by decide))
      have fS := (unhide HB1).free 5
      obtain ⟨P2, hP2⟩ : ∃ P, P = ({ P1 with mat := [] } : Ob) := ⟨_, rfl⟩
      have HB2 : Hid (Bx (x1.setCell ⟨k1, 5, none⟩ (.slice none 0 0)) k1 32 (cells P2 (.slice none 0 0) nv lv cv)) := by
        have h := (unhide HB1).set 5 ((.slice none 0 0))
        rw [set_mat P1 mv nv lv cv (unhide HD1) (.slice none 0 0) [], ← hP2] at h
        exact h
      have HD2 : Hid (P2.dates.length = 10) := by rw [hP2]; exact unhide HD1
      have HP2 := hide hP2
      have Q2 : Hid (Only (fun j => j = k1) w2 (x1.setCell ⟨k1, 5, none⟩ (.slice none 0 0))) := (unhide Q1).here _ _
      clear hP2 HB1 Q1 HD1
      go_upto_region 9 with fail
      generalize (x1.setCell ⟨k1, 5, none⟩ (.slice none 0 0)) = x2 at *
      clear cS fS
      have HON := hide (rdate_any t x2)
      go_wp2_with fail
      refine (unhide HON).mono ?_
      rintro e y2 ⟨rfl, oy⟩
      have HBy := hide ((unhide HB2).same oy)
      have QY := hide ((unhide Q2).trans oy (fun _ _ e => e.elim))
      clear oy HON
      have hdy := get_date P2 (.slice none 0 0) nv lv cv (unhide HD2) 5 (by decide)
      have ca := (unhide HBy).cell 17 _ hdy.1
      have cb := (unhide HBy).cell 18 _ hdy.2
      have fy := (unhide HBy).free
      obtain ⟨P3, hP3⟩ : ∃ P, P = dput P2 5 (true, t) := ⟨_, rfl⟩
      have HB3 : Hid (Bx ((y2.setCell ⟨k1, 17, none⟩ (.bool true)).setCell ⟨k1, 18, none⟩ (.int .i64 t)) k1 32 (cells P3 (.slice none 0 0) nv lv cv)) := by
        have h := setCells_blk [.bool true, .int .i64 t] y2 17 _ (unhide HBy)
        rw [set_date P2 (.slice none 0 0) nv lv cv (unhide HD2) 5 (by decide) true t] at h
        rw [hP3]
        exact h
      have HD3 : Hid (P3.dates.length = 10) := by rw [hP3]; show (List.set _ _ _).length = 10; rw [List.length_set]; exact unhide HD2
      have HP3 := hide hP3
      have Q3 : Hid (Only (fun j => j = k1) w2 ((y2.setCell ⟨k1, 17, none⟩ (.bool true)).setCell ⟨k1, 18, none⟩ (.int .i64 t))) := ((unhide QY).here _ _).here _ _
      clear hP3 hdy HB2 Q2 HD2
      go_upto_region 10 with fail
      generalize ((y2.setCell ⟨k1, 17, none⟩ (.bool true)).setCell ⟨k1, 18, none⟩ (.int .i64 t)) = x3 at *
      clear ca cb fy
      clear HBy QY
      have HON := hide (rdate_any t x3)
      go_wp2_with fail
      refine (unhide HON).mono ?_
      rintro e y3 ⟨rfl, oy⟩
      have HBy := hide ((unhide HB3).same oy)
      have QY := hide ((unhide Q3).trans oy (fun _ _ e => e.elim))
      clear oy HON
      have hdy := get_date P3 (.slice none 0 0) nv lv cv (unhide HD3) 9 (by decide)
      have ca := (unhide HBy).cell 25 _ hdy.1
      have cb := (unhide HBy).cell 26 _ hdy.2
      have fy := (unhide HBy).free
      obtain ⟨P4, hP4⟩ : ∃ P, P = dput P3 9 (true, t) := ⟨_, rfl⟩
      have HB4 : Hid (Bx ((y3.setCell ⟨k1, 25, none⟩ (.bool true)).setCell ⟨k1, 26, none⟩ (.int .i64 t)) k1 32 (cells P4 (.slice none 0 0) nv lv cv)) := by
        have h := setCells_blk [.bool true, .int .i64 t] y3 25 _ (unhide HBy)
        rw [set_date P3 (.slice none 0 0) nv lv cv (unhide HD3) 9 (by decide) true t] at h
        rw [hP4]
        exact h
      have HD4 : Hid (P4.dates.length = 10) := by rw [hP4]; show (List.set _ _ _).length = 10; rw [List.length_set]; exact unhide HD3
      have HP4 := hide hP4
      have Q4 : Hid (Only (fun j => j = k1) w2 ((y3.setCell ⟨k1, 25, none⟩ (.bool true)).setCell ⟨k1, 26, none⟩ (.int .i64 t))) := ((unhide QY).here _ _).here _ _
      clear hP4 hdy HB3 Q3 HD3
      go_upto_region 11 with fail
      generalize ((y3.setCell ⟨k1, 25, none⟩ (.bool true)).setCell ⟨k1, 26, none⟩ (.int .i64 t)) = x4 at *
      clear ca cb fy
      clear HBy QY
      have OWn : Hid (Only (fun _ => False) w x4) := (unhide OW).trans (T := fun j => j = k1) (unhide Q4) (fun j hj e => by omega)
      have IU : In x4 (desU o t) (.slice none 0 0) nv lv cv := in_dput (in_dput (in_mat0 (in_whenD ((unhide HI).same (unhide OWn)))) 5 (true, t) (unhide HT)) 9 (true, t) (unhide HT)
      have hfin : P4 = desU o t := by unfold desU; rw [unhide HWD, unhide HP4, unhide HP3, unhide HP2, unhide HP1]
      have HBF := unhide HB4
      rw [hfin] at HBF
      clear hfin
      have HAPU : Apart (desU o t) (.slice none 0 0) nv lv cv k2 := by
        have hs := (unhide OW).size
        have hi := unhide HI
        have hm : ∀ j, (blk mv = some j ∧ o.mat ≠ [] ∨ blk nv = some j ∧ o.names ≠ [] ∨ blk lv = some j ∧ o.links ≠ [] ∨ blk cv = some j ∧ o.custom ≠ []) → ¬ j = k2 := fun j hj e => by
          rcases hj with ⟨h, g⟩ | ⟨h, g⟩ | ⟨h, g⟩ | ⟨h, g⟩
          · have := hi.mat.blk_lt g j h; omega
          · have := hi.names.lt g j h; omega
          · have := hi.links.lt g j h; omega
          · have := hi.custom.lt g j h; omega
        exact ⟨fun g => absurd rfl g, fun g j h => hm j (Or.inr (Or.inl ⟨h, g⟩)), fun g j h => hm j (Or.inr (Or.inr (Or.inl ⟨h, g⟩))), fun g j h => hm j (Or.inr (Or.inr (Or.inr ⟨h, g⟩)))⟩
      obtain ⟨hth, hfb, hin, hof⟩ := store_var IU HAPU ((unhide HZ).only (unhide Q4) (by show ¬ k2 = k1; omega)) (cs0 := Zo) rfl
      have HONE := hide IU.one
      have HR := hide (Bx.whole HBF IU.ten)
      have HSZB := hide (size_cells (desU o t) (.slice none 0 0) nv lv cv IU.ten)
      have HSZA := hide (size_cellsA (desU o t) (.slice none 0 0) nv lv cv IU.ten)
      have HTH := hide hth
      have HFB := hide hfb
      have HIN := hide hin
      have HOF := hide hof
      obtain ⟨B, hB⟩ : ∃ B, B = cells (desU o t) (.slice none 0 0) nv lv cv := ⟨_, rfl⟩
      rw [← hB] at HONE HR HSZA HSZB HTH HFB HIN HOF
      have HBB := hide hB
      clear hth hfb hin hof IU HAPU hB HBF HB4 Q4 HD4
      go_wp2_with (first | (refine wpList_load_mid rfl 32 (.tmp 2) rfl k1 0 rfl B dsc (unhide HR) hdu hdr (unhide HSZB) ?_) | (refine wpList_store_mid rfl 32 (.tmp 4) (.tmp 39) rfl k2 0 B.toArray rfl rfl (unhide HTH) (unhide HSZA) (unhide HONE) ?_))
      refine bodyPost_ret (results_st2 rfl _ _ k2 32 B.toArray rfl (unhide HFB) Tryd.rowObjM (unhide HSZA)) rfl ?_
      exact ⟨(.slice none 0 0), nv, lv, cv, by rw [unhide HE, unhide HBB]; rfl, by rw [unhide HE]; exact unhide HIN, (unhide OWn).trans (T := fun j => j = k2) (unhide HOF) (fun j hj e => by omega), fun k hA => by rw [unhide HE]; exact (⟨fun g => absurd rfl g, fun g j h => hA.names (g) j h, fun g j h => hA.links (g) j h, fun g j h => hA.custom (g) j h⟩ : Apart (desU o t) (.slice none 0 0) nv lv cv k)⟩
    · as_aux_lemma =>
      rw [hst] at c6
      have HE : Hid (desE o = 11) := by show _ = _; unfold desE whenD; rw [ha, hst]; rfl
      clear ha hst
      have HNO := hide (no_any 11 w2)
      go_wp2_with fail
      refine (unhide HNO).mono ?_
      rintro e y ⟨rfl, oy⟩
      have hzy := ((unhide HZ).only (unhide Q0) (by show ¬ k2 = k1; omega)).same oy
      obtain ⟨hth, hfb, hin, hof⟩ := fin37 (in_zero y) (fun j hj => by simp [blk] at hj) hzy (cs0 := Zo) rfl
      rw [← zo_cells] at hth hfb hin hof
      have OF : Hid (Only (fun _ => False) w (y.setCells k2 0 Zo)) := (((unhide OW).trans (T := fun j => j = k1) (unhide Q0) (fun j hj e => by omega)).trans oy (fun _ _ e => e)).trans (T := fun j => j = k2) hof (fun j hj e => by omega)
      have HTH := hide hth
      have HFB := hide hfb
      have HIN := hide hin
      clear hth hfb hin hof hzy oy HNO
      go_wp2_with (refine wpList_store_mid rfl 32 (.tmp 4) (.tmp 7) rfl k2 0 Zo.toArray rfl rfl (unhide HTH) Tryd.sizeObj zo_one ?_)
      refine bodyPost_ret (results_st2 rfl _ _ k2 32 Zo.toArray rfl (unhide HFB) Tryd.rowObjM Tryd.sizeObj) rfl ?_
      exact ⟨.slice none 0 0, .slice none 0 0, .slice none 0 0, .slice none 0 0, by rw [unhide HE]; rfl, by rw [unhide HE]; exact unhide HIN, unhide OF, fun k _ => by rw [unhide HE]; exact (⟨fun g => absurd rfl g, fun g => absurd rfl g, fun g => absurd rfl g, fun g => absurd rfl g⟩ : Apart zero _ _ _ _ k)⟩
    · as_aux_lemma =>
      rw [hst] at c6
      have HE : Hid (desE o = 0) := by show _ = _; unfold desE whenD; rw [ha, hst]; rfl
      have HWD : Hid (whenD o = 5) := by show _ = _; unfold whenD; rw [hst]; rfl
      clear ha hst
      go_upto_region 5 with fail
      clear ca c6
      have cS := (unhide HB0).cell 6 _ (cell_state o mv nv lv cv)
      have fS := (unhide HB0).free 6
      obtain ⟨P1, hP1⟩ : ∃ P, P = ({ o with state := 5 } : Ob) := ⟨_, rfl⟩
      have HB1 : Hid (Bx (w2.setCell ⟨k1, 6, none⟩ (.int .i64 5)) k1 32 (cells P1 mv nv lv cv)) := by
        have h := (unhide HB0).set 6 ((.int .i64 5))
        rw [set_state o mv nv lv cv (unhide HD0) 5, ← hP1] at h
        exact h
      have HD1 : Hid (P1.dates.length = 10) := by rw [hP1]; exact unhide HD0
      have HP1 := hide hP1
      have Q1 : Hid (Only (fun j => j = k1) w2 (w2.setCell ⟨k1, 6, none⟩ (.int .i64 5))) := (unhide Q0).here _ _
      clear hP1 HB0 Q0 HD0
      go_upto_region 8 with fail
      generalize (w2.setCell ⟨k1, 6, none⟩ (.int .i64 5)) = x1 at *
      clear cS fS
      have cS := (unhide HB1).cell 5 _ (cells_front P1 mv nv lv cv 5 (by decide))
      have fS := (unhide HB1).free 5
      obtain ⟨P2, hP2⟩ : ∃ P, P = ({ P1 with mat := [] } : Ob) := ⟨_, rfl⟩
      have HB2 : Hid (Bx (x1.setCell ⟨k1, 5, none⟩ (.slice none 0 0)) k1 32 (cells P2 (.slice none 0 0) nv lv cv)) := by
        have h := (unhide HB1).set 5 ((.slice none 0 0))
        rw [set_mat P1 mv nv lv cv (unhide HD1) (.slice none 0 0) [], ← hP2] at h
        exact h
      have HD2 : Hid (P2.dates.length = 10) := by rw [hP2]; exact unhide HD1
      have HP2 := hide hP2
      have Q2 : Hid (Only (fun j => j = k1) w2 (x1.setCell ⟨k1, 5, none⟩ (.slice none 0 0))) := (unhide Q1).here _ _
      clear hP2 HB1 Q1 HD1
      go_upto_region 9 with fail
      generalize (x1.setCell ⟨k1, 5, none⟩ (.slice none 0 0)) = x2 at *
      clear cS fS
      have HON := hide (rdate_any t x2)
      go_wp2_with fail
      refine (unhide HON).mono ?_
      rintro e y2 ⟨rfl, oy⟩
      have HBy := hide ((unhide HB2).same oy)
      have QY := hide ((unhide Q2).trans oy (fun _ _ e => e.elim))
      clear oy HON
      have hdy := get_date P2 (.slice none 0 0) nv lv cv (unhide HD2) 5 (by decide)
      have ca := (unhide HBy).cell 17 _ hdy.1
      have cb := (unhide HBy).cell 18 _ hdy.2
      have fy := (unhide HBy).free
      obtain ⟨P3, hP3⟩ : ∃ P, P = dput P2 5 (true, t) := ⟨_, rfl⟩
      have HB3 : Hid (Bx ((y2.setCell ⟨k1, 17, none⟩ (.bool true)).setCell ⟨k1, 18, none⟩ (.int .i64 t)) k1 32 (cells P3 (.slice none 0 0) nv lv cv)) := by
        have h := setCells_blk [.bool true, .int .i64 t] y2 17 _ (unhide HBy)
        rw [set_date P2 (.slice none 0 0) nv lv cv (unhide HD2) 5 (by decide) true t] at h
        rw [hP3]
        exact h
      have HD3 : Hid (P3.dates.length = 10) := by rw [hP3]; show (List.set _ _ _).length = 10; rw [List.length_set]; exact unhide HD2
      have HP3 := hide hP3
      have Q3 : Hid (Only (fun j => j = k1) w2 ((y2.setCell ⟨k1, 17, none⟩ (.bool true)).setCell ⟨k1, 18, none⟩ (.int .i64 t))) := ((unhide QY).here _ _).here _ _
      clear hP3 hdy HB2 Q2 HD2
      go_upto_region 10 with fail
      generalize ((y2.setCell ⟨k1, 17, none⟩ (.bool true)).setCell ⟨k1, 18, none⟩ (.int .i64 t)) = x3 at *
      clear ca cb fy
      clear HBy QY
      have HON := hide (rdate_any t x3)
      go_wp2_with fail
      refine (unhide HON).mono ?_
      rintro e y3 ⟨rfl, oy⟩
      have HBy := hide ((unhide HB3).same oy)
      have QY := hide ((unhide Q3).trans oy (fun _ _ e => e.elim))
      clear oy HON
      have hdy := get_date P3 (.slice none 0 0) nv lv cv (unhide HD3) 9 (by decide)
      have ca := (unhide HBy).cell 25 _ hdy.1
      have cb := (unhide HBy).cell 26 _ hdy.2
      have fy := (unhide HBy).free
      obtain ⟨P4, hP4⟩ : ∃ P, P = dput P3 9 (true, t) := ⟨_, rfl⟩
      have HB4 : Hid (Bx ((y3.setCell ⟨k1, 25, none⟩ (.bool true)).setCell ⟨k1, 26, none⟩ (.int .i64 t)) k1 32 (cells P4 (.slice none 0 0) nv lv cv)) := by
        have h := setCells_blk [.bool true, .int .i64 t] y3 25 _ (unhide HBy)
        rw [set_date P3 (.slice none 0 0) nv lv cv (unhide HD3) 9 (by decide) true t] at h
        rw [hP4]
        exact h
      have HD4 : Hid (P4.dates.length = 10) := by rw [hP4]; show (List.set _ _ _).length = 10; rw [List.length_set]; exact unhide HD3
      have HP4 := hide hP4
      have Q4 : Hid (Only (fun j => j = k1) w2 ((y3.setCell ⟨k1, 25, none⟩ (.bool true)).setCell ⟨k1, 26, none⟩ (.int .i64 t))) := ((unhide QY).here _ _).here _ _
      clear hP4 hdy HB3 Q3 HD3
      go_upto_region 11 with fail
      generalize ((y3.setCell ⟨k1, 25, none⟩ (.bool true)).setCell ⟨k1, 26, none⟩ (.int .i64 t)) = x4 at *
      clear ca cb fy
      clear HBy QY
      have OWn : Hid (Only (fun _ => False) w x4) := (unhide OW).trans (T := fun j => j = k1) (unhide Q4) (fun j hj e => by omega)
      have IU : In x4 (desU o t) (.slice none 0 0) nv lv cv := in_dput (in_dput (in_mat0 (in_whenD ((unhide HI).same (unhide OWn)))) 5 (true, t) (unhide HT)) 9 (true, t) (unhide HT)
      have hfin : P4 = desU o t := by unfold desU; rw [unhide HWD, unhide HP4, unhide HP3, unhide HP2, unhide HP1]
      have HBF := unhide HB4
      rw [hfin] at HBF
      clear hfin
      have HAPU : Apart (desU o t) (.slice none 0 0) nv lv cv k2 := by
        have hs := (unhide OW).size
        have hi := unhide HI
        have hm : ∀ j, (blk mv = some j ∧ o.mat ≠ [] ∨ blk nv = some j ∧ o.names ≠ [] ∨ blk lv = some j ∧ o.links ≠ [] ∨ blk cv = some j ∧ o.custom ≠ []) → ¬ j = k2 := fun j hj e => by
          rcases hj with ⟨h, g⟩ | ⟨h, g⟩ | ⟨h, g⟩ | ⟨h, g⟩
          · have := hi.mat.blk_lt g j h; omega
          · have := hi.names.lt g j h; omega
          · have := hi.links.lt g j h; omega
          · have := hi.custom.lt g j h; omega
        exact ⟨fun g => absurd rfl g, fun g j h => hm j (Or.inr (Or.inl ⟨h, g⟩)), fun g j h => hm j (Or.inr (Or.inr (Or.inl ⟨h, g⟩))), fun g j h => hm j (Or.inr (Or.inr (Or.inr ⟨h, g⟩)))⟩
      obtain ⟨hth, hfb, hin, hof⟩ := store_var IU HAPU ((unhide HZ).only (unhide Q4) (by show ¬ k2 = k1; omega)) (cs0 := Zo) rfl
      have HONE := hide IU.one
      have HR := hide (Bx.whole HBF IU.ten)
      have HSZB := hide (size_cells (desU o t) (.slice none 0 0) nv lv cv IU.ten)
      have HSZA := hide (size_cellsA (desU o t) (.slice none 0 0) nv lv cv IU.ten)
      have HTH := hide hth
      have HFB := hide hfb
      have HIN := hide hin
      have HOF := hide hof
      obtain ⟨B, hB⟩ : ∃ B, B = cells (desU o t) (.slice none 0 0) nv lv cv := ⟨_, rfl⟩
      rw [← hB] at HONE HR HSZA HSZB HTH HFB HIN HOF
      have HBB := hide hB
      clear hth hfb hin hof IU HAPU hB HBF HB4 Q4 HD4
      go_wp2_with (first | (refine wpList_load_mid rfl 32 (.tmp 2) rfl k1 0 rfl B dsc (unhide HR) hdu hdr (unhide HSZB) ?_) | (refine wpList_store_mid rfl 32 (.tmp 4) (.tmp 39) rfl k2 0 B.toArray rfl rfl (unhide HTH) (unhide HSZA) (unhide HONE) ?_))
      refine bodyPost_ret (results_st2 rfl _ _ k2 32 B.toArray rfl (unhide HFB) Tryd.rowObjM (unhide HSZA)) rfl ?_
      exact ⟨(.slice none 0 0), nv, lv, cv, by rw [unhide HE, unhide HBB]; rfl, by rw [unhide HE]; exact unhide HIN, (unhide OWn).trans (T := fun j => j = k2) (unhide HOF) (fun j hj e => by omega), fun k hA => by rw [unhide HE]; exact (⟨fun g => absurd rfl g, fun g j h => hA.names (g) j h, fun g j h => hA.links (g) j h, fun g j h => hA.custom (g) j h⟩ : Apart (desU o t) (.slice none 0 0) nv lv cv k)⟩
    · as_aux_lemma =>
      rw [hst] at c6
      have HE : Hid (desE o = 0) := by show _ = _; unfold desE whenD; rw [ha, hst]; rfl
      have HWD : Hid (whenD o = 6) := by show _ = _; unfold whenD; rw [hst]; rfl
      clear ha hst
      go_upto_region 7 with fail
      clear ca c6
      have cS := (unhide HB0).cell 6 _ (cell_state o mv nv lv cv)
      have fS := (unhide HB0).free 6
      obtain ⟨P1, hP1⟩ : ∃ P, P = ({ o with state := 6 } : Ob) := ⟨_, rfl⟩
      have HB1 : Hid (Bx (w2.setCell ⟨k1, 6, none⟩ (.int .i64 6)) k1 32 (cells P1 mv nv lv cv)) := by
        have h := (unhide HB0).set 6 ((.int .i64 6))
        rw [set_state o mv nv lv cv (unhide HD0) 6, ← hP1] at h
        exact h
      have HD1 : Hid (P1.dates.length = 10) := by rw [hP1]; exact unhide HD0
      have HP1 := hide hP1
      have Q1 : Hid (Only (fun j => j = k1) w2 (w2.setCell ⟨k1, 6, none⟩ (.int .i64 6))) := (unhide Q0).here _ _
      clear hP1 HB0 Q0 HD0
      go_upto_region 8 with fail
      generalize (w2.setCell ⟨k1, 6, none⟩ (.int .i64 6)) = x1 at *
      clear cS fS
      have cS := (unhide HB1).cell 5 _ (cells_front P1 mv nv lv cv 5 (by decide))
      have fS := (unhide HB1).free 5
      obtain ⟨P2, hP2⟩ : ∃ P, P = ({ P1 with mat := [] } : Ob) := ⟨_, rfl⟩
      have HB2 : Hid (Bx (x1.setCell ⟨k1, 5, none⟩ (.slice none 0 0)) k1 32 (cells P2 (.slice none 0 0) nv lv cv)) := by
        have h := (unhide HB1).set 5 ((.slice none 0 0))
        rw [set_mat P1 mv nv lv cv (unhide HD1) (.slice none 0 0) [], ← hP2] at h
        exact h
      have HD2 : Hid (P2.dates.length = 10) := by rw [hP2]; exact unhide HD1
      have HP2 := hide hP2
      have Q2 : Hid (Only (fun j => j = k1) w2 (x1.setCell ⟨k1, 5, none⟩ (.slice none 0 0))) := (unhide Q1).here _ _
      clear hP2 HB1 Q1 HD1
      go_upto_region 9 with fail
      generalize (x1.setCell ⟨k1, 5, none⟩ (.slice none 0 0)) = x2 at *
      clear cS fS
      have HON := hide (rdate_any t x2)
      go_wp2_with fail
      refine (unhide HON).mono ?_
      rintro e y2 ⟨rfl, oy⟩
      have HBy := hide ((unhide HB2).same oy)
      have QY := hide ((unhide Q2).trans oy (fun _ _ e => e.elim))
      clear oy HON
      have hdy := get_date P2 (.slice none 0 0) nv lv cv (unhide HD2) 5 (by decide)
      have ca := (unhide HBy).cell 17 _ hdy.1
      have cb := (unhide HBy).cell 18 _ hdy.2
      have fy := (unhide HBy).free
      obtain ⟨P3, hP3⟩ : ∃ P, P = dput P2 5 (true, t) := ⟨_, rfl⟩
      have HB3 : Hid (Bx ((y2.setCell ⟨k1, 17, none⟩ (.bool true)).setCell ⟨k1, 18, none⟩ (.int .i64 t)) k1 32 (cells P3 (.slice none 0 0) nv lv cv)) := by
        have h := setCells_blk [.bool true, .int .i64 t] y2 17 _ (unhide HBy)
        rw [set_date P2 (.slice none 0 0) nv lv cv (unhide HD2) 5 (by decide) true t] at h
        rw [hP3]
        exact h
      have HD3 : Hid (P3.dates.length = 10) := by rw [hP3]; show (List.set _ _ _).length = 10; rw [List.length_set]; exact unhide HD2
      have HP3 := hide hP3
      have Q3 : Hid (Only (fun j => j = k1) w2 ((y2.setCell ⟨k1, 17, none⟩ (.bool true)).setCell ⟨k1, 18, none⟩ (.int .i64 t))) := ((unhide QY).here _ _).here _ _
      clear hP3 hdy HB2 Q2 HD2
      go_upto_region 10 with fail
      generalize ((y2.setCell ⟨k1, 17, none⟩ (.bool true)).setCell ⟨k1, 18, none⟩ (.int .i64 t)) = x3 at *
      clear ca cb fy
      clear HBy QY
      have HON := hide (rdate_any t x3)
      go_wp2_with fail
      refine (unhide HON).mono ?_
      rintro e y3 ⟨rfl, oy⟩
      have HBy := hide ((unhide HB3).same oy)
      have QY := hide ((unhide Q3).trans oy (fun _ _ e => e.elim))
      clear oy HON
      have hdy := get_date P3 (.slice none 0 0) nv lv cv (unhide HD3) 9 (by decide)
      have ca := (unhide HBy).cell 25 _ hdy.1
      have cb := (unhide HBy).cell 26 _ hdy.2
      have fy := (unhide HBy).free
      obtain ⟨P4, hP4⟩ : ∃ P, P = dput P3 9 (true, t) := ⟨_, rfl⟩
      have HB4 : Hid (Bx ((y3.setCell ⟨k1, 25, none⟩ (.bool true)).setCell ⟨k1, 26, none⟩ (.int .i64 t)) k1 32 (cells P4 (.slice none 0 0) nv lv cv)) := by
        have h := setCells_blk [.bool true, .int .i64 t] y3 25 _ (unhide HBy)
        rw [set_date P3 (.slice none 0 0) nv lv cv (unhide HD3) 9 (by decide) true t] at h
        rw [hP4]
        exact h
      have HD4 : Hid (P4.dates.length = 10) := by rw [hP4]; show (List.set _ _ _).length = 10; rw [List.length_set]; exact unhide HD3
      have HP4 := hide hP4
      have Q4 : Hid (Only (fun j => j = k1) w2 ((y3.setCell ⟨k1, 25, none⟩ (.bool true)).setCell ⟨k1, 26, none⟩ (.int .i64 t))) := ((unhide QY).here _ _).here _ _
      clear hP4 hdy HB3 Q3 HD3
      go_upto_region 11 with fail
      generalize ((y3.setCell ⟨k1, 25, none⟩ (.bool true)).setCell ⟨k1, 26, none⟩ (.int .i64 t)) = x4 at *
      clear ca cb fy
      clear HBy QY
      have OWn : Hid (Only (fun _ => False) w x4) := (unhide OW).trans (T := fun j => j = k1) (unhide Q4) (fun j hj e => by omega)
      have IU : In x4 (desU o t) (.slice none 0 0) nv lv cv := in_dput (in_dput (in_mat0 (in_whenD ((unhide HI).same (unhide OWn)))) 5 (true, t) (unhide HT)) 9 (true, t) (unhide HT)
      have hfin : P4 = desU o t := by unfold desU; rw [unhide HWD, unhide HP4, unhide HP3, unhide HP2, unhide HP1]
      have HBF := unhide HB4
      rw [hfin] at HBF
      clear hfin
      have HAPU : Apart (desU o t) (.slice none 0 0) nv lv cv k2 := by
        have hs := (unhide OW).size
        have hi := unhide HI
        have hm : ∀ j, (blk mv = some j ∧ o.mat ≠ [] ∨ blk nv = some j ∧ o.names ≠ [] ∨ blk lv = some j ∧ o.links ≠ [] ∨ blk cv = some j ∧ o.custom ≠ []) → ¬ j = k2 := fun j hj e => by
          rcases hj with ⟨h, g⟩ | ⟨h, g⟩ | ⟨h, g⟩ | ⟨h, g⟩
          · have := hi.mat.blk_lt g j h; omega
          · have := hi.names.lt g j h; omega
          · have := hi.links.lt g j h; omega
          · have := hi.custom.lt g j h; omega
        exact ⟨fun g => absurd rfl g, fun g j h => hm j (Or.inr (Or.inl ⟨h, g⟩)), fun g j h => hm j (Or.inr (Or.inr (Or.inl ⟨h, g⟩))), fun g j h => hm j (Or.inr (Or.inr (Or.inr ⟨h, g⟩)))⟩
      obtain ⟨hth, hfb, hin, hof⟩ := store_var IU HAPU ((unhide HZ).only (unhide Q4) (by show ¬ k2 = k1; omega)) (cs0 := Zo) rfl
      have HONE := hide IU.one
      have HR := hide (Bx.whole HBF IU.ten)
      have HSZB := hide (size_cells (desU o t) (.slice none 0 0) nv lv cv IU.ten)
      have HSZA := hide (size_cellsA (desU o t) (.slice none 0 0) nv lv cv IU.ten)
      have HTH := hide hth
      have HFB := hide hfb
      have HIN := hide hin
      have HOF := hide hof
      obtain ⟨B, hB⟩ : ∃ B, B = cells (desU o t) (.slice none 0 0) nv lv cv := ⟨_, rfl⟩
      rw [← hB] at HONE HR HSZA HSZB HTH HFB HIN HOF
      have HBB := hide hB
      clear hth hfb hin hof IU HAPU hB HBF HB4 Q4 HD4
      go_wp2_with (first | (refine wpList_load_mid rfl 32 (.tmp 2) rfl k1 0 rfl B dsc (unhide HR) hdu hdr (unhide HSZB) ?_) | (refine wpList_store_mid rfl 32 (.tmp 4) (.tmp 39) rfl k2 0 B.toArray rfl rfl (unhide HTH) (unhide HSZA) (unhide HONE) ?_))
      refine bodyPost_ret (results_st2 rfl _ _ k2 32 B.toArray rfl (unhide HFB) Tryd.rowObjM (unhide HSZA)) rfl ?_
      exact ⟨(.slice none 0 0), nv, lv, cv, by rw [unhide HE, unhide HBB]; rfl, by rw [unhide HE]; exact unhide HIN, (unhide OWn).trans (T := fun j => j = k2) (unhide HOF) (fun j hj e => by omega), fun k hA => by rw [unhide HE]; exact (⟨fun g => absurd rfl g, fun g j h => hA.names (g) j h, fun g j h => hA.links (g) j h, fun g j h => hA.custom (g) j h⟩ : Apart (desU o t) (.slice none 0 0) nv lv cv k)⟩
    · as_aux_lemma =>
      rw [hst] at c6
      have HE : Hid (desE o = 11) := by show _ = _; unfold desE whenD; rw [ha, hst]; rfl
      clear ha hst
      have HNO := hide (no_any 11 w2)
      go_wp2_with fail
      refine (unhide HNO).mono ?_
      rintro e y ⟨rfl, oy⟩
      have hzy := ((unhide HZ).only (unhide Q0) (by show ¬ k2 = k1; omega)).same oy
      obtain ⟨hth, hfb, hin, hof⟩ := fin37 (in_zero y) (fun j hj => by simp [blk] at hj) hzy (cs0 := Zo) rfl
      rw [← zo_cells] at hth hfb hin hof
      have OF : Hid (Only (fun _ => False) w (y.setCells k2 0 Zo)) := (((unhide OW).trans (T := fun j => j = k1) (unhide Q0) (fun j hj e => by omega)).trans oy (fun _ _ e => e)).trans (T := fun j => j = k2) hof (fun j hj e => by omega)
      have HTH := hide hth
      have HFB := hide hfb
      have HIN := hide hin
      clear hth hfb hin hof hzy oy HNO
      go_wp2_with (refine wpList_store_mid rfl 32 (.tmp 4) (.tmp 7) rfl k2 0 Zo.toArray rfl rfl (unhide HTH) Tryd.sizeObj zo_one ?_)
      refine bodyPost_ret (results_st2 rfl _ _ k2 32 Zo.toArray rfl (unhide HFB) Tryd.rowObjM Tryd.sizeObj) rfl ?_
      exact ⟨.slice none 0 0, .slice none 0 0, .slice none 0 0, .slice none 0 0, by rw [unhide HE]; rfl, by rw [unhide HE]; exact unhide HIN, unhide OF, fun k _ => by rw [unhide HE]; exact (⟨fun g => absurd rfl g, fun g => absurd rfl g, fun g => absurd rfl g, fun g => absurd rfl g⟩ : Apart zero _ _ _ _ k)⟩
    · as_aux_lemma =>
      rw [hst] at c6
      have HE : Hid (desE o = 11) := by show _ = _; unfold desE whenD; rw [ha, hst]; rfl
      clear ha hst
      have HNO := hide (no_any 11 w2)
      go_wp2_with fail
      refine (unhide HNO).mono ?_
      rintro e y ⟨rfl, oy⟩
      have hzy := ((unhide HZ).only (unhide Q0) (by show ¬ k2 = k1; omega)).same oy
      obtain ⟨hth, hfb, hin, hof⟩ := fin37 (in_zero y) (fun j hj => by simp [blk] at hj) hzy (cs0 := Zo) rfl
      rw [← zo_cells] at hth hfb hin hof
      have OF : Hid (Only (fun _ => False) w (y.setCells k2 0 Zo)) := (((unhide OW).trans (T := fun j => j = k1) (unhide Q0) (fun j hj e => by omega)).trans oy (fun _ _ e => e)).trans (T := fun j => j = k2) hof (fun j hj e => by omega)
      have HTH := hide hth
      have HFB := hide hfb
      have HIN := hide hin
      clear hth hfb hin hof hzy oy HNO
      go_wp2_with (refine wpList_store_mid rfl 32 (.tmp 4) (.tmp 7) rfl k2 0 Zo.toArray rfl rfl (unhide HTH) Tryd.sizeObj zo_one ?_)
      refine bodyPost_ret (results_st2 rfl _ _ k2 32 Zo.toArray rfl (unhide HFB) Tryd.rowObjM Tryd.sizeObj) rfl ?_
      exact ⟨.slice none 0 0, .slice none 0 0, .slice none 0 0, .slice none 0 0, by rw [unhide HE]; rfl, by rw [unhide HE]; exact unhide HIN, unhide OF, fun k _ => by rw [unhide HE]; exact (⟨fun g => absurd rfl g, fun g => absurd rfl g, fun g => absurd rfl g, fun g => absurd rfl g⟩ : Apart zero _ _ _ _ k)⟩
set_option maxRecDepth 100000 in
set_option maxHeartbeats 8000000 in
theorem rarchive_any (o : Ob) (mv nv lv cv : Value) (t : Int) (w : World) (I : In w o mv nv lv cv) (ht : W64 t) (hs1 : 1 ≤ o.state) (hs6 : o.state ≤ 6) :
    Calls Tryd.prog 20 #[val o mv nv lv cv, .int .i64 t] w fun e w' => RAns w w' e (told (arcE o) (arcU o t)) (arcE o) (Apart o mv nv lv cv) := by
  have hd := I.ten
  obtain ⟨w1, k1, e1, ek1, hb1, o1, hz1⟩ := boxed w (cells o mv nv lv cv).toArray 32
  obtain ⟨w2, k2, e2, ek2, hb2, o2, hz2⟩ := boxed w1 Zo.toArray 32
  rw [List.toList_toArray] at hb1
  have OW := hide (o1.trans o2 (fun _ _ e => e))
  have HB0 := hide (hb1.same o2)
  have HZ : Hid (Bx w2 k2 32 Zo) := hb2
  have hk1 : w.heap.size ≤ k1 := by omega
  have hk2 : k1 < k2 := by omega
  have HI := hide I
  have HD0 := hide hd
  have HT := hide ht
  have HE1 := hide e1
  have HEK1 := hide ek1
  have HE2 := hide e2
  have HK12 : Hid (k1 + 1 = k2) := by show _ = _; omega
  have Q0 : Hid (Only (fun j => j = k1) w2 w2) := Only.refl _ _
  have ca := (unhide HB0).cell 36 _ (cells_back o mv nv lv cv hd 9)
  have c6 := (unhide HB0).cell 6 _ (cell_state o mv nv lv cv)
  obtain ⟨dsc, hdu, hdr⟩ := row_desc Tryd.rowObj
  have hst : o.state = 1 ∨ o.state = 2 ∨ o.state = 3 ∨ o.state = 4 ∨ o.state = 5 ∨ o.state = 6 := by omega
  unfold val
  obtain ⟨A, hA⟩ : ∃ A, A = cells o mv nv lv cv := ⟨_, rfl⟩
  rw [← hA] at HE1 ⊢
  clear hA hb1 hb2 o1 o2 e1 ek1 e2 ek2 hz1 hz2 hd I ht hs1 hs6
  go_enter Tryd.func20, Tryd.ntmps20
  go_upto_region 1 with fail
  rw [zo_eq, ← unhide HE1, ← unhide HEK1, ← unhide HE2, unhide HK12]
  clear HE1 HEK1 HE2
  clear c6 hst
  cases ha : o.arch with
  | true =>
    rw [ha] at ca
    have HE : Hid (arcE o = 13) := by show _ = _; unfold arcE; rw [ha]; rfl
    clear ha
    have HNO := hide (no_any 13 w2)
    go_wp2_with fail
    refine (unhide HNO).mono ?_
    rintro e y ⟨rfl, oy⟩
    have hzy := ((unhide HZ).only (unhide Q0) (by show ¬ k2 = k1; omega)).same oy
    obtain ⟨hth, hfb, hin, hof⟩ := fin37 (in_zero y) (fun j hj => by simp [blk] at hj) hzy (cs0 := Zo) rfl
    rw [← zo_cells] at hth hfb hin hof
    have OF : Hid (Only (fun _ => False) w (y.setCells k2 0 Zo)) := (((unhide OW).trans (T := fun j => j = k1) (unhide Q0) (fun j hj e => by omega)).trans oy (fun _ _ e => e)).trans (T := fun j => j = k2) hof (fun j hj e => by omega)
    have HTH := hide hth
    have HFB := hide hfb
    have HIN := hide hin
    clear hth hfb hin hof hzy oy HNO
    go_wp2_with (refine wpList_store_mid rfl 32 (.tmp 4) (.tmp 9) rfl k2 0 Zo.toArray rfl rfl (unhide HTH) Tryd.sizeObj zo_one ?_)
    refine bodyPost_ret (results_st2 rfl _ _ k2 32 Zo.toArray rfl (unhide HFB) Tryd.rowObjM Tryd.sizeObj) rfl ?_
    exact ⟨.slice none 0 0, .slice none 0 0, .slice none 0 0, .slice none 0 0, by rw [unhide HE]; rfl, by rw [unhide HE]; exact unhide HIN, unhide OF, fun k _ => by rw [unhide HE]; exact (⟨fun g => absurd rfl g, fun g => absurd rfl g, fun g => absurd rfl g, fun g => absurd rfl g⟩ : Apart zero _ _ _ _ k)⟩
  | false =>
    rw [ha] at ca
    have HE : Hid (arcE o = 0) := by show _ = _; unfold arcE; rw [ha]; rfl
    clear ha
    go_upto_region 3 with fail
    clear ca
    have cS := (unhide HB0).cell 36 _ (cells_back o mv nv lv cv (unhide HD0) 9)
    have fS := (unhide HB0).free 36
    obtain ⟨P1, hP1⟩ : ∃ P, P = ({ o with arch := true } : Ob) := ⟨_, rfl⟩
    have HB1 : Hid (Bx (w2.setCell ⟨k1, 36, none⟩ (.bool true)) k1 32 (cells P1 mv nv lv cv)) := by
      have h := (unhide HB0).set 36 ((.bool true))
      rw [set_arch o mv nv lv cv (unhide HD0) true, ← hP1] at h
      exact h
    have HD1 : Hid (P1.dates.length = 10) := by rw [hP1]; exact unhide HD0
    have HP1 := hide hP1
    have Q1 : Hid (Only (fun j => j = k1) w2 (w2.setCell ⟨k1, 36, none⟩ (.bool true))) := (unhide Q0).here _ _
    clear hP1 HB0 Q0 HD0
    go_upto_region 4 with fail
    generalize (w2.setCell ⟨k1, 36, none⟩ (.bool true)) = x1 at *
    clear cS fS
    have HON := hide (rdate_any t x1)
    go_wp2_with fail
    refine (unhide HON).mono ?_
    rintro e y1 ⟨rfl, oy⟩
    have HBy := hide ((unhide HB1).same oy)
    have QY := hide ((unhide Q1).trans oy (fun _ _ e => e.elim))
    clear oy HON
    have hdy := get_date P1 mv nv lv cv (unhide HD1) 8 (by decide)
    have ca := (unhide HBy).cell 23 _ hdy.1
    have cb := (unhide HBy).cell 24 _ hdy.2
    have fy := (unhide HBy).free
    obtain ⟨P2, hP2⟩ : ∃ P, P = dput P1 8 (true, t) := ⟨_, rfl⟩
    have HB2 : Hid (Bx ((y1.setCell ⟨k1, 23, none⟩ (.bool true)).setCell ⟨k1, 24, none⟩ (.int .i64 t)) k1 32 (cells P2 mv nv lv cv)) := by
      have h := setCells_blk [.bool true, .int .i64 t] y1 23 _ (unhide HBy)
      rw [set_date P1 mv nv lv cv (unhide HD1) 8 (by decide) true t] at h
      rw [hP2]
      exact h
    have HD2 : Hid (P2.dates.length = 10) := by rw [hP2]; show (List.set _ _ _).length = 10; rw [List.length_set]; exact unhide HD1
    have HP2 := hide hP2
    have Q2 : Hid (Only (fun j => j = k1) w2 ((y1.setCell ⟨k1, 23, none⟩ (.bool true)).setCell ⟨k1, 24, none⟩ (.int .i64 t))) := ((unhide QY).here _ _).here _ _
    clear hP2 hdy HB1 Q1 HD1
    go_upto_region 5 with fail
    generalize ((y1.setCell ⟨k1, 23, none⟩ (.bool true)).setCell ⟨k1, 24, none⟩ (.int .i64 t)) = x2 at *
    clear ca cb fy
    clear HBy QY
    have HON := hide (rdate_any t x2)
    go_wp2_with fail
    refine (unhide HON).mono ?_
    rintro e y2 ⟨rfl, oy⟩
    have HBy := hide ((unhide HB2).same oy)
    have QY := hide ((unhide Q2).trans oy (fun _ _ e => e.elim))
    clear oy HON
    have hdy := get_date P2 mv nv lv cv (unhide HD2) 9 (by decide)
    have ca := (unhide HBy).cell 25 _ hdy.1
    have cb := (unhide HBy).cell 26 _ hdy.2
    have fy := (unhide HBy).free
    obtain ⟨P3, hP3⟩ : ∃ P, P = dput P2 9 (true, t) := ⟨_, rfl⟩
    have HB3 : Hid (Bx ((y2.setCell ⟨k1, 25, none⟩ (.bool true)).setCell ⟨k1, 26, none⟩ (.int .i64 t)) k1 32 (cells P3 mv nv lv cv)) := by
      have h := setCells_blk [.bool true, .int .i64 t] y2 25 _ (unhide HBy)
      rw [set_date P2 mv nv lv cv (unhide HD2) 9 (by decide) true t] at h
      rw [hP3]
      exact h
    have HD3 : Hid (P3.dates.length = 10) := by rw [hP3]; show (List.set _ _ _).length = 10; rw [List.length_set]; exact unhide HD2
    have HP3 := hide hP3
    have Q3 : Hid (Only (fun j => j = k1) w2 ((y2.setCell ⟨k1, 25, none⟩ (.bool true)).setCell ⟨k1, 26, none⟩ (.int .i64 t))) := ((unhide QY).here _ _).here _ _
    clear hP3 hdy HB2 Q2 HD2
    go_upto_region 6 with fail
    generalize ((y2.setCell ⟨k1, 25, none⟩ (.bool true)).setCell ⟨k1, 26, none⟩ (.int .i64 t)) = x3 at *
    clear ca cb fy
    clear HBy QY
    have OWn : Hid (Only (fun _ => False) w x3) := (unhide OW).trans (T := fun j => j = k1) (unhide Q3) (fun j hj e => by omega)
    have IU : In x3 (arcU o t) mv nv lv cv := in_dput (in_dput (in_arch ((unhide HI).same (unhide OWn)) true) 8 (true, t) (unhide HT)) 9 (true, t) (unhide HT)
    have hfin : P3 = arcU o t := by rw [unhide HP3, unhide HP2, unhide HP1]; rfl
    have HBF := unhide HB3
    rw [hfin] at HBF
    clear hfin
    have HAPU : Apart (arcU o t) mv nv lv cv k2 := by
      have hs := (unhide OW).size
      have hi := unhide HI
      have hm : ∀ j, (blk mv = some j ∧ o.mat ≠ [] ∨ blk nv = some j ∧ o.names ≠ [] ∨ blk lv = some j ∧ o.links ≠ [] ∨ blk cv = some j ∧ o.custom ≠ []) → ¬ j = k2 := fun j hj e => by
        rcases hj with ⟨h, g⟩ | ⟨h, g⟩ | ⟨h, g⟩ | ⟨h, g⟩
        · have := hi.mat.blk_lt g j h; omega
        · have := hi.names.lt g j h; omega
        · have := hi.links.lt g j h; omega
        · have := hi.custom.lt g j h; omega
      exact ⟨fun g j h => hm j (Or.inl ⟨h, g⟩), fun g j h => hm j (Or.inr (Or.inl ⟨h, g⟩)), fun g j h => hm j (Or.inr (Or.inr (Or.inl ⟨h, g⟩))), fun g j h => hm j (Or.inr (Or.inr (Or.inr ⟨h, g⟩)))⟩
    obtain ⟨hth, hfb, hin, hof⟩ := store_var IU HAPU ((unhide HZ).only (unhide Q3) (by show ¬ k2 = k1; omega)) (cs0 := Zo) rfl
    have HONE := hide IU.one
    have HR := hide (Bx.whole HBF IU.ten)
    have HSZB := hide (size_cells (arcU o t) mv nv lv cv IU.ten)
    have HSZA := hide (size_cellsA (arcU o t) mv nv lv cv IU.ten)
    have HTH := hide hth
    have HFB := hide hfb
    have HIN := hide hin
    have HOF := hide hof
    obtain ⟨B, hB⟩ : ∃ B, B = cells (arcU o t) mv nv lv cv := ⟨_, rfl⟩
    rw [← hB] at HONE HR HSZA HSZB HTH HFB HIN HOF
    have HBB := hide hB
    clear hth hfb hin hof IU HAPU hB HBF HB3 Q3 HD3
    go_wp2_with (first | (refine wpList_load_mid rfl 32 (.tmp 2) rfl k1 0 rfl B dsc (unhide HR) hdu hdr (unhide HSZB) ?_) | (refine wpList_store_mid rfl 32 (.tmp 4) (.tmp 20) rfl k2 0 B.toArray rfl rfl (unhide HTH) (unhide HSZA) (unhide HONE) ?_))
    refine bodyPost_ret (results_st2 rfl _ _ k2 32 B.toArray rfl (unhide HFB) Tryd.rowObjM (unhide HSZA)) rfl ?_
    exact ⟨mv, nv, lv, cv, by rw [unhide HE, unhide HBB]; rfl, by rw [unhide HE]; exact unhide HIN, (unhide OWn).trans (T := fun j => j = k2) (unhide HOF) (fun j hj e => by omega), fun k hA => by rw [unhide HE]; exact (⟨fun g j h => hA.mat (g) j h, fun g j h => hA.names (g) j h, fun g j h => hA.links (g) j h, fun g j h => hA.custom (g) j h⟩ : Apart (arcU o t) mv nv lv cv k)⟩
set_option maxRecDepth 100000 in
set_option maxHeartbeats 8000000 in
theorem rrecover_any (o : Ob) (mv nv lv cv : Value) (t : Int) (w : World) (I : In w o mv nv lv cv) (ht : W64 t) (hs1 : 1 ≤ o.state) (hs6 : o.state ≤ 6) :
    Calls Tryd.prog 21 #[val o mv nv lv cv, .int .i64 t] w fun e w' => RAns w w' e (told (recE o) (recU o t)) (recE o) (Apart o mv nv lv cv) := by
  have hd := I.ten
  obtain ⟨w1, k1, e1, ek1, hb1, o1, hz1⟩ := boxed w (cells o mv nv lv cv).toArray 32
  obtain ⟨w2, k2, e2, ek2, hb2, o2, hz2⟩ := boxed w1 Zo.toArray 32
  rw [List.toList_toArray] at hb1
  have OW := hide (o1.trans o2 (fun _ _ e => e))
  have HB0 := hide (hb1.same o2)
  have HZ : Hid (Bx w2 k2 32 Zo) := hb2
  have hk1 : w.heap.size ≤ k1 := by omega
  have hk2 : k1 < k2 := by omega
  have HI := hide I
  have HD0 := hide hd
  have HT := hide ht
  have HE1 := hide e1
  have HEK1 := hide ek1
  have HE2 := hide e2
  have HK12 : Hid (k1 + 1 = k2) := by show _ = _; omega
  have Q0 : Hid (Only (fun j => j = k1) w2 w2) := Only.refl _ _
  have ca := (unhide HB0).cell 36 _ (cells_back o mv nv lv cv hd 9)
  have c6 := (unhide HB0).cell 6 _ (cell_state o mv nv lv cv)
  obtain ⟨dsc, hdu, hdr⟩ := row_desc Tryd.rowObj
  have hst : o.state = 1 ∨ o.state = 2 ∨ o.state = 3 ∨ o.state = 4 ∨ o.state = 5 ∨ o.state = 6 := by omega
  unfold val
  obtain ⟨A, hA⟩ : ∃ A, A = cells o mv nv lv cv := ⟨_, rfl⟩
  rw [← hA] at HE1 ⊢
  clear hA hb1 hb2 o1 o2 e1 ek1 e2 ek2 hz1 hz2 hd I ht hs1 hs6
  go_enter Tryd.func21, Tryd.ntmps21
  go_upto_region 1 with fail
  rw [zo_eq, ← unhide HE1, ← unhide HEK1, ← unhide HE2, unhide HK12]
  clear HE1 HEK1 HE2
  clear c6 hst
  cases ha : o.arch with
  | false =>
    rw [ha] at ca
    have HE : Hid (recE o = 11) := by show _ = _; unfold recE; rw [ha]; rfl
    clear ha
    have HNO := hide (no_any 11 w2)
    go_wp2_with fail
    refine (unhide HNO).mono ?_
    rintro e y ⟨rfl, oy⟩
    have hzy := ((unhide HZ).only (unhide Q0) (by show ¬ k2 = k1; omega)).same oy
    obtain ⟨hth, hfb, hin, hof⟩ := fin37 (in_zero y) (fun j hj => by simp [blk] at hj) hzy (cs0 := Zo) rfl
    rw [← zo_cells] at hth hfb hin hof
    have OF : Hid (Only (fun _ => False) w (y.setCells k2 0 Zo)) := (((unhide OW).trans (T := fun j => j = k1) (unhide Q0) (fun j hj e => by omega)).trans oy (fun _ _ e => e)).trans (T := fun j => j = k2) hof (fun j hj e => by omega)
    have HTH := hide hth
    have HFB := hide hfb
    have HIN := hide hin
    clear hth hfb hin hof hzy oy HNO
    go_wp2_with (refine wpList_store_mid rfl 32 (.tmp 4) (.tmp 10) rfl k2 0 Zo.toArray rfl rfl (unhide HTH) Tryd.sizeObj zo_one ?_)
    refine bodyPost_ret (results_st2 rfl _ _ k2 32 Zo.toArray rfl (unhide HFB) Tryd.rowObjM Tryd.sizeObj) rfl ?_
    exact ⟨.slice none 0 0, .slice none 0 0, .slice none 0 0, .slice none 0 0, by rw [unhide HE]; rfl, by rw [unhide HE]; exact unhide HIN, unhide OF, fun k _ => by rw [unhide HE]; exact (⟨fun g => absurd rfl g, fun g => absurd rfl g, fun g => absurd rfl g, fun g => absurd rfl g⟩ : Apart zero _ _ _ _ k)⟩
  | true =>
    rw [ha] at ca
    have HE : Hid (recE o = 0) := by show _ = _; unfold recE; rw [ha]; rfl
    clear ha
    go_upto_region 3 with fail
    clear ca
    have cS := (unhide HB0).cell 36 _ (cells_back o mv nv lv cv (unhide HD0) 9)
    have fS := (unhide HB0).free 36
    obtain ⟨P1, hP1⟩ : ∃ P, P = ({ o with arch := false } : Ob) := ⟨_, rfl⟩
    have HB1 : Hid (Bx (w2.setCell ⟨k1, 36, none⟩ (.bool false)) k1 32 (cells P1 mv nv lv cv)) := by
      have h := (unhide HB0).set 36 ((.bool false))
      rw [set_arch o mv nv lv cv (unhide HD0) false, ← hP1] at h
      exact h
    have HD1 : Hid (P1.dates.length = 10) := by rw [hP1]; exact unhide HD0
    have HP1 := hide hP1
    have Q1 : Hid (Only (fun j => j = k1) w2 (w2.setCell ⟨k1, 36, none⟩ (.bool false))) := (unhide Q0).here _ _
    clear hP1 HB0 Q0 HD0
    go_upto_region 4 with fail
    generalize (w2.setCell ⟨k1, 36, none⟩ (.bool false)) = x1 at *
    clear cS fS
    have HON := hide (rdate_any t x1)
    go_wp2_with fail
    refine (unhide HON).mono ?_
    rintro e y1 ⟨rfl, oy⟩
    have HBy := hide ((unhide HB1).same oy)
    have QY := hide ((unhide Q1).trans oy (fun _ _ e => e.elim))
    clear oy HON
    have hdy := get_date P1 mv nv lv cv (unhide HD1) 9 (by decide)
    have ca := (unhide HBy).cell 25 _ hdy.1
    have cb := (unhide HBy).cell 26 _ hdy.2
    have fy := (unhide HBy).free
    obtain ⟨P2, hP2⟩ : ∃ P, P = dput P1 9 (true, t) := ⟨_, rfl⟩
    have HB2 : Hid (Bx ((y1.setCell ⟨k1, 25, none⟩ (.bool true)).setCell ⟨k1, 26, none⟩ (.int .i64 t)) k1 32 (cells P2 mv nv lv cv)) := by
      have h := setCells_blk [.bool true, .int .i64 t] y1 25 _ (unhide HBy)
      rw [set_date P1 mv nv lv cv (unhide HD1) 9 (by decide) true t] at h
      rw [hP2]
      exact h
    have HD2 : Hid (P2.dates.length = 10) := by rw [hP2]; show (List.set _ _ _).length = 10; rw [List.length_set]; exact unhide HD1
    have HP2 := hide hP2
    have Q2 : Hid (Only (fun j => j = k1) w2 ((y1.setCell ⟨k1, 25, none⟩ (.bool true)).setCell ⟨k1, 26, none⟩ (.int .i64 t))) := ((unhide QY).here _ _).here _ _
    clear hP2 hdy HB1 Q1 HD1
    go_upto_region 5 with fail
    generalize ((y1.setCell ⟨k1, 25, none⟩ (.bool true)).setCell ⟨k1, 26, none⟩ (.int .i64 t)) = x2 at *
    clear ca cb fy
    clear HBy QY
    have OWn : Hid (Only (fun _ => False) w x2) := (unhide OW).trans (T := fun j => j = k1) (unhide Q2) (fun j hj e => by omega)
    have IU : In x2 (recU o t) mv nv lv cv := in_dput (in_arch ((unhide HI).same (unhide OWn)) false) 9 (true, t) (unhide HT)
    have hfin : P2 = recU o t := by rw [unhide HP2, unhide HP1]; rfl
    have HBF := unhide HB2
    rw [hfin] at HBF
    clear hfin
    have HAPU : Apart (recU o t) mv nv lv cv k2 := by
      have hs := (unhide OW).size
      have hi := unhide HI
      have hm : ∀ j, (blk mv = some j ∧ o.mat ≠ [] ∨ blk nv = some j ∧ o.names ≠ [] ∨ blk lv = some j ∧ o.links ≠ [] ∨ blk cv = some j ∧ o.custom ≠ []) → ¬ j = k2 := fun j hj e => by
        rcases hj with ⟨h, g⟩ | ⟨h, g⟩ | ⟨h, g⟩ | ⟨h, g⟩
        · have := hi.mat.blk_lt g j h; omega
        · have := hi.names.lt g j h; omega
        · have := hi.links.lt g j h; omega
        · have := hi.custom.lt g j h; omega
      exact ⟨fun g j h => hm j (Or.inl ⟨h, g⟩), fun g j h => hm j (Or.inr (Or.inl ⟨h, g⟩)), fun g j h => hm j (Or.inr (Or.inr (Or.inl ⟨h, g⟩))), fun g j h => hm j (Or.inr (Or.inr (Or.inr ⟨h, g⟩)))⟩
    obtain ⟨hth, hfb, hin, hof⟩ := store_var IU HAPU ((unhide HZ).only (unhide Q2) (by show ¬ k2 = k1; omega)) (cs0 := Zo) rfl
    have HONE := hide IU.one
    have HR := hide (Bx.whole HBF IU.ten)
    have HSZB := hide (size_cells (recU o t) mv nv lv cv IU.ten)
    have HSZA := hide (size_cellsA (recU o t) mv nv lv cv IU.ten)
    have HTH := hide hth
    have HFB := hide hfb
    have HIN := hide hin
    have HOF := hide hof
    obtain ⟨B, hB⟩ : ∃ B, B = cells (recU o t) mv nv lv cv := ⟨_, rfl⟩
    rw [← hB] at HONE HR HSZA HSZB HTH HFB HIN HOF
    have HBB := hide hB
    clear hth hfb hin hof IU HAPU hB HBF HB2 Q2 HD2
    go_wp2_with (first | (refine wpList_load_mid rfl 32 (.tmp 2) rfl k1 0 rfl B dsc (unhide HR) hdu hdr (unhide HSZB) ?_) | (refine wpList_store_mid rfl 32 (.tmp 4) (.tmp 17) rfl k2 0 B.toArray rfl rfl (unhide HTH) (unhide HSZA) (unhide HONE) ?_))
    refine bodyPost_ret (results_st2 rfl _ _ k2 32 B.toArray rfl (unhide HFB) Tryd.rowObjM (unhide HSZA)) rfl ?_
    exact ⟨mv, nv, lv, cv, by rw [unhide HE, unhide HBB]; rfl, by rw [unhide HE]; exact unhide HIN, (unhide OWn).trans (T := fun j => j = k2) (unhide HOF) (fun j hj e => by omega), fun k hA => by rw [unhide HE]; exact (⟨fun g j h => hA.mat (g) j h, fun g j h => hA.names (g) j h, fun g j h => hA.links (g) j h, fun g j h => hA.custom (g) j h⟩ : Apart (recU o t) mv nv lv cv k)⟩
end Ob
end Go.Proofs.YtadpmninoghcjaaDoor
