/-
  The reference's Move.
-/
import Derived.Test.YtnklnfbalnooaaaLfRef
namespace Go.Proofs.Ytnklnfbalnooaaa
open Go.RowKit
set_option linter.unusedSimpArgs false
set_option linter.unusedVariables false
namespace Ob
set_option maxRecDepth 100000 in
set_option maxHeartbeats 8000000 in
theorem rmove_any (o : Ob) (mv nv lv cv : Value) (t : Int) (w : World) (I : In w o mv nv lv cv) (ht : W64 t) :
    Calls Try.prog 17 #[val o mv nv lv cv, .int .i64 t] w fun e w' => e = .returned (val (move o t) mv nv lv cv) ∧ In w' (move o t) mv nv lv cv ∧ Only (fun _ => False) w w' := by
  have hd := I.ten
  obtain ⟨w1, k1, e1, ek1, hb1, o1, hs1⟩ := boxed w (cells o mv nv lv cv).toArray 39
  obtain ⟨w2, k2, e2, ek2, hb2, o2, hs2⟩ := boxed w1 Zo.toArray 39
  rw [List.toList_toArray] at hb1
  have OW := hide (o1.trans o2 (fun _ _ e => e))
  have HB := hide (hb1.same o2)
  have HZ : Hid (Bx w2 k2 39 Zo) := hb2
  have hk1 : w.heap.size ≤ k1 := by omega
  have hk2 : k1 < k2 := by omega
  have HI := hide I
  have HD := hide hd
  have HT := hide ht
  have HE1 := hide e1
  have HEK1 := hide ek1
  have HE2 := hide e2
  have HK12 : Hid (k1 + 1 = k2) := by show _ = _; omega
  have R2 := hide (Bx.whole (unhide HB) hd)
  have HSZ := hide (size_cells o mv nv lv cv hd)
  have HDU := hide (rdue_any o mv nv lv cv t w2 hd)
  have HM : Hid (move o t = if go1 o t || go2 o t then dput { o with state := st2 o t } 9 (true, t) else o) := rfl
  have HL : Hid (due o t = (if go1 o t then [2] else []) ++ (if go2 o t then [3] else [])) := rfl
  have HAP := hide (I.apart (k := k1) (by omega))
  have HAP2 := hide (I.apart (k := k2) (by omega))
  obtain ⟨dsc, hdu, hdr⟩ := row_desc Try.rowObj
  unfold val at HDU ⊢
  obtain ⟨A, hA⟩ : ∃ A, A = cells o mv nv lv cv := ⟨_, rfl⟩
  have HA := hide hA
  rw [← hA] at HE1 R2 HSZ HDU ⊢
  clear hA hb1 hb2 o1 o2 e1 ek1 e2 ek2 hs1 hs2 hd I ht
  go_enter Try.func17, Try.ntmps17
  go_upto_region 1 with fail
  rw [zo_eq, ← unhide HE1, ← unhide HEK1, ← unhide HE2, unhide HK12]
  clear HE1 HEK1 HE2
  go_wp2_with (refine wpList_load_mid rfl 39 (.tmp 2) rfl k1 0 rfl A dsc (unhide R2) hdu hdr (unhide HSZ) ?_)
  refine (unhide HDU).mono ?_
  rintro e w3 ⟨v, rfl, hown, o3⟩
  have HB3 := hide ((unhide HB).same o3)
  have HZ3 := hide ((unhide HZ).same o3)
  have O3 := hide ((unhide OW).trans o3 (fun _ _ e => e))
  have hF : HasF w3 v 1 icells (due o t) := hasF_own hown (fun _ _ => rfl) rfl
  obtain ⟨vo, vc, rfl⟩ := ownsRow_shape hown
  have HVK := hide (fun j hj => (own_lt hown j hj).1)
  have HK1S : Hid (k1 < w2.heap.size) := (unhide HB).lt
  clear hown o3 HDU R2 HB HZ OW
  have hcase := st2_cases o t
  by_cases hz : go1 o t = false ∧ go2 o t = false
  · obtain ⟨g1, g2⟩ := hz
    have HMV : Hid (move o t = o) := by show _ = _; rw [unhide HM, g1, g2]; rfl
    have HLL : Hid (due o t = []) := by show _ = _; rw [unhide HL, g1, g2]; rfl
    rw [unhide HLL] at hF ⊢
    clear hcase g1 g2 hF HM HL
    have I3 : In w3 o mv nv lv cv := (unhide HI).same (unhide O3)
    obtain ⟨hth, hfb, hin, hof⟩ := store_var I3 (unhide HAP2) (unhide HZ3) (cs0 := Zo) rfl
    have HONE := hide I3.one
    have hr := Bx.whole (unhide HB3) (unhide HD)
    have HSZA := hide (size_cellsA o mv nv lv cv (unhide HD))
    have HTH := hide hth
    have HFB := hide hfb
    have HIN := hide hin
    have HOF := hide hof
    rw [← unhide HA] at HONE hr HSZA HTH HFB HIN HOF
    clear hth hfb hin hof I3
    go_wp2_with (first
      | (refine wpList_load_mid rfl 39 (.tmp 2) rfl k1 0 rfl A dsc hr hdu hdr (unhide HSZ) ?_)
      | (refine wpList_store_mid rfl 39 (.tmp 4) (.tmp 23) rfl k2 0 A.toArray rfl rfl (unhide HTH) (unhide HSZA) (unhide HONE) ?_))
    refine bodyPost_ret (results_st rfl _ _ k2 39 A.toArray (0, 0) rfl (unhide HFB) Try.rowObjM (unhide HSZA)) rfl ?_
    exact ⟨by rw [unhide HMV, ← unhide HA], by rw [unhide HMV]; exact unhide HIN, (unhide O3).trans (T := fun j => j = k2) (unhide HOF) (fun j hj e => by omega)⟩
  · have HL2 : Hid (∃ L n, due o t = L ++ [n] ∧ n = st2 o t ∧ (L = [] ∨ L = [2])) := by
      rcases hcase with ⟨h1, h2, h3⟩ | ⟨h1, h2, h3, h4⟩ | ⟨h1, h2, h3, h4⟩ | ⟨h1, h2, h3, h4⟩
      · exact absurd ⟨h1, h2⟩ hz
      · exact ⟨[], 2, by rw [unhide HL, h1, h2]; rfl, h4.symm, Or.inl rfl⟩
      · exact ⟨[], 3, by rw [unhide HL, h1, h2]; rfl, h4.symm, Or.inl rfl⟩
      · exact ⟨[2], 3, by rw [unhide HL, h1, h2]; rfl, h4.symm, Or.inr rfl⟩
    have HMV : Hid (move o t = dput { o with state := st2 o t } 9 (true, t)) := by
      show _ = _
      rw [unhide HM, if_pos]
      rcases hcase with ⟨h1, h2, _⟩ | ⟨h1, h2, _⟩ | ⟨h1, h2, _⟩ | ⟨h1, h2, _⟩
      · exact absurd ⟨h1, h2⟩ hz
      · rw [h1]; rfl
      · rw [h2, Bool.or_true]
      · rw [h1]; rfl
    obtain ⟨L, n, hL, hn, hLc⟩ := unhide HL2
    clear hcase hz HM HL HL2
    rw [hL] at hF ⊢
    rw [← hn] at HMV
    clear hn
    have HPV : Hid (val (move o t) mv nv lv cv = val (dput { o with state := n } 9 (true, t)) mv nv lv cv) := by show _ = _; rw [unhide HMV]
    rcases hLc with rfl | rfl
    · obtain ⟨vb, vof, hvo, hvb, hat⟩ := HasF.at (n := 1) hF (by decide)
      subst hvo
      have c0 := hat 0 n rfl 0 _ rfl
      rw [Nat.add_zero] at c0
      have hvk : vb ≠ k1 := by have h1 := unhide HVK vb rfl; have h2 := unhide HK1S; omega
      have c6 := (unhide HB3).cell 6 _ (cell_state o mv nv lv cv)
      have f6 := (unhide HB3).free 6
      have HC2 : Hid (Bx (w3.setCell ⟨k1, 6, none⟩ (.int .i64 n)) k1 39 (cells { o with state := n } mv nv lv cv)) := by
        rw [← set_state o mv nv lv cv (unhide HD) n]; exact (unhide HB3).set 6 _
      have Q2 : Hid (Only (fun j => j = k1) w3 (w3.setCell ⟨k1, 6, none⟩ (.int .i64 n))) := (Only.refl _ _).here _ _
      clear hF hat hvb HVK
      simp only [List.nil_append, List.length_cons, List.length_nil, List.cons_append]
      go_upto_region 4 with fail
      generalize (w3.setCell ⟨k1, 6, none⟩ (.int .i64 n)) = wA at *
      have HON := hide (rdate_any t wA)
      clear c0 c6 f6
      go_wp2_with fail
      refine (unhide HON).mono ?_
      rintro e w7 ⟨rfl, o7⟩
      have HC7 := (unhide HC2).same o7
      have hd7 := get_date { o with state := n } mv nv lv cv (unhide HD) 9 (by decide)
      have ca := HC7.cell 25 _ hd7.1
      have cb := HC7.cell 26 _ hd7.2
      have f7 := HC7.free
      have HC8 : Hid (Bx ((w7.setCell ⟨k1, 25, none⟩ (.bool true)).setCell ⟨k1, 26, none⟩ (.int .i64 t)) k1 39 (cells (dput { o with state := n } 9 (true, t)) mv nv lv cv)) := by
        have h := setCells_blk [.bool true, .int .i64 t] w7 25 _ HC7
        rw [set_date { o with state := n } mv nv lv cv (unhide HD) 9 (by decide) true t] at h
        exact h
      have Q8 : Hid (Only (fun j => j = k1) w3 ((w7.setCell ⟨k1, 25, none⟩ (.bool true)).setCell ⟨k1, 26, none⟩ (.int .i64 t))) := (((unhide Q2).trans o7 (fun _ _ e => e.elim)).here _ _).here _ _
      clear o7 HC7 hd7 HON HC2 Q2
      go_upto_region 5 with fail
      generalize ((w7.setCell ⟨k1, 25, none⟩ (.bool true)).setCell ⟨k1, 26, none⟩ (.int .i64 t)) = w8 at *
      clear ca cb f7
      have O8 : Hid (Only (fun _ => False) w w8) := (unhide O3).trans (unhide Q8) (fun j hj e => by omega)
      have I8 : In w8 (dput { o with state := n } 9 (true, t)) mv nv lv cv := by
        have h := in_move ((unhide HI).same (unhide O8)) t (unhide HT)
        rw [unhide HMV] at h
        exact h
      have hd8 := I8.ten
      have HAP8 : Apart (dput { o with state := n } 9 (true, t)) mv nv lv cv k2 := ⟨(unhide HAP2).mat, (unhide HAP2).names, (unhide HAP2).links, (unhide HAP2).custom⟩
      obtain ⟨hth, hfb, hin, hof⟩ := store_var I8 HAP8 ((unhide HZ3).only (unhide Q8) (by show ¬ k2 = k1; omega)) (cs0 := Zo) rfl
      have HONE := hide I8.one
      have hr := Bx.whole (unhide HC8) hd8
      have HSZB := hide (size_cells (dput { o with state := n } 9 (true, t)) mv nv lv cv hd8)
      have HSZA := hide (size_cellsA (dput { o with state := n } 9 (true, t)) mv nv lv cv hd8)
      have HTH := hide hth
      have HFB := hide hfb
      have HIN := hide hin
      have HOF := hide hof
      obtain ⟨B, hB⟩ : ∃ B, B = cells (dput { o with state := n } 9 (true, t)) mv nv lv cv := ⟨_, rfl⟩
      rw [← hB] at HONE hr HSZA HSZB HTH HFB HIN HOF
      have HBB := hide hB
      clear hth hfb hin hof I8 HAP8 hB hd8 HC8
      go_wp2_with (first
        | (refine wpList_load_mid rfl 39 (.tmp 2) rfl k1 0 rfl B dsc hr hdu hdr (unhide HSZB) ?_)
        | (refine wpList_store_mid rfl 39 (.tmp 4) (.tmp 23) rfl k2 0 B.toArray rfl rfl (unhide HTH) (unhide HSZA) (unhide HONE) ?_))
      refine bodyPost_ret (results_st rfl _ _ k2 39 B.toArray (0, 0) rfl (unhide HFB) Try.rowObjM (unhide HSZA)) rfl ?_
      exact ⟨by have h := unhide HPV; unfold val at h; rw [h, ← unhide HBB], by rw [unhide HMV]; exact unhide HIN, (unhide O8).trans (T := fun j => j = k2) (unhide HOF) (fun j hj e => by omega)⟩
    · obtain ⟨vb, vof, hvo, hvb, hat⟩ := HasF.at (n := 2) hF (by decide)
      subst hvo
      have c0 := hat 1 n rfl 0 _ rfl
      rw [Nat.add_zero] at c0
      have hvk : vb ≠ k1 := by have h1 := unhide HVK vb rfl; have h2 := unhide HK1S; omega
      have c6 := (unhide HB3).cell 6 _ (cell_state o mv nv lv cv)
      have f6 := (unhide HB3).free 6
      have HC2 : Hid (Bx (w3.setCell ⟨k1, 6, none⟩ (.int .i64 n)) k1 39 (cells { o with state := n } mv nv lv cv)) := by
        rw [← set_state o mv nv lv cv (unhide HD) n]; exact (unhide HB3).set 6 _
      have Q2 : Hid (Only (fun j => j = k1) w3 (w3.setCell ⟨k1, 6, none⟩ (.int .i64 n))) := (Only.refl _ _).here _ _
      clear hF hat hvb HVK
      simp only [List.nil_append, List.length_cons, List.length_nil, List.cons_append]
      go_upto_region 4 with fail
      generalize (w3.setCell ⟨k1, 6, none⟩ (.int .i64 n)) = wA at *
      have HON := hide (rdate_any t wA)
      clear c0 c6 f6
      go_wp2_with fail
      refine (unhide HON).mono ?_
      rintro e w7 ⟨rfl, o7⟩
      have HC7 := (unhide HC2).same o7
      have hd7 := get_date { o with state := n } mv nv lv cv (unhide HD) 9 (by decide)
      have ca := HC7.cell 25 _ hd7.1
      have cb := HC7.cell 26 _ hd7.2
      have f7 := HC7.free
      have HC8 : Hid (Bx ((w7.setCell ⟨k1, 25, none⟩ (.bool true)).setCell ⟨k1, 26, none⟩ (.int .i64 t)) k1 39 (cells (dput { o with state := n } 9 (true, t)) mv nv lv cv)) := by
        have h := setCells_blk [.bool true, .int .i64 t] w7 25 _ HC7
        rw [set_date { o with state := n } mv nv lv cv (unhide HD) 9 (by decide) true t] at h
        exact h
      have Q8 : Hid (Only (fun j => j = k1) w3 ((w7.setCell ⟨k1, 25, none⟩ (.bool true)).setCell ⟨k1, 26, none⟩ (.int .i64 t))) := (((unhide Q2).trans o7 (fun _ _ e => e.elim)).here _ _).here _ _
      clear o7 HC7 hd7 HON HC2 Q2
      go_upto_region 5 with fail
      generalize ((w7.setCell ⟨k1, 25, none⟩ (.bool true)).setCell ⟨k1, 26, none⟩ (.int .i64 t)) = w8 at *
      clear ca cb f7
      have O8 : Hid (Only (fun _ => False) w w8) := (unhide O3).trans (unhide Q8) (fun j hj e => by omega)
      have I8 : In w8 (dput { o with state := n } 9 (true, t)) mv nv lv cv := by
        have h := in_move ((unhide HI).same (unhide O8)) t (unhide HT)
        rw [unhide HMV] at h
        exact h
      have hd8 := I8.ten
      have HAP8 : Apart (dput { o with state := n } 9 (true, t)) mv nv lv cv k2 := ⟨(unhide HAP2).mat, (unhide HAP2).names, (unhide HAP2).links, (unhide HAP2).custom⟩
      obtain ⟨hth, hfb, hin, hof⟩ := store_var I8 HAP8 ((unhide HZ3).only (unhide Q8) (by show ¬ k2 = k1; omega)) (cs0 := Zo) rfl
      have HONE := hide I8.one
      have hr := Bx.whole (unhide HC8) hd8
      have HSZB := hide (size_cells (dput { o with state := n } 9 (true, t)) mv nv lv cv hd8)
      have HSZA := hide (size_cellsA (dput { o with state := n } 9 (true, t)) mv nv lv cv hd8)
      have HTH := hide hth
      have HFB := hide hfb
      have HIN := hide hin
      have HOF := hide hof
      obtain ⟨B, hB⟩ : ∃ B, B = cells (dput { o with state := n } 9 (true, t)) mv nv lv cv := ⟨_, rfl⟩
      rw [← hB] at HONE hr HSZA HSZB HTH HFB HIN HOF
      have HBB := hide hB
      clear hth hfb hin hof I8 HAP8 hB hd8 HC8
      go_wp2_with (first
        | (refine wpList_load_mid rfl 39 (.tmp 2) rfl k1 0 rfl B dsc hr hdu hdr (unhide HSZB) ?_)
        | (refine wpList_store_mid rfl 39 (.tmp 4) (.tmp 23) rfl k2 0 B.toArray rfl rfl (unhide HTH) (unhide HSZA) (unhide HONE) ?_))
      refine bodyPost_ret (results_st rfl _ _ k2 39 B.toArray (0, 0) rfl (unhide HFB) Try.rowObjM (unhide HSZA)) rfl ?_
      exact ⟨by have h := unhide HPV; unfold val at h; rw [h, ← unhide HBB], by rw [unhide HMV]; exact unhide HIN, (unhide O8).trans (T := fun j => j = k2) (unhide HOF) (fun j hj e => by omega)⟩
end Ob
end Go.Proofs.Ytnklnfbalnooaaa
