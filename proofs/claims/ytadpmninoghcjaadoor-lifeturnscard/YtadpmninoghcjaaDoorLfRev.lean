/-
  life's plea: what a revocation makes of the object.
-/
import Derived.Test.YtadpmninoghcjaaDoorLfMake
namespace Go.Proofs.YtadpmninoghcjaaDoor
open Go.RowKit
set_option linter.unusedSimpArgs false
set_option linter.unusedVariables false
namespace Ob
/-- what a revocation makes -/
def revP (o : Ob) (r : Int) (msg : List UInt8) : Ob := { o with state := whenR o r, reason := r, msg := msg }
def revM (o : Ob) (r : Int) (msg : List UInt8) (oc : Bool × Int) (t : Int) : Ob :=
  if r = 2 then dput (dput (revP o r msg) 7 (true, t)) 6 (if oc.1 then oc else dget o 0) else dput (revP o r msg) 4 (true, t)
theorem revU_eq (o : Ob) (r : Int) (msg : List UInt8) (oc : Bool × Int) (t : Int) : revU o r msg oc t = dput (revM o r msg oc t) 9 (true, t) := rfl
theorem revM_ten (o : Ob) (r : Int) (msg : List UInt8) (oc : Bool × Int) (t : Int) (h : o.dates.length = 10) : (revM o r msg oc t).dates.length = 10 := by
  unfold revM
  split
  · show (List.set (List.set _ _ _) _ _).length = 10
    rw [List.length_set, List.length_set]; exact h
  · show (List.set _ _ _).length = 10
    rw [List.length_set]; exact h
set_option maxRecDepth 100000 in
set_option maxHeartbeats 8000000 in
theorem revoked_any (o : Ob) (mv nv lv cv : Value) (r : Int) (msg : List UInt8) (oc : Bool × Int) (now : Int) (w : World) (hd : o.dates.length = 10) (h1 : mv.oneCell' = true) (h2 : nv.oneCell' = true) (h3 : lv.oneCell' = true) (h4 : cv.oneCell' = true) :
    Calls Tryd.prog 47 #[.agg (pcells o mv nv lv cv r msg oc now).toArray] w fun e w' => e = .returned (val (revM o r msg oc now) mv nv lv cv) ∧ Only (fun _ => False) w w' := by
  obtain ⟨w1, k1, e1, ek1, hb1, o1, hs1⟩ := boxed w (pcells o mv nv lv cv r msg oc now).toArray 56
  obtain ⟨w2, k2, e2, ek2, hb2, o2, hs2⟩ := boxed w1 Zo.toArray 32
  obtain ⟨w3, k3, e3, ek3, hb3, o3, hs3⟩ := boxed w2 Zo.toArray 32
  rw [List.toList_toArray] at hb1
  have hk1 : w.heap.size ≤ k1 := by omega
  have hk2 : k1 < k2 := by omega
  have hk3 : k2 < k3 := by omega
  have HD := hide hd
  have hl37 := cells_len o mv nv lv cv hd
  have hb3' : Bx w3 k3 32 Zo := hb3
  have hth3 : w3.there k3 0 (cells o mv nv lv cv).toArray.size := bx_there hb3' _ (by rw [List.size_toArray, hl37]; rfl)
  have HB3 : Hid (Bx (w3.setCells k3 0 (cells o mv nv lv cv)) k3 32 (cells o mv nv lv cv)) := setCells_bx hb3' _ (by rw [hl37]; rfl)
  have q3 : Only (fun j => j = k3) w3 (w3.setCells k3 0 (cells o mv nv lv cv)) := Only.setCells (S := fun j => j = k3) (fun _ => rfl) _ _ _ (Only.refl _ _)
  have HB : Hid (Bx (w3.setCells k3 0 (cells o mv nv lv cv)) k1 56 (pcells o mv nv lv cv r msg oc now)) := ((hb1.same o2).same o3).only q3 (by show ¬ k1 = k3; omega)
  have HZ : Hid (Bx (w3.setCells k3 0 (cells o mv nv lv cv)) k2 32 Zo) := (show Bx w3 k2 32 Zo from (show Bx w2 k2 32 Zo from hb2).same o3).only q3 (by show ¬ k2 = k3; omega)
  have OW : Hid (Only (fun _ => False) w (w3.setCells k3 0 (cells o mv nv lv cv))) := ((o1.trans o2 (fun _ _ e => e)).trans o3 (fun _ _ e => e)).trans q3 (fun j hj e => by omega)
  have HR0 : Hid (w2.rangeAt k1 0 (cells o mv nv lv cv)) := prange o mv nv lv cv r msg oc now hd (hb1.same o2)
  have HS37 := hide (size_cells o mv nv lv cv hd)
  have HS37A := hide (size_cellsA o mv nv lv cv hd)
  have HONE := hide (cells_oneV o mv nv lv cv h1 h2 h3 h4)
  have HE1 := hide e1
  have HEK1 := hide ek1
  have HE2 := hide e2
  have HEK2 := hide ek2
  have HE3 := hide e3
  have HEK3 := hide ek3
  have HK12 : Hid (k1 + 1 = k2) := by show _ = _; omega
  have HK23 : Hid (k1 + 1 + 1 = k3) := by show _ = _; omega
  have HTH3 := hide hth3
  have HO1 := hide h1
  have HO2 := hide h2
  have HO3 := hide h3
  have HO4 := hide h4
  obtain ⟨dsc, hdu, hdr⟩ := row_desc Tryd.rowObj
  obtain ⟨dsp, hpu, hpr⟩ := row_desc Tryd.rowPlea
  unfold val
  obtain ⟨A, hA⟩ : ∃ A, A = pcells o mv nv lv cv r msg oc now := ⟨_, rfl⟩
  obtain ⟨C, hC⟩ : ∃ C, C = cells o mv nv lv cv := ⟨_, rfl⟩
  have HA := hide hA
  have HC := hide hC
  rw [← hA] at HE1 HB ⊢
  rw [← hC] at HR0 HS37 HS37A HONE HTH3 HB3 HB HZ OW
  clear hA hC hb1 hb2 hb3 hb3' hth3 o1 o2 o3 hs1 hs2 hs3 e1 ek1 e2 ek2 e3 ek3 hd h1 h2 h3 h4 hl37 q3
  go_enter Tryd.func47, Tryd.ntmps47
  go_upto_region 1 with fail
  rw [zo_eq, ← unhide HE1, ← unhide HEK1, ← unhide HE2, unhide HK12]
  clear HE1 HEK1 HE2
  go_upto_region 2 with (first
    | (refine wpList_load_mid rfl 32 (.tmp 4) rfl k1 0 rfl C dsc (unhide HR0) hdu hdr (unhide HS37) ?_)
    | (rw [zo_eq, ← unhide HE3, ← unhide HEK3]; refine wpList_store_mid rfl 32 (.tmp 3) (.tmp 5) rfl k3 0 C.toArray rfl rfl (unhide HTH3) (unhide HS37A) (unhide HONE) ?_))
  try simp only [List.toList_toArray]
  clear HE3 HEK3 HTH3 HS37 HS37A HONE HR0
  generalize (w3.setCells k3 0 C) = x1 at *
  have hr42 : x1.rangeAt k1 0 A := by rw [unhide HA]; exact prange42 o mv nv lv cv r msg oc now (unhide HD) (by rw [← unhide HA]; exact unhide HB)
  have HR42 := hide hr42
  have HS42 : Hid ((Tryd.prog.info? 56).map (·.size) = some A.length) := by show _ = _; rw [unhide HA]; exact size42 o mv nv lv cv r msg oc now (unhide HD)
  have HWR : Hid (∀ w', Calls Tryd.prog 54 #[.agg A.toArray] w' fun e w'' => e = .returned (.int .i64 (whenR o r)) ∧ Only (fun _ => False) w' w'') := fun w' => by rw [unhide HA]; exact whenRevoked_any o mv nv lv cv r msg oc now w' (unhide HD)
  have C37 : Hid (x1.cell? ⟨k1, 37, none⟩ = some (.int .i64 r)) := (unhide HB).cell 37 _ (by rw [unhide HA]; exact pcells_tail o mv nv lv cv r msg oc now (unhide HD) 0)
  have C38 : Hid (x1.cell? ⟨k1, 38, none⟩ = some (.string (str msg))) := (unhide HB).cell 38 _ (by rw [unhide HA]; exact pcells_tail o mv nv lv cv r msg oc now (unhide HD) 1)
  have hn13 : ¬ k1 = k3 := by omega
  have Q := hide ((Only.refl (fun j => j = k3) x1).drew)
  obtain ⟨V, hV⟩ : ∃ V, V = whenR o r := ⟨_, rfl⟩
  rw [← hV] at HWR
  have HV := hide hV
  obtain ⟨MS, hMS⟩ : ∃ MS, MS = str msg := ⟨_, rfl⟩
  rw [← hMS] at C38
  have HMS := hide hMS
  clear hr42 hV hMS
  refine wp_region_held_drew (S := (fun w' => Only (fun j => j = k3) x1 w')) (by kernel_rfl) ((Only.refl _ _).drew) (fun hHeld => ?_)
  refine wpAnyH_take (i := 0) (v := ?v1) rfl (by kernel_rfl) (by kernel_rfl) (by kernel_rfl) (fun _ _ _ h => h) (Or.inl ⟨by rfl, ?hy1⟩) (by assumption) ?rest1
  case hy1 =>
    intro w hSw
    (refine exec_load_mid 56 (.tmp 1) ?_ k1 0 ?_ A dsp (rangeAt_only (unhide HR42) hSw hn13) hpu hpr (unhide HS42) <;> rfl)
  try simp only [Act.put, List.setIfInBounds_toArray, List.set_cons_zero, List.set_cons_succ, List.getElem_toArray, List.getElem_cons_succ, List.getElem_cons_zero]
  refine wpAnyH_take (i := 2) (v := ?v2) rfl (by kernel_rfl) (by kernel_rfl) (by kernel_rfl) (fun _ _ _ h => h) (Or.inl ⟨by rfl, ?hy2⟩) (by assumption) ?rest2
  case hy2 =>
    intro w hSw
    go_simp
    try with_reducible rfl
  try simp only [Act.put, List.setIfInBounds_toArray, List.set_cons_zero, List.set_cons_succ, List.getElem_toArray, List.getElem_cons_succ, List.getElem_cons_zero]
  refine wpAnyH_take (i := 3) (v := ?v3) rfl (by kernel_rfl) (by kernel_rfl) (by kernel_rfl) (fun _ _ _ h => h) (Or.inl ⟨by rfl, ?hy3⟩) (by assumption) ?rest3
  case hy3 =>
    intro w hSw
    (have q := hSw.cell (unhide C37) hn13; go_simp; try with_reducible rfl)
  try simp only [Act.put, List.setIfInBounds_toArray, List.set_cons_zero, List.set_cons_succ, List.getElem_toArray, List.getElem_cons_succ, List.getElem_cons_zero]
  refine wpAnyH_take (i := 4) (v := ?v4) rfl (by kernel_rfl) (by kernel_rfl) (by kernel_rfl) (fun _ _ _ h => h) (Or.inl ⟨by rfl, ?hy4⟩) (by assumption) ?rest4
  case hy4 =>
    intro w hSw
    go_simp
    try with_reducible rfl
  try simp only [Act.put, List.setIfInBounds_toArray, List.set_cons_zero, List.set_cons_succ, List.getElem_toArray, List.getElem_cons_succ, List.getElem_cons_zero]
  refine wpAnyH_take (i := 5) (v := ?v5) rfl (by kernel_rfl) (by kernel_rfl) (by kernel_rfl) (fun _ _ _ h => h) (Or.inl ⟨by rfl, ?hy5⟩) (by assumption) ?rest5
  case hy5 =>
    intro w hSw
    (have q := hSw.cell (unhide C38) hn13; go_simp; try with_reducible rfl)
  try simp only [Act.put, List.setIfInBounds_toArray, List.set_cons_zero, List.set_cons_succ, List.getElem_toArray, List.getElem_cons_succ, List.getElem_cons_zero]
  refine wpAnyH_ready (rs := [1]) (by kernel_rfl) (by simp) ?_
  refine AllReadyH.cons rfl (fun K hK => ?_) AllReadyH.nil
  go_simp
  go_wp2_with fail; refine (unhide HWR _).mono ?_; rintro e y ⟨rfl, oy⟩; have Q2 := hide ((unhide Q).trans oy (fun _ _ e => e.elim)); have hby := ((unhide HB3).same ((Only.refl _ _).drew)).same oy; have g1 := hby.cell 6 (.int .i64 o.state) (by rw [unhide HC]; exact cell_state o mv nv lv cv); have g2 := hby.cell 27 (.int .i64 o.reason) (by rw [unhide HC]; exact cells_back o mv nv lv cv (unhide HD) 0); have g3 := hby.cell 28 (.string (str o.msg)) (by rw [unhide HC]; exact cells_back o mv nv lv cv (unhide HD) 1); have f1 := hby.free; have HBY := hide hby; have OY := hide ((Only.refl (fun _ => False) x1).drew.trans oy (fun _ _ e => e)); clear hby oy
  refine hK.out _ _ ((unhide Q2)) (fun hHeld => ?_)
  clear hK K
  try simp only [Act.put, List.setIfInBounds_toArray, List.set_cons_zero, List.set_cons_succ, List.getElem_toArray, List.getElem_cons_succ, List.getElem_cons_zero]
  refine wpAnyH_take (i := 6) (v := ?v6) rfl (by kernel_rfl) (by kernel_rfl) (by kernel_rfl) (fun _ _ _ h => h) (Or.inl ⟨by rfl, ?hy6⟩) (by assumption) ?rest6
  case hy6 =>
    intro w hSw
    go_simp
    try with_reducible rfl
  try simp only [Act.put, List.setIfInBounds_toArray, List.set_cons_zero, List.set_cons_succ, List.getElem_toArray, List.getElem_cons_succ, List.getElem_cons_zero]
  refine wpAnyH_ready (rs := [7]) (by kernel_rfl) (by simp) ?_
  refine AllReadyH.cons rfl (fun K hK => ?_) AllReadyH.nil
  go_simp
  refine hK.out _ _ ((by exact (unhide Q2).trans ((Only.refl _ _).here _ _) (fun _ _ e => e))) (fun hHeld => ?_)
  clear hK K
  try simp only [Act.put, List.setIfInBounds_toArray, List.set_cons_zero, List.set_cons_succ, List.getElem_toArray, List.getElem_cons_succ, List.getElem_cons_zero]
  refine wpAnyH_take (i := 8) (v := ?v7) rfl (by kernel_rfl) (by kernel_rfl) (by kernel_rfl) (fun _ _ _ h => h) (Or.inl ⟨by rfl, ?hy7⟩) (by assumption) ?rest7
  case hy7 =>
    intro w hSw
    go_simp
    try with_reducible rfl
  try simp only [Act.put, List.setIfInBounds_toArray, List.set_cons_zero, List.set_cons_succ, List.getElem_toArray, List.getElem_cons_succ, List.getElem_cons_zero]
  refine wpAnyH_ready (rs := [9]) (by kernel_rfl) (by simp) ?_
  refine AllReadyH.cons rfl (fun K hK => ?_) AllReadyH.nil
  go_simp
  refine hK.out _ _ ((by exact (unhide Q2).trans (((Only.refl _ _).here _ _).here _ _) (fun _ _ e => e))) (fun hHeld => ?_)
  clear hK K
  try simp only [Act.put, List.setIfInBounds_toArray, List.set_cons_zero, List.set_cons_succ, List.getElem_toArray, List.getElem_cons_succ, List.getElem_cons_zero]
  refine wpAnyH_take (i := 10) (v := ?v8) rfl (by kernel_rfl) (by kernel_rfl) (by kernel_rfl) (fun _ _ _ h => h) (Or.inl ⟨by rfl, ?hy8⟩) (by assumption) ?rest8
  case hy8 =>
    intro w hSw
    go_simp
    try with_reducible rfl
  try simp only [Act.put, List.setIfInBounds_toArray, List.set_cons_zero, List.set_cons_succ, List.getElem_toArray, List.getElem_cons_succ, List.getElem_cons_zero]
  refine wpAnyH_ready (rs := [11]) (by kernel_rfl) (by simp) ?_
  refine AllReadyH.cons rfl (fun K hK => ?_) AllReadyH.nil
  go_simp
  refine hK.out _ _ ((by exact (unhide Q2).trans ((((Only.refl _ _).here _ _).here _ _).here _ _) (fun _ _ e => e))) (fun hHeld => ?_)
  clear hK K
  try simp only [Act.put, List.setIfInBounds_toArray, List.set_cons_zero, List.set_cons_succ, List.getElem_toArray, List.getElem_cons_succ, List.getElem_cons_zero]
  refine wpAnyH_done (by kernel_rfl) ?_ _
  have HBO : Hid (Bx (((y.setCell ⟨k3, 6, none⟩ (.int .i64 V)).setCell ⟨k3, 27, none⟩ (.int .i64 r)).setCell ⟨k3, 28, none⟩ (.string MS)) k3 32 (cells (revP o r msg) mv nv lv cv)) := by
    have h := (((unhide HBY).set 6 (.int .i64 V)).set 27 (.int .i64 r)).set 28 (.string MS)
    rw [unhide HC, unhide HMS, set_state o mv nv lv cv (unhide HD), set_reason { o with state := V } mv nv lv cv (unhide HD), set_msg { o with state := V, reason := r } mv nv lv cv (unhide HD)] at h
    rw [unhide HMS]
    unfold revP
    rw [← unhide HV]
    exact h
  have q_ : Only (fun j => j = k3) y (((y.setCell ⟨k3, 6, none⟩ (.int .i64 V)).setCell ⟨k3, 27, none⟩ (.int .i64 r)).setCell ⟨k3, 28, none⟩ (.string MS)) := (((Only.refl _ _).here _ _).here _ _).here _ _
  have HB' := hide (((unhide HB).same (unhide OY)).only q_ (by show ¬ k1 = k3; omega))
  have HZ' := hide (((unhide HZ).same (unhide OY)).only q_ (by show ¬ k2 = k3; omega))
  have OW' := hide (((unhide OW).trans (unhide OY) (fun _ _ e => e)).trans (T := fun j => j = k3) q_ (fun j hj e => by omega))
  have HDP : Hid ((revP o r msg).dates.length = 10) := unhide HD
  clear HB HZ OW q_ g1 g2 g3 f1 HBY OY Q Q2 HR42 HS42 HWR C37 C38 HB3
  rename_i h1_ h2_ h3_ h4_
  clear h1_ h2_ h3_ h4_ hHeld
  generalize (((y.setCell ⟨k3, 6, none⟩ (.int .i64 V)).setCell ⟨k3, 27, none⟩ (.int .i64 r)).setCell ⟨k3, 28, none⟩ (.string MS)) = x2 at *
  have HB := HB'
  have HZ := HZ'
  have OW := OW'
  clear HB' HZ' OW'
  have c37 := (unhide HB).cell 37 (.int .i64 r) (by rw [unhide HA]; exact pcells_tail o mv nv lv cv r msg oc now (unhide HD) 0)
  by_cases hr : r = 2
  · as_aux_lemma =>
      rw [hr] at c37
      have HR2 := hide hr
      clear hr
      go_upto_region 6 with fail
      have cn := (unhide HB).cell 41 (.int .i64 now) (by rw [unhide HA]; exact pcells_tail o mv nv lv cv r msg oc now (unhide HD) 4)
      have HON := hide (on_any now x2)
      go_wp2_with fail
      refine (unhide HON).mono ?_
      rintro e z1 ⟨rfl, oz⟩
      have HBz := hide ((unhide HBO).same oz)
      have dz := get_date (revP o r msg) mv nv lv cv (unhide HDP) 7 (by decide)
      have ca := (unhide HBz).cell 21 _ dz.1
      have cb := (unhide HBz).cell 22 _ dz.2
      have fz := (unhide HBz).free
      have HBO' : Hid (Bx ((z1.setCell ⟨k3, 21, none⟩ (.bool true)).setCell ⟨k3, 22, none⟩ (.int .i64 now)) k3 32 (cells (dput (revP o r msg) 7 (true, now)) mv nv lv cv)) := by
        have h := setCells_blk [.bool true, .int .i64 now] z1 21 _ (unhide HBz)
        rw [set_date (revP o r msg) mv nv lv cv (unhide HDP) 7 (by decide) true now] at h
        exact h
      have q_ : Only (fun j => j = k3) z1 ((z1.setCell ⟨k3, 21, none⟩ (.bool true)).setCell ⟨k3, 22, none⟩ (.int .i64 now)) := ((Only.refl _ _).here _ _).here _ _
      have OW' : Hid (Only (fun _ => False) w ((z1.setCell ⟨k3, 21, none⟩ (.bool true)).setCell ⟨k3, 22, none⟩ (.int .i64 now))) := ((unhide OW).trans oz (fun _ _ e => e)).trans q_ (fun j hj e => by omega)
      have HZ' := hide (((unhide HZ).same oz).only q_ (by show ¬ k2 = k3; omega))
      have HB' := hide (((unhide HB).same oz).only q_ (by show ¬ k1 = k3; omega))
      have HDP' : Hid ((dput (revP o r msg) 7 (true, now)).dates.length = 10) := by show (List.set _ _ _).length = 10; rw [List.length_set]; exact unhide HDP
      clear dz oz cn HON HBz
      go_upto_region 7 with fail
      generalize ((z1.setCell ⟨k3, 21, none⟩ (.bool true)).setCell ⟨k3, 22, none⟩ (.int .i64 now)) = x3 at *
      clear ca cb fz q_ HB OW HZ HBO HDP
      have HB := HB'
      have OW := OW'
      have HZ := HZ'
      have HBO := HBO'
      have HDP := HDP'
      clear HB' OW' HZ' HBO' HDP'
      have c39 := (unhide HB).cell 39 (.bool oc.1) (by rw [unhide HA]; exact pcells_tail o mv nv lv cv r msg oc now (unhide HD) 2)
      have c40 := (unhide HB).cell 40 (.int .i64 oc.2) (by rw [unhide HA]; exact pcells_tail o mv nv lv cv r msg oc now (unhide HD) 3)
      obtain ⟨oh, oa⟩ := oc
      simp only at c39 c40
      have dz := get_date (dput (revP o r msg) 7 (true, now)) mv nv lv cv (unhide HDP) 6 (by decide)
      have ca := (unhide HBO).cell 19 _ dz.1
      have cb := (unhide HBO).cell 20 _ dz.2
      have fz := (unhide HBO).free
      have HBO' : Hid (Bx ((x3.setCell ⟨k3, 19, none⟩ (.bool oh)).setCell ⟨k3, 20, none⟩ (.int .i64 oa)) k3 32 (cells (dput (dput (revP o r msg) 7 (true, now)) 6 (oh, oa)) mv nv lv cv)) := by
        have h := setCells_blk [.bool oh, .int .i64 oa] x3 19 _ (unhide HBO)
        rw [set_date (dput (revP o r msg) 7 (true, now)) mv nv lv cv (unhide HDP) 6 (by decide) oh oa] at h
        exact h
      have q_ : Only (fun j => j = k3) x3 ((x3.setCell ⟨k3, 19, none⟩ (.bool oh)).setCell ⟨k3, 20, none⟩ (.int .i64 oa)) := ((Only.refl _ _).here _ _).here _ _
      have OW' : Hid (Only (fun _ => False) w ((x3.setCell ⟨k3, 19, none⟩ (.bool oh)).setCell ⟨k3, 20, none⟩ (.int .i64 oa))) := (unhide OW).trans q_ (fun j hj e => by omega)
      have HZ' := hide ((unhide HZ).only q_ (by show ¬ k2 = k3; omega))
      have HB' := hide ((unhide HB).only q_ (by show ¬ k1 = k3; omega))
      have HDP' : Hid ((dput (dput (revP o r msg) 7 (true, now)) 6 (oh, oa)).dates.length = 10) := by show (List.set _ _ _).length = 10; rw [List.length_set]; exact unhide HDP
      clear dz
      go_upto_region 8 with fail
      generalize ((x3.setCell ⟨k3, 19, none⟩ (.bool oh)).setCell ⟨k3, 20, none⟩ (.int .i64 oa)) = x4 at *
      clear ca cb fz q_ HB OW HZ HBO HDP c39 c40
      have HB := HB'
      have OW := OW'
      have HZ := HZ'
      have HBO := HBO'
      have HDP := HDP'
      clear HB' OW' HZ' HBO' HDP'
      have c39 := (unhide HB).cell 39 (.bool oh) (by rw [unhide HA]; exact pcells_tail o mv nv lv cv r msg (oh, oa) now (unhide HD) 2)
      cases oh with
      | true =>
        go_upto_region 10 with fail
        have HRM : Hid (revM o r msg (true, oa) now = dput (dput (revP o r msg) 7 (true, now)) 6 (true, oa)) := by show _ = _; unfold revM; rw [if_pos (unhide HR2)]; rfl
        have hr := Bx.whole (o := dput (dput (revP o r msg) 7 (true, now)) 6 (true, oa)) (unhide HBO) (unhide HDP)
        have HSZ := hide (size_cells (dput (dput (revP o r msg) 7 (true, now)) 6 (true, oa)) mv nv lv cv (unhide HDP))
        have HSZA := hide (size_cellsA (dput (dput (revP o r msg) 7 (true, now)) 6 (true, oa)) mv nv lv cv (unhide HDP))
        have HONE := hide (cells_oneV (dput (dput (revP o r msg) 7 (true, now)) 6 (true, oa)) mv nv lv cv (unhide HO1) (unhide HO2) (unhide HO3) (unhide HO4))
        have HL37 := cells_len (dput (dput (revP o r msg) 7 (true, now)) 6 (true, oa)) mv nv lv cv (unhide HDP)
        obtain ⟨B, hB⟩ : ∃ B, B = cells (dput (dput (revP o r msg) 7 (true, now)) 6 (true, oa)) mv nv lv cv := ⟨_, rfl⟩
        rw [← hB] at hr HSZ HSZA HONE HL37
        have HTH : Hid (x4.there k2 0 B.toArray.size) := bx_there (unhide HZ) _ (by rw [List.size_toArray, HL37]; rfl)
        have HFB : Hid (Bx (x4.setCells k2 0 B) k2 32 B) := setCells_bx (unhide HZ) B (by rw [HL37]; rfl)
        have HOF : Hid (Only (fun _ => False) w (x4.setCells k2 0 B)) := Only.setCells (fun h => absurd h (by omega)) _ _ _ (unhide OW)
        have HBB := hide hB
        clear hB HL37 HB OW HZ HBO
        go_wp2_with (first
          | (refine wpList_load_mid rfl 32 (.tmp 3) rfl k3 0 rfl B dsc hr hdu hdr (unhide HSZ) ?_)
          | (refine wpList_store_mid rfl 32 (.tmp 2) (.tmp 42) rfl k2 0 B.toArray rfl rfl (unhide HTH) (unhide HSZA) (unhide HONE) ?_))
        refine bodyPost_ret (results_st rfl _ _ k2 32 B.toArray (0, 0) rfl (unhide HFB) Tryd.rowObjM (unhide HSZA)) rfl ?_
        exact ⟨by rw [unhide HBB, unhide HRM], unhide HOF⟩
      | false =>
        go_upto_region 9 with fail
        have d0 := get_date (dput (dput (revP o r msg) 7 (true, now)) 6 (false, oa)) mv nv lv cv (unhide HDP) 0 (by decide)
        have d6 := get_date (dput (dput (revP o r msg) 7 (true, now)) 6 (false, oa)) mv nv lv cv (unhide HDP) 6 (by decide)
        have c7 := (unhide HBO).cell 7 _ d0.1
        have c8 := (unhide HBO).cell 8 _ d0.2
        have ca := (unhide HBO).cell 19 _ d6.1
        have cb := (unhide HBO).cell 20 _ d6.2
        have fz := (unhide HBO).free
        obtain ⟨G, hG⟩ : ∃ G, G = (dput (dput (revP o r msg) 7 (true, now)) 6 (false, oa)).dates.getD 0 (false, 0) := ⟨_, rfl⟩
        have HG : Hid (G = dget o 0) := by
          show _ = _
          rw [hG]
          show dget (dput (dput (revP o r msg) 7 (true, now)) 6 (false, oa)) 0 = dget o 0
          rw [dget_dput _ _ _ _ (by decide), dget_dput _ _ _ _ (by decide)]
          rfl
        rw [← hG] at c7 c8
        clear hG
        have HBO' : Hid (Bx ((x4.setCell ⟨k3, 19, none⟩ (.bool G.1)).setCell ⟨k3, 20, none⟩ (.int .i64 G.2)) k3 32 (cells (dput (dput (dput (revP o r msg) 7 (true, now)) 6 (false, oa)) 6 (G.1, G.2)) mv nv lv cv)) := by
          have h := setCells_blk [.bool G.1, .int .i64 G.2] x4 19 _ (unhide HBO)
          rw [set_date (dput (dput (revP o r msg) 7 (true, now)) 6 (false, oa)) mv nv lv cv (unhide HDP) 6 (by decide) G.1 G.2] at h
          exact h
        have q_ : Only (fun j => j = k3) x4 ((x4.setCell ⟨k3, 19, none⟩ (.bool G.1)).setCell ⟨k3, 20, none⟩ (.int .i64 G.2)) := ((Only.refl _ _).here _ _).here _ _
        have OW' : Hid (Only (fun _ => False) w ((x4.setCell ⟨k3, 19, none⟩ (.bool G.1)).setCell ⟨k3, 20, none⟩ (.int .i64 G.2))) := (unhide OW).trans q_ (fun j hj e => by omega)
        have HZ' := hide ((unhide HZ).only q_ (by show ¬ k2 = k3; omega))
        have HB' := hide ((unhide HB).only q_ (by show ¬ k1 = k3; omega))
        have HDP' : Hid ((dput (dput (dput (revP o r msg) 7 (true, now)) 6 (false, oa)) 6 (G.1, G.2)).dates.length = 10) := by show (List.set _ _ _).length = 10; rw [List.length_set]; exact unhide HDP
        clear d0 d6
        obtain ⟨g1, g2⟩ := G
        simp only at c7 c8 HBO' q_ OW' HZ' HB' HDP'
        go_upto_region 10 with fail
        generalize ((x4.setCell ⟨k3, 19, none⟩ (.bool g1)).setCell ⟨k3, 20, none⟩ (.int .i64 g2)) = x5 at *
        clear ca cb fz q_ HB OW HZ HBO HDP c7 c8 c39
        have HB := HB'
        have OW := OW'
        have HZ := HZ'
        have HBO := HBO'
        have HDP := HDP'
        clear HB' OW' HZ' HBO' HDP'
        have HRM : Hid (revM o r msg (false, oa) now = dput (dput (dput (revP o r msg) 7 (true, now)) 6 (false, oa)) 6 (g1, g2)) := by
          show _ = _
          unfold revM
          rw [if_pos (unhide HR2), unhide HG]
          show dput _ 6 (dget o 0) = _
          unfold dput
          simp only [List.set_set]
        have hr := Bx.whole (o := dput (dput (dput (revP o r msg) 7 (true, now)) 6 (false, oa)) 6 (g1, g2)) (unhide HBO) (unhide HDP)
        have HSZ := hide (size_cells (dput (dput (dput (revP o r msg) 7 (true, now)) 6 (false, oa)) 6 (g1, g2)) mv nv lv cv (unhide HDP))
        have HSZA := hide (size_cellsA (dput (dput (dput (revP o r msg) 7 (true, now)) 6 (false, oa)) 6 (g1, g2)) mv nv lv cv (unhide HDP))
        have HONE := hide (cells_oneV (dput (dput (dput (revP o r msg) 7 (true, now)) 6 (false, oa)) 6 (g1, g2)) mv nv lv cv (unhide HO1) (unhide HO2) (unhide HO3) (unhide HO4))
        have HL37 := cells_len (dput (dput (dput (revP o r msg) 7 (true, now)) 6 (false, oa)) 6 (g1, g2)) mv nv lv cv (unhide HDP)
        obtain ⟨B, hB⟩ : ∃ B, B = cells (dput (dput (dput (revP o r msg) 7 (true, now)) 6 (false, oa)) 6 (g1, g2)) mv nv lv cv := ⟨_, rfl⟩
        rw [← hB] at hr HSZ HSZA HONE HL37
        have HTH : Hid (x5.there k2 0 B.toArray.size) := bx_there (unhide HZ) _ (by rw [List.size_toArray, HL37]; rfl)
        have HFB : Hid (Bx (x5.setCells k2 0 B) k2 32 B) := setCells_bx (unhide HZ) B (by rw [HL37]; rfl)
        have HOF : Hid (Only (fun _ => False) w (x5.setCells k2 0 B)) := Only.setCells (fun h => absurd h (by omega)) _ _ _ (unhide OW)
        have HBB := hide hB
        clear hB HL37 HB OW HZ HBO
        go_wp2_with (first
          | (refine wpList_load_mid rfl 32 (.tmp 3) rfl k3 0 rfl B dsc hr hdu hdr (unhide HSZ) ?_)
          | (refine wpList_store_mid rfl 32 (.tmp 2) (.tmp 42) rfl k2 0 B.toArray rfl rfl (unhide HTH) (unhide HSZA) (unhide HONE) ?_))
        refine bodyPost_ret (results_st rfl _ _ k2 32 B.toArray (0, 0) rfl (unhide HFB) Tryd.rowObjM (unhide HSZA)) rfl ?_
        exact ⟨by rw [unhide HBB, unhide HRM], unhide HOF⟩
  · as_aux_lemma =>
      go_upto_region 4 with fail
      have cn := (unhide HB).cell 41 (.int .i64 now) (by rw [unhide HA]; exact pcells_tail o mv nv lv cv r msg oc now (unhide HD) 4)
      have HON := hide (on_any now x2)
      go_wp2_with fail
      refine (unhide HON).mono ?_
      rintro e z1 ⟨rfl, oz⟩
      have HBz := hide ((unhide HBO).same oz)
      have dz := get_date (revP o r msg) mv nv lv cv (unhide HDP) 4 (by decide)
      have ca := (unhide HBz).cell 15 _ dz.1
      have cb := (unhide HBz).cell 16 _ dz.2
      have fz := (unhide HBz).free
      have HBO' : Hid (Bx ((z1.setCell ⟨k3, 15, none⟩ (.bool true)).setCell ⟨k3, 16, none⟩ (.int .i64 now)) k3 32 (cells (dput (revP o r msg) 4 (true, now)) mv nv lv cv)) := by
        have h := setCells_blk [.bool true, .int .i64 now] z1 15 _ (unhide HBz)
        rw [set_date (revP o r msg) mv nv lv cv (unhide HDP) 4 (by decide) true now] at h
        exact h
      have q_ : Only (fun j => j = k3) z1 ((z1.setCell ⟨k3, 15, none⟩ (.bool true)).setCell ⟨k3, 16, none⟩ (.int .i64 now)) := ((Only.refl _ _).here _ _).here _ _
      have OW' : Hid (Only (fun _ => False) w ((z1.setCell ⟨k3, 15, none⟩ (.bool true)).setCell ⟨k3, 16, none⟩ (.int .i64 now))) := ((unhide OW).trans oz (fun _ _ e => e)).trans q_ (fun j hj e => by omega)
      have HZ' := hide (((unhide HZ).same oz).only q_ (by show ¬ k2 = k3; omega))
      have HB' := hide (((unhide HB).same oz).only q_ (by show ¬ k1 = k3; omega))
      have HDP' : Hid ((dput (revP o r msg) 4 (true, now)).dates.length = 10) := by show (List.set _ _ _).length = 10; rw [List.length_set]; exact unhide HDP
      clear dz oz cn HON HBz
      go_upto_region 5 with fail
      generalize ((z1.setCell ⟨k3, 15, none⟩ (.bool true)).setCell ⟨k3, 16, none⟩ (.int .i64 now)) = x3 at *
      clear ca cb fz q_ HB OW HZ HBO HDP
      have HB := HB'
      have OW := OW'
      have HZ := HZ'
      have HBO := HBO'
      have HDP := HDP'
      clear HB' OW' HZ' HBO' HDP'
      have HRM : Hid (revM o r msg oc now = dput (revP o r msg) 4 (true, now)) := by show _ = _; unfold revM; rw [if_neg hr]
      have hr := Bx.whole (o := dput (revP o r msg) 4 (true, now)) (unhide HBO) (unhide HDP)
      have HSZ := hide (size_cells (dput (revP o r msg) 4 (true, now)) mv nv lv cv (unhide HDP))
      have HSZA := hide (size_cellsA (dput (revP o r msg) 4 (true, now)) mv nv lv cv (unhide HDP))
      have HONE := hide (cells_oneV (dput (revP o r msg) 4 (true, now)) mv nv lv cv (unhide HO1) (unhide HO2) (unhide HO3) (unhide HO4))
      have HL37 := cells_len (dput (revP o r msg) 4 (true, now)) mv nv lv cv (unhide HDP)
      obtain ⟨B, hB⟩ : ∃ B, B = cells (dput (revP o r msg) 4 (true, now)) mv nv lv cv := ⟨_, rfl⟩
      rw [← hB] at hr HSZ HSZA HONE HL37
      have HTH : Hid (x3.there k2 0 B.toArray.size) := bx_there (unhide HZ) _ (by rw [List.size_toArray, HL37]; rfl)
      have HFB : Hid (Bx (x3.setCells k2 0 B) k2 32 B) := setCells_bx (unhide HZ) B (by rw [HL37]; rfl)
      have HOF : Hid (Only (fun _ => False) w (x3.setCells k2 0 B)) := Only.setCells (fun h => absurd h (by omega)) _ _ _ (unhide OW)
      have HBB := hide hB
      clear hB HL37 HB OW HZ HBO
      go_wp2_with (first
        | (refine wpList_load_mid rfl 32 (.tmp 3) rfl k3 0 rfl B dsc hr hdu hdr (unhide HSZ) ?_)
        | (refine wpList_store_mid rfl 32 (.tmp 2) (.tmp 23) rfl k2 0 B.toArray rfl rfl (unhide HTH) (unhide HSZA) (unhide HONE) ?_))
      refine bodyPost_ret (results_st rfl _ _ k2 32 B.toArray (0, 0) rfl (unhide HFB) Tryd.rowObjM (unhide HSZA)) rfl ?_
      exact ⟨by rw [unhide HBB, unhide HRM], unhide HOF⟩
end Ob
end Go.Proofs.YtadpmninoghcjaaDoor
