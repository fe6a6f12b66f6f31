/-
  life's plea: what comes of the object.
-/
import Derived.Test.YtadpmninoghcjaaDoorLfPlea
namespace Go.Proofs.YtadpmninoghcjaaDoor
open Go.RowKit
set_option linter.unusedSimpArgs false
set_option linter.unusedVariables false
namespace Ob
section
variable (o : Ob) (mv nv lv cv : Value) (r : Int) (msg : List UInt8) (oc : Bool × Int) (now : Int) (hd : o.dates.length = 10)
include hd
theorem pset (i : Nat) (hi : i < 37) (v : Value) (o' : Ob) (mw : Value) (h : (cells o mv nv lv cv).set i v = cells o' mw nv lv cv) : (pcells o mv nv lv cv r msg oc now).set i v = pcells o' mw nv lv cv r msg oc now := by
  unfold pcells
  rw [List.set_append_left _ _ (by rw [cells_len o mv nv lv cv hd]; exact hi), h]
theorem pdate (i : Nat) (hi : i < 10) (b : Bool) (n : Int) : setMany (pcells o mv nv lv cv r msg oc now) (7 + i * 2) [.bool b, .int .i64 n] = pcells (dput o i (b, n)) mv nv lv cv r msg oc now := by
  have h := set_date o mv nv lv cv hd i hi b n
  have hl := cells_len o mv nv lv cv hd
  simp only [setMany] at h ⊢
  unfold pcells dput
  rw [List.set_append_left _ _ (by omega), List.set_append_left _ _ (by rw [List.length_set]; omega), h]
theorem pget_date (i : Nat) (hi : i < 10) : (pcells o mv nv lv cv r msg oc now)[7 + i * 2]? = some (.bool (o.dates.getD i (false, 0)).1) ∧ (pcells o mv nv lv cv r msg oc now)[7 + i * 2 + 1]? = some (.int .i64 (o.dates.getD i (false, 0)).2) := by
  have h := get_date o mv nv lv cv hd i hi
  exact ⟨(pcells_at o mv nv lv cv r msg oc now hd _ (by omega)).trans h.1, (pcells_at o mv nv lv cv r msg oc now hd _ (by omega)).trans h.2⟩
theorem prange {w : World} {k : Nat} (h : Bx w k 56 (pcells o mv nv lv cv r msg oc now)) : w.rangeAt k 0 (cells o mv nv lv cv) := by
  have hr := h.range 0 37
  rw [List.drop_zero] at hr
  unfold pcells at hr
  rwa [List.take_append_of_le_length (by rw [cells_len o mv nv lv cv hd]; omega), List.take_of_length_le (by rw [cells_len o mv nv lv cv hd]; omega)] at hr
theorem prange42 {w : World} {k : Nat} (h : Bx w k 56 (pcells o mv nv lv cv r msg oc now)) : w.rangeAt k 0 (pcells o mv nv lv cv r msg oc now) := by
  have hr := h.range 0 42
  rwa [List.drop_zero, List.take_of_length_le (by rw [pcells_len o mv nv lv cv r msg oc now hd]; omega)] at hr
theorem size42 : (Tryd.prog.info? 56).map (·.size) = some (pcells o mv nv lv cv r msg oc now).length := by rw [pcells_len o mv nv lv cv r msg oc now hd]; exact Tryd.sizePlea
end
theorem cells_oneV (o : Ob) (mv nv lv cv : Value) (h1 : mv.oneCell' = true) (h2 : nv.oneCell' = true) (h3 : lv.oneCell' = true) (h4 : cv.oneCell' = true) : (cells o mv nv lv cv).toArray.all (·.oneCell') = true := all_oneCell_toArray (cells_one o mv nv lv cv h1 h2 h3 h4)

set_option maxRecDepth 100000 in
set_option maxHeartbeats 8000000 in
theorem recovered_any (o : Ob) (mv nv lv cv : Value) (r : Int) (msg : List UInt8) (oc : Bool × Int) (now : Int) (w : World) (hd : o.dates.length = 10) (h1 : mv.oneCell' = true) (h2 : nv.oneCell' = true) (h3 : lv.oneCell' = true) (h4 : cv.oneCell' = true) :
    Calls Tryd.prog 52 #[.agg (pcells o mv nv lv cv r msg oc now).toArray] w fun e w' => e = .returned (val ({ o with arch := false }) mv nv lv cv) ∧ Only (fun _ => False) w w' := by
  obtain ⟨w1, k1, e1, ek1, hb1, o1, hs1⟩ := boxed w (pcells o mv nv lv cv r msg oc now).toArray 56
  obtain ⟨w2, k2, e2, ek2, hb2, o2, hs2⟩ := boxed w1 Zo.toArray 32
  rw [List.toList_toArray] at hb1
  have OW := hide (o1.trans o2 (fun _ _ e => e))
  have HB := hide (hb1.same o2)
  have HZ : Hid (Bx w2 k2 32 Zo) := hb2
  have hk1 : w.heap.size ≤ k1 := by omega
  have hk2 : k1 < k2 := by omega
  have HE1 := hide e1
  have HEK1 := hide ek1
  have HE2 := hide e2
  have HK12 : Hid (k1 + 1 = k2) := by show _ = _; omega
  have HD := hide hd
  have HO1 := hide h1
  have HO2 := hide h2
  have HO3 := hide h3
  have HO4 := hide h4
  obtain ⟨dsc, hdu, hdr⟩ := row_desc Tryd.rowObj
  obtain ⟨dsp, hpu, hpr⟩ := row_desc Tryd.rowPlea
  unfold val
  obtain ⟨A, hA⟩ : ∃ A, A = pcells o mv nv lv cv r msg oc now := ⟨_, rfl⟩
  have HA := hide hA
  rw [← hA] at HE1 ⊢
  clear hA hb1 hb2 o1 o2 hs1 hs2 e1 ek1 e2 ek2 hd h1 h2 h3 h4
  go_enter Tryd.func52, Tryd.ntmps52
  go_upto_region 1 with fail
  rw [zo_eq, ← unhide HE1, ← unhide HEK1, ← unhide HE2, unhide HK12]
  clear HE1 HEK1 HE2
  have c_ := (unhide HB).cell 36 _ (pcell_arch (o) mv nv lv cv r msg oc now (unhide HD))
  have f_ := (unhide HB).free 36
  have q_ : Only (fun j => j = k1) w2 (w2.setCell ⟨k1, 36, none⟩ (.bool false)) := (Only.refl _ _).here _ _
  have HB' : Hid (Bx (w2.setCell ⟨k1, 36, none⟩ (.bool false)) k1 56 (pcells ({ o with arch := false }) mv nv lv cv r msg oc now)) := by
    rw [← pset (o) mv nv lv cv r msg oc now (unhide HD) 36 (by decide) (.bool false) ({ o with arch := false }) mv (set_arch o mv nv lv cv (unhide HD) false)]
    exact (unhide HB).set 36 _
  have OW' : Hid (Only (fun _ => False) w (w2.setCell ⟨k1, 36, none⟩ (.bool false))) := (unhide OW).trans q_ (fun j hj e => by omega)
  have HZ' := hide ((unhide HZ).only q_ (by show ¬ k2 = k1; omega))
  go_upto_region 2 with fail
  generalize (w2.setCell ⟨k1, 36, none⟩ (.bool false)) = x1 at *
  clear c_ f_ q_ HB OW HZ
  have HB := HB'
  have OW := OW'
  have HZ := HZ'
  clear HB' OW' HZ'
  have hr := prange ({ o with arch := false }) mv nv lv cv r msg oc now (unhide HD) (unhide HB)
  have HSZ := hide (size_cells ({ o with arch := false }) mv nv lv cv (unhide HD))
  have HSZA := hide (size_cellsA ({ o with arch := false }) mv nv lv cv (unhide HD))
  have HONE := hide (cells_oneV ({ o with arch := false }) mv nv lv cv (unhide HO1) (unhide HO2) (unhide HO3) (unhide HO4))
  have HL37 := cells_len ({ o with arch := false }) mv nv lv cv (unhide HD)
  obtain ⟨B, hB⟩ : ∃ B, B = cells ({ o with arch := false }) mv nv lv cv := ⟨_, rfl⟩
  rw [← hB] at hr HSZ HSZA HONE HL37
  have HTH : Hid (x1.there k2 0 B.toArray.size) := bx_there (unhide HZ) _ (by rw [List.size_toArray, HL37]; rfl)
  have HFB : Hid (Bx (x1.setCells k2 0 B) k2 32 B) := setCells_bx (unhide HZ) B (by rw [HL37]; rfl)
  have HOF : Hid (Only (fun _ => False) w (x1.setCells k2 0 B)) := Only.setCells (fun h => absurd h (by omega)) _ _ _ (unhide OW)
  have HBB := hide hB
  clear hB HL37 HB OW HZ
  go_wp2_with (first
    | (refine wpList_load_mid rfl 32 (.tmp 5) rfl k1 0 rfl B dsc hr hdu hdr (unhide HSZ) ?_)
    | (refine wpList_store_mid rfl 32 (.tmp 2) (.tmp 6) rfl k2 0 B.toArray rfl rfl (unhide HTH) (unhide HSZA) (unhide HONE) ?_))
  refine bodyPost_ret (results_st rfl _ _ k2 32 B.toArray (0, 0) rfl (unhide HFB) Tryd.rowObjM (unhide HSZA)) rfl ?_
  exact ⟨by rw [unhide HBB], unhide HOF⟩
set_option maxRecDepth 100000 in
set_option maxHeartbeats 8000000 in
theorem archived_any (o : Ob) (mv nv lv cv : Value) (r : Int) (msg : List UInt8) (oc : Bool × Int) (now : Int) (w : World) (hd : o.dates.length = 10) (h1 : mv.oneCell' = true) (h2 : nv.oneCell' = true) (h3 : lv.oneCell' = true) (h4 : cv.oneCell' = true) :
    Calls Tryd.prog 50 #[.agg (pcells o mv nv lv cv r msg oc now).toArray] w fun e w' => e = .returned (val (dput { o with arch := true } 8 (true, now)) mv nv lv cv) ∧ Only (fun _ => False) w w' := by
  obtain ⟨w1, k1, e1, ek1, hb1, o1, hs1⟩ := boxed w (pcells o mv nv lv cv r msg oc now).toArray 56
  obtain ⟨w2, k2, e2, ek2, hb2, o2, hs2⟩ := boxed w1 Zo.toArray 32
  rw [List.toList_toArray] at hb1
  have OW := hide (o1.trans o2 (fun _ _ e => e))
  have HB := hide (hb1.same o2)
  have HZ : Hid (Bx w2 k2 32 Zo) := hb2
  have hk1 : w.heap.size ≤ k1 := by omega
  have hk2 : k1 < k2 := by omega
  have HE1 := hide e1
  have HEK1 := hide ek1
  have HE2 := hide e2
  have HK12 : Hid (k1 + 1 = k2) := by show _ = _; omega
  have HD := hide hd
  have HO1 := hide h1
  have HO2 := hide h2
  have HO3 := hide h3
  have HO4 := hide h4
  obtain ⟨dsc, hdu, hdr⟩ := row_desc Tryd.rowObj
  obtain ⟨dsp, hpu, hpr⟩ := row_desc Tryd.rowPlea
  unfold val
  obtain ⟨A, hA⟩ : ∃ A, A = pcells o mv nv lv cv r msg oc now := ⟨_, rfl⟩
  have HA := hide hA
  rw [← hA] at HE1 ⊢
  clear hA hb1 hb2 o1 o2 hs1 hs2 e1 ek1 e2 ek2 hd h1 h2 h3 h4
  go_enter Tryd.func50, Tryd.ntmps50
  go_upto_region 1 with fail
  rw [zo_eq, ← unhide HE1, ← unhide HEK1, ← unhide HE2, unhide HK12]
  clear HE1 HEK1 HE2
  have c_ := (unhide HB).cell 36 _ (pcell_arch (o) mv nv lv cv r msg oc now (unhide HD))
  have f_ := (unhide HB).free 36
  have q_ : Only (fun j => j = k1) w2 (w2.setCell ⟨k1, 36, none⟩ (.bool true)) := (Only.refl _ _).here _ _
  have HB' : Hid (Bx (w2.setCell ⟨k1, 36, none⟩ (.bool true)) k1 56 (pcells ({ o with arch := true }) mv nv lv cv r msg oc now)) := by
    rw [← pset (o) mv nv lv cv r msg oc now (unhide HD) 36 (by decide) (.bool true) ({ o with arch := true }) mv (set_arch o mv nv lv cv (unhide HD) true)]
    exact (unhide HB).set 36 _
  have OW' : Hid (Only (fun _ => False) w (w2.setCell ⟨k1, 36, none⟩ (.bool true))) := (unhide OW).trans q_ (fun j hj e => by omega)
  have HZ' := hide ((unhide HZ).only q_ (by show ¬ k2 = k1; omega))
  go_upto_region 2 with fail
  generalize (w2.setCell ⟨k1, 36, none⟩ (.bool true)) = x1 at *
  clear c_ f_ q_ HB OW HZ
  have HB := HB'
  have OW := OW'
  have HZ := HZ'
  clear HB' OW' HZ'
  have cn := (unhide HB).cell 41 (.int .i64 now) (pcells_tail ({ o with arch := true }) mv nv lv cv r msg oc now (unhide HD) 4)
  have HON := hide (on_any now x1)
  go_wp2_with fail
  refine (unhide HON).mono ?_
  rintro e z2 ⟨rfl, oz⟩
  have HBz := hide ((unhide HB).same oz)
  have dz := pget_date ({ o with arch := true }) mv nv lv cv r msg oc now (unhide HD) 8 (by decide)
  have ca := (unhide HBz).cell 23 _ dz.1
  have cb := (unhide HBz).cell 24 _ dz.2
  have fz := (unhide HBz).free
  have HB' : Hid (Bx ((z2.setCell ⟨k1, 23, none⟩ (.bool true)).setCell ⟨k1, 24, none⟩ (.int .i64 now)) k1 56 (pcells (dput ({ o with arch := true }) 8 (true, now)) mv nv lv cv r msg oc now)) := by
    have h := setCells_blk [.bool true, .int .i64 now] z2 23 _ (unhide HBz)
    rw [pdate ({ o with arch := true }) mv nv lv cv r msg oc now (unhide HD) 8 (by decide) true now] at h
    exact h
  have q_ : Only (fun j => j = k1) z2 ((z2.setCell ⟨k1, 23, none⟩ (.bool true)).setCell ⟨k1, 24, none⟩ (.int .i64 now)) := ((Only.refl _ _).here _ _).here _ _
  have OW' : Hid (Only (fun _ => False) w ((z2.setCell ⟨k1, 23, none⟩ (.bool true)).setCell ⟨k1, 24, none⟩ (.int .i64 now))) := ((unhide OW).trans oz (fun _ _ e => e)).trans q_ (fun j hj e => by omega)
  have HZ' := hide (((unhide HZ).same oz).only q_ (by show ¬ k2 = k1; omega))
  clear dz oz cn HON HBz
  go_upto_region 3 with fail
  generalize ((z2.setCell ⟨k1, 23, none⟩ (.bool true)).setCell ⟨k1, 24, none⟩ (.int .i64 now)) = x2 at *
  clear ca cb fz q_ HB OW HZ
  have HB := HB'
  have OW := OW'
  have HZ := HZ'
  clear HB' OW' HZ'
  have HD' : Hid ((dput ({ o with arch := true }) 8 (true, now)).dates.length = 10) := by show (List.set _ _ _).length = 10; rw [List.length_set]; exact unhide HD
  clear HD
  have HD := HD'
  clear HD'
  have hr := prange (dput ({ o with arch := true }) 8 (true, now)) mv nv lv cv r msg oc now (unhide HD) (unhide HB)
  have HSZ := hide (size_cells (dput ({ o with arch := true }) 8 (true, now)) mv nv lv cv (unhide HD))
  have HSZA := hide (size_cellsA (dput ({ o with arch := true }) 8 (true, now)) mv nv lv cv (unhide HD))
  have HONE := hide (cells_oneV (dput ({ o with arch := true }) 8 (true, now)) mv nv lv cv (unhide HO1) (unhide HO2) (unhide HO3) (unhide HO4))
  have HL37 := cells_len (dput ({ o with arch := true }) 8 (true, now)) mv nv lv cv (unhide HD)
  obtain ⟨B, hB⟩ : ∃ B, B = cells (dput ({ o with arch := true }) 8 (true, now)) mv nv lv cv := ⟨_, rfl⟩
  rw [← hB] at hr HSZ HSZA HONE HL37
  have HTH : Hid (x2.there k2 0 B.toArray.size) := bx_there (unhide HZ) _ (by rw [List.size_toArray, HL37]; rfl)
  have HFB : Hid (Bx (x2.setCells k2 0 B) k2 32 B) := setCells_bx (unhide HZ) B (by rw [HL37]; rfl)
  have HOF : Hid (Only (fun _ => False) w (x2.setCells k2 0 B)) := Only.setCells (fun h => absurd h (by omega)) _ _ _ (unhide OW)
  have HBB := hide hB
  clear hB HL37 HB OW HZ
  go_wp2_with (first
    | (refine wpList_load_mid rfl 32 (.tmp 11) rfl k1 0 rfl B dsc hr hdu hdr (unhide HSZ) ?_)
    | (refine wpList_store_mid rfl 32 (.tmp 2) (.tmp 12) rfl k2 0 B.toArray rfl rfl (unhide HTH) (unhide HSZA) (unhide HONE) ?_))
  refine bodyPost_ret (results_st rfl _ _ k2 32 B.toArray (0, 0) rfl (unhide HFB) Tryd.rowObjM (unhide HSZA)) rfl ?_
  exact ⟨by rw [unhide HBB], unhide HOF⟩
set_option maxRecDepth 100000 in
set_option maxHeartbeats 8000000 in
theorem activated_any (o : Ob) (mv nv lv cv : Value) (r : Int) (msg : List UInt8) (oc : Bool × Int) (now : Int) (w : World) (hd : o.dates.length = 10) (h1 : mv.oneCell' = true) (h2 : nv.oneCell' = true) (h3 : lv.oneCell' = true) (h4 : cv.oneCell' = true) :
    Calls Tryd.prog 44 #[.agg (pcells o mv nv lv cv r msg oc now).toArray] w fun e w' => e = .returned (val (dput { o with state := 2 } 1 (true, now)) mv nv lv cv) ∧ Only (fun _ => False) w w' := by
  obtain ⟨w1, k1, e1, ek1, hb1, o1, hs1⟩ := boxed w (pcells o mv nv lv cv r msg oc now).toArray 56
  obtain ⟨w2, k2, e2, ek2, hb2, o2, hs2⟩ := boxed w1 Zo.toArray 32
  rw [List.toList_toArray] at hb1
  have OW := hide (o1.trans o2 (fun _ _ e => e))
  have HB := hide (hb1.same o2)
  have HZ : Hid (Bx w2 k2 32 Zo) := hb2
  have hk1 : w.heap.size ≤ k1 := by omega
  have hk2 : k1 < k2 := by omega
  have HE1 := hide e1
  have HEK1 := hide ek1
  have HE2 := hide e2
  have HK12 : Hid (k1 + 1 = k2) := by show _ = _; omega
  have HD := hide hd
  have HO1 := hide h1
  have HO2 := hide h2
  have HO3 := hide h3
  have HO4 := hide h4
  obtain ⟨dsc, hdu, hdr⟩ := row_desc Tryd.rowObj
  obtain ⟨dsp, hpu, hpr⟩ := row_desc Tryd.rowPlea
  unfold val
  obtain ⟨A, hA⟩ : ∃ A, A = pcells o mv nv lv cv r msg oc now := ⟨_, rfl⟩
  have HA := hide hA
  rw [← hA] at HE1 ⊢
  clear hA hb1 hb2 o1 o2 hs1 hs2 e1 ek1 e2 ek2 hd h1 h2 h3 h4
  go_enter Tryd.func44, Tryd.ntmps44
  go_upto_region 1 with fail
  rw [zo_eq, ← unhide HE1, ← unhide HEK1, ← unhide HE2, unhide HK12]
  clear HE1 HEK1 HE2
  have c_ := (unhide HB).cell 6 _ (pcell_state (o) mv nv lv cv r msg oc now (unhide HD))
  have f_ := (unhide HB).free 6
  have q_ : Only (fun j => j = k1) w2 (w2.setCell ⟨k1, 6, none⟩ (.int .i64 2)) := (Only.refl _ _).here _ _
  have HB' : Hid (Bx (w2.setCell ⟨k1, 6, none⟩ (.int .i64 2)) k1 56 (pcells ({ o with state := 2 }) mv nv lv cv r msg oc now)) := by
    rw [← pset (o) mv nv lv cv r msg oc now (unhide HD) 6 (by decide) (.int .i64 2) ({ o with state := 2 }) mv (set_state o mv nv lv cv (unhide HD) 2)]
    exact (unhide HB).set 6 _
  have OW' : Hid (Only (fun _ => False) w (w2.setCell ⟨k1, 6, none⟩ (.int .i64 2))) := (unhide OW).trans q_ (fun j hj e => by omega)
  have HZ' := hide ((unhide HZ).only q_ (by show ¬ k2 = k1; omega))
  go_upto_region 2 with fail
  generalize (w2.setCell ⟨k1, 6, none⟩ (.int .i64 2)) = x1 at *
  clear c_ f_ q_ HB OW HZ
  have HB := HB'
  have OW := OW'
  have HZ := HZ'
  clear HB' OW' HZ'
  have cn := (unhide HB).cell 41 (.int .i64 now) (pcells_tail ({ o with state := 2 }) mv nv lv cv r msg oc now (unhide HD) 4)
  have HON := hide (on_any now x1)
  go_wp2_with fail
  refine (unhide HON).mono ?_
  rintro e z2 ⟨rfl, oz⟩
  have HBz := hide ((unhide HB).same oz)
  have dz := pget_date ({ o with state := 2 }) mv nv lv cv r msg oc now (unhide HD) 1 (by decide)
  have ca := (unhide HBz).cell 9 _ dz.1
  have cb := (unhide HBz).cell 10 _ dz.2
  have fz := (unhide HBz).free
  have HB' : Hid (Bx ((z2.setCell ⟨k1, 9, none⟩ (.bool true)).setCell ⟨k1, 10, none⟩ (.int .i64 now)) k1 56 (pcells (dput ({ o with state := 2 }) 1 (true, now)) mv nv lv cv r msg oc now)) := by
    have h := setCells_blk [.bool true, .int .i64 now] z2 9 _ (unhide HBz)
    rw [pdate ({ o with state := 2 }) mv nv lv cv r msg oc now (unhide HD) 1 (by decide) true now] at h
    exact h
  have q_ : Only (fun j => j = k1) z2 ((z2.setCell ⟨k1, 9, none⟩ (.bool true)).setCell ⟨k1, 10, none⟩ (.int .i64 now)) := ((Only.refl _ _).here _ _).here _ _
  have OW' : Hid (Only (fun _ => False) w ((z2.setCell ⟨k1, 9, none⟩ (.bool true)).setCell ⟨k1, 10, none⟩ (.int .i64 now))) := ((unhide OW).trans oz (fun _ _ e => e)).trans q_ (fun j hj e => by omega)
  have HZ' := hide (((unhide HZ).same oz).only q_ (by show ¬ k2 = k1; omega))
  clear dz oz cn HON HBz
  go_upto_region 3 with fail
  generalize ((z2.setCell ⟨k1, 9, none⟩ (.bool true)).setCell ⟨k1, 10, none⟩ (.int .i64 now)) = x2 at *
  clear ca cb fz q_ HB OW HZ
  have HB := HB'
  have OW := OW'
  have HZ := HZ'
  clear HB' OW' HZ'
  have HD' : Hid ((dput ({ o with state := 2 }) 1 (true, now)).dates.length = 10) := by show (List.set _ _ _).length = 10; rw [List.length_set]; exact unhide HD
  clear HD
  have HD := HD'
  clear HD'
  have hr := prange (dput ({ o with state := 2 }) 1 (true, now)) mv nv lv cv r msg oc now (unhide HD) (unhide HB)
  have HSZ := hide (size_cells (dput ({ o with state := 2 }) 1 (true, now)) mv nv lv cv (unhide HD))
  have HSZA := hide (size_cellsA (dput ({ o with state := 2 }) 1 (true, now)) mv nv lv cv (unhide HD))
  have HONE := hide (cells_oneV (dput ({ o with state := 2 }) 1 (true, now)) mv nv lv cv (unhide HO1) (unhide HO2) (unhide HO3) (unhide HO4))
  have HL37 := cells_len (dput ({ o with state := 2 }) 1 (true, now)) mv nv lv cv (unhide HD)
  obtain ⟨B, hB⟩ : ∃ B, B = cells (dput ({ o with state := 2 }) 1 (true, now)) mv nv lv cv := ⟨_, rfl⟩
  rw [← hB] at hr HSZ HSZA HONE HL37
  have HTH : Hid (x2.there k2 0 B.toArray.size) := bx_there (unhide HZ) _ (by rw [List.size_toArray, HL37]; rfl)
  have HFB : Hid (Bx (x2.setCells k2 0 B) k2 32 B) := setCells_bx (unhide HZ) B (by rw [HL37]; rfl)
  have HOF : Hid (Only (fun _ => False) w (x2.setCells k2 0 B)) := Only.setCells (fun h => absurd h (by omega)) _ _ _ (unhide OW)
  have HBB := hide hB
  clear hB HL37 HB OW HZ
  go_wp2_with (first
    | (refine wpList_load_mid rfl 32 (.tmp 11) rfl k1 0 rfl B dsc hr hdu hdr (unhide HSZ) ?_)
    | (refine wpList_store_mid rfl 32 (.tmp 2) (.tmp 12) rfl k2 0 B.toArray rfl rfl (unhide HTH) (unhide HSZA) (unhide HONE) ?_))
  refine bodyPost_ret (results_st rfl _ _ k2 32 B.toArray (0, 0) rfl (unhide HFB) Tryd.rowObjM (unhide HSZA)) rfl ?_
  exact ⟨by rw [unhide HBB], unhide HOF⟩
set_option maxRecDepth 100000 in
set_option maxHeartbeats 8000000 in
theorem destroyed_any (o : Ob) (mv nv lv cv : Value) (r : Int) (msg : List UInt8) (oc : Bool × Int) (now : Int) (w : World) (hd : o.dates.length = 10) (h1 : mv.oneCell' = true) (h2 : nv.oneCell' = true) (h3 : lv.oneCell' = true) (h4 : cv.oneCell' = true) :
    Calls Tryd.prog 49 #[.agg (pcells o mv nv lv cv r msg oc now).toArray] w fun e w' => e = .returned (val (dput { o with state := whenD o, mat := [] } 5 (true, now)) (.slice none 0 0) nv lv cv) ∧ Only (fun _ => False) w w' := by
  obtain ⟨w1, k1, e1, ek1, hb1, o1, hs1⟩ := boxed w (pcells o mv nv lv cv r msg oc now).toArray 56
  obtain ⟨w2, k2, e2, ek2, hb2, o2, hs2⟩ := boxed w1 Zo.toArray 32
  rw [List.toList_toArray] at hb1
  have OW := hide (o1.trans o2 (fun _ _ e => e))
  have HB := hide (hb1.same o2)
  have HZ : Hid (Bx w2 k2 32 Zo) := hb2
  have hk1 : w.heap.size ≤ k1 := by omega
  have hk2 : k1 < k2 := by omega
  have HE1 := hide e1
  have HEK1 := hide ek1
  have HE2 := hide e2
  have HK12 : Hid (k1 + 1 = k2) := by show _ = _; omega
  have HD := hide hd
  have HO1 := hide h1
  have HO2 := hide h2
  have HO3 := hide h3
  have HO4 := hide h4
  obtain ⟨dsc, hdu, hdr⟩ := row_desc Tryd.rowObj
  obtain ⟨dsp, hpu, hpr⟩ := row_desc Tryd.rowPlea
  unfold val
  obtain ⟨A, hA⟩ : ∃ A, A = pcells o mv nv lv cv r msg oc now := ⟨_, rfl⟩
  have HA := hide hA
  rw [← hA] at HE1 ⊢
  clear hA hb1 hb2 o1 o2 hs1 hs2 e1 ek1 e2 ek2 hd h1 h2 h3 h4
  go_enter Tryd.func49, Tryd.ntmps49
  go_upto_region 1 with fail
  rw [zo_eq, ← unhide HE1, ← unhide HEK1, ← unhide HE2, unhide HK12]
  clear HE1 HEK1 HE2
  have HWD := hide (whenDestroyed_any o mv nv lv cv r msg oc now w2 (unhide HD))
  rw [← unhide HA] at HWD
  have hr42 := prange42 o mv nv lv cv r msg oc now (unhide HD) (unhide HB)
  have HS42 := hide (size42 o mv nv lv cv r msg oc now (unhide HD))
  rw [← unhide HA] at hr42 HS42
  go_wp2_with (refine wpList_load_mid rfl 56 (.tmp 1) rfl k1 0 rfl A dsp hr42 hpu hpr (unhide HS42) ?_)
  refine (unhide HWD).mono ?_
  rintro e y0 ⟨rfl, oy⟩
  have HBy := hide ((unhide HB).same oy)
  have HZy := hide ((unhide HZ).same oy)
  have OWy := hide ((unhide OW).trans oy (fun _ _ e => e))
  clear oy HB HZ OW hr42 HS42 HWD
  have HB := HBy
  have HZ := HZy
  have OW := OWy
  clear HBy HZy OWy
  obtain ⟨S, hS⟩ : ∃ S, S = whenD o := ⟨_, rfl⟩
  rw [← hS]
  have HSS := hide hS
  clear hS
  have c_ := (unhide HB).cell 6 _ (pcell_state (o) mv nv lv cv r msg oc now (unhide HD))
  have f_ := (unhide HB).free 6
  have q_ : Only (fun j => j = k1) y0 (y0.setCell ⟨k1, 6, none⟩ (.int .i64 S)) := (Only.refl _ _).here _ _
  have HB' : Hid (Bx (y0.setCell ⟨k1, 6, none⟩ (.int .i64 S)) k1 56 (pcells ({ o with state := S }) mv nv lv cv r msg oc now)) := by
    rw [← pset (o) mv nv lv cv r msg oc now (unhide HD) 6 (by decide) (.int .i64 S) ({ o with state := S }) mv (set_state o mv nv lv cv (unhide HD) S)]
    exact (unhide HB).set 6 _
  have OW' : Hid (Only (fun _ => False) w (y0.setCell ⟨k1, 6, none⟩ (.int .i64 S))) := (unhide OW).trans q_ (fun j hj e => by omega)
  have HZ' := hide ((unhide HZ).only q_ (by show ¬ k2 = k1; omega))
  go_upto_region 2 with fail
  generalize (y0.setCell ⟨k1, 6, none⟩ (.int .i64 S)) = x1 at *
  clear c_ f_ q_ HB OW HZ
  have HB := HB'
  have OW := OW'
  have HZ := HZ'
  clear HB' OW' HZ'
  have c_ := (unhide HB).cell 5 _ ((pcells_at { o with state := S } mv nv lv cv r msg oc now (unhide HD) 5 (by decide)).trans (cells_front { o with state := S } mv nv lv cv 5 (by decide)))
  have f_ := (unhide HB).free 5
  have q_ : Only (fun j => j = k1) x1 (x1.setCell ⟨k1, 5, none⟩ (.slice none 0 0)) := (Only.refl _ _).here _ _
  have HB' : Hid (Bx (x1.setCell ⟨k1, 5, none⟩ (.slice none 0 0)) k1 56 (pcells ({ o with state := S, mat := [] }) (.slice none 0 0) nv lv cv r msg oc now)) := by
    rw [← pset ({ o with state := S }) mv nv lv cv r msg oc now (unhide HD) 5 (by decide) (.slice none 0 0) ({ o with state := S, mat := [] }) (.slice none 0 0) (set_mat { o with state := S } mv nv lv cv (unhide HD) (.slice none 0 0) [])]
    exact (unhide HB).set 5 _
  have OW' : Hid (Only (fun _ => False) w (x1.setCell ⟨k1, 5, none⟩ (.slice none 0 0))) := (unhide OW).trans q_ (fun j hj e => by omega)
  have HZ' := hide ((unhide HZ).only q_ (by show ¬ k2 = k1; omega))
  go_upto_region 3 with fail
  generalize (x1.setCell ⟨k1, 5, none⟩ (.slice none 0 0)) = x2 at *
  clear c_ f_ q_ HB OW HZ
  have HB := HB'
  have OW := OW'
  have HZ := HZ'
  clear HB' OW' HZ'
  have cn := (unhide HB).cell 41 (.int .i64 now) (pcells_tail ({ o with state := S, mat := [] }) (.slice none 0 0) nv lv cv r msg oc now (unhide HD) 4)
  have HON := hide (on_any now x2)
  go_wp2_with fail
  refine (unhide HON).mono ?_
  rintro e z3 ⟨rfl, oz⟩
  have HBz := hide ((unhide HB).same oz)
  have dz := pget_date ({ o with state := S, mat := [] }) (.slice none 0 0) nv lv cv r msg oc now (unhide HD) 5 (by decide)
  have ca := (unhide HBz).cell 17 _ dz.1
  have cb := (unhide HBz).cell 18 _ dz.2
  have fz := (unhide HBz).free
  have HB' : Hid (Bx ((z3.setCell ⟨k1, 17, none⟩ (.bool true)).setCell ⟨k1, 18, none⟩ (.int .i64 now)) k1 56 (pcells (dput ({ o with state := S, mat := [] }) 5 (true, now)) (.slice none 0 0) nv lv cv r msg oc now)) := by
    have h := setCells_blk [.bool true, .int .i64 now] z3 17 _ (unhide HBz)
    rw [pdate ({ o with state := S, mat := [] }) (.slice none 0 0) nv lv cv r msg oc now (unhide HD) 5 (by decide) true now] at h
    exact h
  have q_ : Only (fun j => j = k1) z3 ((z3.setCell ⟨k1, 17, none⟩ (.bool true)).setCell ⟨k1, 18, none⟩ (.int .i64 now)) := ((Only.refl _ _).here _ _).here _ _
  have OW' : Hid (Only (fun _ => False) w ((z3.setCell ⟨k1, 17, none⟩ (.bool true)).setCell ⟨k1, 18, none⟩ (.int .i64 now))) := ((unhide OW).trans oz (fun _ _ e => e)).trans q_ (fun j hj e => by omega)
  have HZ' := hide (((unhide HZ).same oz).only q_ (by show ¬ k2 = k1; omega))
  clear dz oz cn HON HBz
  go_upto_region 4 with fail
  generalize ((z3.setCell ⟨k1, 17, none⟩ (.bool true)).setCell ⟨k1, 18, none⟩ (.int .i64 now)) = x3 at *
  clear ca cb fz q_ HB OW HZ
  have HB := HB'
  have OW := OW'
  have HZ := HZ'
  clear HB' OW' HZ'
  have HD' : Hid ((dput ({ o with state := S, mat := [] }) 5 (true, now)).dates.length = 10) := by show (List.set _ _ _).length = 10; rw [List.length_set]; exact unhide HD
  clear HD
  have HD := HD'
  clear HD'
  have hr := prange (dput ({ o with state := S, mat := [] }) 5 (true, now)) (.slice none 0 0) nv lv cv r msg oc now (unhide HD) (unhide HB)
  have HSZ := hide (size_cells (dput ({ o with state := S, mat := [] }) 5 (true, now)) (.slice none 0 0) nv lv cv (unhide HD))
  have HSZA := hide (size_cellsA (dput ({ o with state := S, mat := [] }) 5 (true, now)) (.slice none 0 0) nv lv cv (unhide HD))
  have HONE := hide (cells_oneV (dput ({ o with state := S, mat := [] }) 5 (true, now)) (.slice none 0 0) nv lv cv rfl (unhide HO2) (unhide HO3) (unhide HO4))
  have HL37 := cells_len (dput ({ o with state := S, mat := [] }) 5 (true, now)) (.slice none 0 0) nv lv cv (unhide HD)
  obtain ⟨B, hB⟩ : ∃ B, B = cells (dput ({ o with state := S, mat := [] }) 5 (true, now)) (.slice none 0 0) nv lv cv := ⟨_, rfl⟩
  rw [← hB] at hr HSZ HSZA HONE HL37
  have HTH : Hid (x3.there k2 0 B.toArray.size) := bx_there (unhide HZ) _ (by rw [List.size_toArray, HL37]; rfl)
  have HFB : Hid (Bx (x3.setCells k2 0 B) k2 32 B) := setCells_bx (unhide HZ) B (by rw [HL37]; rfl)
  have HOF : Hid (Only (fun _ => False) w (x3.setCells k2 0 B)) := Only.setCells (fun h => absurd h (by omega)) _ _ _ (unhide OW)
  have HBB := hide hB
  clear hB HL37 HB OW HZ
  go_wp2_with (first
    | (refine wpList_load_mid rfl 32 (.tmp 15) rfl k1 0 rfl B dsc hr hdu hdr (unhide HSZ) ?_)
    | (refine wpList_store_mid rfl 32 (.tmp 2) (.tmp 16) rfl k2 0 B.toArray rfl rfl (unhide HTH) (unhide HSZA) (unhide HONE) ?_))
  refine bodyPost_ret (results_st rfl _ _ k2 32 B.toArray (0, 0) rfl (unhide HFB) Tryd.rowObjM (unhide HSZA)) rfl ?_
  exact ⟨by rw [unhide HBB]; simp only [unhide HSS], unhide HOF⟩
end Ob
end Go.Proofs.YtadpmninoghcjaaDoor
