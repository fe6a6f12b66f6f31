/-
  object.Copy.
-/
import Derived.Test.YtadpmninoghcjaaDoorHoMem
import Derived.Test.YtadpmninoghcjaaDoorLfClone
import Derived.Test.YtadpmninoghcjaaDoorLfSpec
namespace Go.Proofs.YtadpmninoghcjaaDoor
open Go.RowKit
set_option linter.unusedSimpArgs false
set_option linter.unusedVariables false

theorem HasF.lt {α : Type} {w : World} {v : Value} {m : Nat} {f : α → List Value} {xs : List α} (h : HasF w v m f xs) (h0 : xs ≠ []) : ∀ k, blk v = some k → k < w.heap.size := by
  obtain ⟨ao, cap, e, h1, h2, h3⟩ := h.has
  have : 0 < xs.length := by rcases xs with _ | ⟨_, _⟩; exact absurd rfl h0; simp
  obtain ⟨b, o, ea, hb, _⟩ := h3 this
  subst ea e
  intro k hk
  simp [blk] at hk
  omega
namespace Ob
theorem has_off {w w' : World} {v : Value} {bs : List UInt8} {S : Nat → Prop} (h : Has w v bs) (q : Only S w w') (hS : ∀ j, j < w.heap.size → ¬ S j) : Has w' v bs :=
  h.only q (fun h0 j hj => hS j (h.blk_lt h0 j hj))
theorem hasF_off {α : Type} {w w' : World} {v : Value} {m : Nat} {f : α → List Value} {xs : List α} {S : Nat → Prop} (h : HasF w v m f xs) (q : Only S w w') (hS : ∀ j, j < w.heap.size → ¬ S j) : HasF w' v m f xs :=
  h.only q (fun h0 j hj => hS j (h.lt h0 j hj))
/-- nothing of what was there is turned -/
theorem In.new {w w' : World} {o : Ob} {mv nv lv cv : Value} (h : In w o mv nv lv cv) (q : Only (fun _ => False) w w') : In w' o mv nv lv cv := h.same q

set_option maxRecDepth 100000 in
set_option maxHeartbeats 4000000 in
theorem copy_any (o : Ob) (mv nv lv cv : Value) (w : World) (I : In w o mv nv lv cv) (S : Small o) :
    Calls Tryd.prog 34 #[val o mv nv lv cv] w fun e w' => ∃ mv' nv' lv' cv', e = .returned (val o mv' nv' lv' cv') ∧ In w' o mv' nv' lv' cv' ∧ Fresh4 w.heap.size mv' nv' lv' cv' ∧ Only (fun _ => False) w w' := by
  have hd := I.ten
  obtain ⟨w1, k1, e1, ek1, hb1, o1, hs1⟩ := boxed w (cells o mv nv lv cv).toArray 32
  obtain ⟨w2, k2, e2, ek2, hb2, o2, hs2⟩ := boxed w1 Zo.toArray 32
  have OW := hide (o1.trans o2 (fun _ _ e => e))
  have HB := hide (hb1.same o2)
  rw [List.toList_toArray] at HB
  have HZ : Hid (Bx w2 k2 32 Zo) := hb2
  have hk1 : w.heap.size ≤ k1 := by omega
  have hk2 : k1 < k2 := by omega
  have hk2s : k2 < w2.heap.size := by omega
  have II := hide (I.same (unhide OW))
  have HII := hide I
  have HS := hide S
  have HD := hide hd
  have HE1 := hide e1
  have HEK1 := hide ek1
  have HE2 := hide e2
  have HEK2 := hide ek2
  have HK12 : Hid (k1 + 1 = k2) := by show _ = _; omega
  clear hb1 hb2 o1 o2 hs1 hs2 I S hd e1 ek1 e2 ek2
  unfold val
  obtain ⟨A, hA⟩ : ∃ A, A = cells o mv nv lv cv := ⟨_, rfl⟩
  have HA := hide hA
  rw [← hA] at HE1 HB ⊢
  clear hA
  go_enter Tryd.func34, Tryd.ntmps34
  go_upto_region 1 with fail
  rw [zo_eq, ← unhide HE1, ← unhide HEK1, ← unhide HE2]
  rw [unhide HK12]
  clear HE1 HEK1 HE2 HEK2
  have QW := hide ((unhide OW).mono (T := fun j => j = k1) (fun _ _ e => e.elim))
  obtain ⟨x0, hx0⟩ : ∃ x, x = w2 := ⟨_, rfl⟩
  rw [← hx0] at HB HZ QW ⊢
  have HSZ0 : Hid (k2 < x0.heap.size) := by rw [hx0]; exact hk2s
  clear hx0 OW II
  have c_0 := (unhide HB).cell 5 _ (by rw [unhide HA]; exact (cells_front o _ _ _ _ 5 (by decide)))
  have HC := hide (cloneb_any mv _ x0 (has_off (unhide HII).mat (unhide QW) (fun j hj e => by omega)) (unhide HS).mat)
  go_wp2_with fail
  refine (unhide HC).mono ?_
  rintro e y0 ⟨u, rfl, hown, oy⟩
  have hul : ∀ j, blk u = some j → k2 < j := fun j hj => by have h1 := (own_lt hown j hj).1; have h2 := unhide HSZ0; omega
  have HBy := hide ((unhide HB).same oy)
  have cy := (unhide HBy).cell 5 _ (by rw [unhide HA]; exact (cells_front o _ _ _ _ 5 (by decide)))
  have fy := (unhide HBy).free 5
  have qz : Only (fun j => j = k1) y0 (y0.setCell ⟨k1, 5, none⟩ u) := (Only.refl _ _).here _ _
  obtain ⟨x1, hz⟩ : ∃ z, z = y0.setCell ⟨k1, 5, none⟩ u := ⟨_, rfl⟩
  rw [← hz] at qz
  have qxz : Only (fun j => j = k1) x0 x1 := (oy.mono (T := fun j => j = k1) (fun _ _ e => e.elim)).trans qz (fun _ _ e => e)
  have N0_0 : Hid (Has x1 u o.mat) := (Has.ofOwns hown).only qz (fun _ j hj e => by have := hul j hj; omega)
  have HU0 := hide hul
  have HB0 : Hid (Bx x1 k1 32 (A.set 5 u)) := by rw [hz]; exact (unhide HBy).set 5 u
  have HZ0 := hide (((unhide HZ).same oy).only qz (by show ¬ k2 = k1; omega))
  have QW0 := hide ((unhide QW).trans qxz (fun _ _ e => e))
  have HSZ1 : Hid (k2 < x1.heap.size) := by have h1 := unhide HSZ0; have h2 := qxz.size; show _ < _; omega
  obtain ⟨mvo, mvc, hu⟩ := ownsRow_shape hown
  have HZE := hide hz
  clear hown oy qz qxz hul hz HB HBy HZ QW HC c_0
  have HB := HB0
  have HZ := HZ0
  have QW := QW0
  clear HB0 HZ0 QW0
  subst hu
  go_upto_region 2 with fail
  rw [← unhide HZE]
  clear HZE cy fy
  obtain ⟨mv', hm0⟩ : ∃ v, v = Value.slice mvo o.mat.length mvc := ⟨_, rfl⟩
  rw [← hm0] at HB N0_0 HU0
  obtain ⟨A0, hA0⟩ : ∃ B, B = A.set 5 mv' := ⟨_, rfl⟩
  have HA0 : Hid (A0 = cells o mv' nv lv cv) := by show _ = _; rw [hA0, unhide HA]; exact set_mat o mv nv lv cv (unhide HD) mv' o.mat
  rw [← hA0] at HB
  clear hA0 HA
  have HA := HA0
  clear HA0
  have c_1 := (unhide HB).cell 29 _ (by rw [unhide HA]; exact (cell_names o _ _ _ _ (unhide HD)))
  have HC := hide (clones_any nv _ x1 (hasF_off (unhide HII).names (unhide QW) (fun j hj e => by omega)) (unhide HS).names)
  go_wp2_with fail
  refine (unhide HC).mono ?_
  rintro e y1 ⟨u, rfl, hown, oy⟩
  have hul : ∀ j, blk u = some j → k2 < j := fun j hj => by have h1 := (own_lt hown j hj).1; have h2 := unhide HSZ1; omega
  have HBy := hide ((unhide HB).same oy)
  have cy := (unhide HBy).cell 29 _ (by rw [unhide HA]; exact (cell_names o _ _ _ _ (unhide HD)))
  have fy := (unhide HBy).free 29
  have qz : Only (fun j => j = k1) y1 (y1.setCell ⟨k1, 29, none⟩ u) := (Only.refl _ _).here _ _
  obtain ⟨x2, hz⟩ : ∃ z, z = y1.setCell ⟨k1, 29, none⟩ u := ⟨_, rfl⟩
  rw [← hz] at qz
  have qxz : Only (fun j => j = k1) x1 x2 := (oy.mono (T := fun j => j = k1) (fun _ _ e => e.elim)).trans qz (fun _ _ e => e)
  have N0_1 : Hid (Has x2 mv' o.mat) := (unhide N0_0).only qxz (fun _ j hj e => by have := unhide HU0 j hj; omega)
  have N1_1 : Hid (HasF x2 u 1 scells o.names) := (hasF_own hown (fun _ _ => rfl) rfl).only qz (fun _ j hj e => by have := hul j hj; omega)
  have HU1 := hide hul
  have HB1 : Hid (Bx x2 k1 32 (A0.set 29 u)) := by rw [hz]; exact (unhide HBy).set 29 u
  have HZ1 := hide (((unhide HZ).same oy).only qz (by show ¬ k2 = k1; omega))
  have QW1 := hide ((unhide QW).trans qxz (fun _ _ e => e))
  have HSZ2 : Hid (k2 < x2.heap.size) := by have h1 := unhide HSZ1; have h2 := qxz.size; show _ < _; omega
  obtain ⟨nvo, nvc, hu⟩ := ownsRow_shape hown
  have HZE := hide hz
  clear hown oy qz qxz hul hz HB HBy HZ QW HC c_1
  have HB := HB1
  have HZ := HZ1
  have QW := QW1
  clear HB1 HZ1 QW1
  subst hu
  go_upto_region 3 with fail
  rw [← unhide HZE]
  clear HZE cy fy
  obtain ⟨nv', hn1⟩ : ∃ v, v = Value.slice nvo o.names.length nvc := ⟨_, rfl⟩
  rw [← hn1] at HB N1_1 HU1
  obtain ⟨A1, hA1⟩ : ∃ B, B = A0.set 29 nv' := ⟨_, rfl⟩
  have HA1 : Hid (A1 = cells o mv' nv' lv cv) := by show _ = _; rw [hA1, unhide HA]; exact set_names o mv' nv lv cv (unhide HD) nv' o.names
  rw [← hA1] at HB
  clear hA1 HA
  have HA := HA1
  clear HA1
  have c_2 := (unhide HB).cell 30 _ (by rw [unhide HA]; exact (cell_links o _ _ _ _ (unhide HD)))
  have HC := hide (clonek_any lv _ x2 (hasF_off (unhide HII).links (unhide QW) (fun j hj e => by omega)) (unhide HS).links)
  go_wp2_with fail
  refine (unhide HC).mono ?_
  rintro e y2 ⟨u, rfl, hown, oy⟩
  have hul : ∀ j, blk u = some j → k2 < j := fun j hj => by have h1 := (own_lt hown j hj).1; have h2 := unhide HSZ2; omega
  have HBy := hide ((unhide HB).same oy)
  have cy := (unhide HBy).cell 30 _ (by rw [unhide HA]; exact (cell_links o _ _ _ _ (unhide HD)))
  have fy := (unhide HBy).free 30
  have qz : Only (fun j => j = k1) y2 (y2.setCell ⟨k1, 30, none⟩ u) := (Only.refl _ _).here _ _
  obtain ⟨x3, hz⟩ : ∃ z, z = y2.setCell ⟨k1, 30, none⟩ u := ⟨_, rfl⟩
  rw [← hz] at qz
  have qxz : Only (fun j => j = k1) x2 x3 := (oy.mono (T := fun j => j = k1) (fun _ _ e => e.elim)).trans qz (fun _ _ e => e)
  have N0_2 : Hid (Has x3 mv' o.mat) := (unhide N0_1).only qxz (fun _ j hj e => by have := unhide HU0 j hj; omega)
  have N1_2 : Hid (HasF x3 nv' 1 scells o.names) := (unhide N1_1).only qxz (fun _ j hj e => by have := unhide HU1 j hj; omega)
  have N2_2 : Hid (HasF x3 u 2 kcells o.links) := (hasF_own hown (fun _ _ => rfl) rfl).only qz (fun _ j hj e => by have := hul j hj; omega)
  have HU2 := hide hul
  have HB2 : Hid (Bx x3 k1 32 (A1.set 30 u)) := by rw [hz]; exact (unhide HBy).set 30 u
  have HZ2 := hide (((unhide HZ).same oy).only qz (by show ¬ k2 = k1; omega))
  have QW2 := hide ((unhide QW).trans qxz (fun _ _ e => e))
  have HSZ3 : Hid (k2 < x3.heap.size) := by have h1 := unhide HSZ2; have h2 := qxz.size; show _ < _; omega
  obtain ⟨lvo, lvc, hu⟩ := ownsRow_shape hown
  have HZE := hide hz
  clear hown oy qz qxz hul hz HB HBy HZ QW HC c_2
  have HB := HB2
  have HZ := HZ2
  have QW := QW2
  clear HB2 HZ2 QW2
  subst hu
  go_upto_region 4 with fail
  rw [← unhide HZE]
  clear HZE cy fy
  obtain ⟨lv', hl2⟩ : ∃ v, v = Value.slice lvo o.links.length lvc := ⟨_, rfl⟩
  rw [← hl2] at HB N2_2 HU2
  obtain ⟨A2, hA2⟩ : ∃ B, B = A1.set 30 lv' := ⟨_, rfl⟩
  have HA2 : Hid (A2 = cells o mv' nv' lv' cv) := by show _ = _; rw [hA2, unhide HA]; exact set_links o mv' nv' lv cv (unhide HD) lv' o.links
  rw [← hA2] at HB
  clear hA2 HA
  have HA := HA2
  clear HA2
  have c_3 := (unhide HB).cell 31 _ (by rw [unhide HA]; exact (cell_custom o _ _ _ _ (unhide HD)))
  have HC := hide (clonec_any cv _ x3 (hasF_off (unhide HII).custom (unhide QW) (fun j hj e => by omega)) (unhide HS).custom)
  go_wp2_with fail
  refine (unhide HC).mono ?_
  rintro e y3 ⟨u, rfl, hown, oy⟩
  have hul : ∀ j, blk u = some j → k2 < j := fun j hj => by have h1 := (own_lt hown j hj).1; have h2 := unhide HSZ3; omega
  have HBy := hide ((unhide HB).same oy)
  have cy := (unhide HBy).cell 31 _ (by rw [unhide HA]; exact (cell_custom o _ _ _ _ (unhide HD)))
  have fy := (unhide HBy).free 31
  have qz : Only (fun j => j = k1) y3 (y3.setCell ⟨k1, 31, none⟩ u) := (Only.refl _ _).here _ _
  obtain ⟨x4, hz⟩ : ∃ z, z = y3.setCell ⟨k1, 31, none⟩ u := ⟨_, rfl⟩
  rw [← hz] at qz
  have qxz : Only (fun j => j = k1) x3 x4 := (oy.mono (T := fun j => j = k1) (fun _ _ e => e.elim)).trans qz (fun _ _ e => e)
  have N0_3 : Hid (Has x4 mv' o.mat) := (unhide N0_2).only qxz (fun _ j hj e => by have := unhide HU0 j hj; omega)
  have N1_3 : Hid (HasF x4 nv' 1 scells o.names) := (unhide N1_2).only qxz (fun _ j hj e => by have := unhide HU1 j hj; omega)
  have N2_3 : Hid (HasF x4 lv' 2 kcells o.links) := (unhide N2_2).only qxz (fun _ j hj e => by have := unhide HU2 j hj; omega)
  have N3_3 : Hid (HasF x4 u 2 ccells o.custom) := (hasF_own hown (fun _ _ => rfl) rfl).only qz (fun _ j hj e => by have := hul j hj; omega)
  have HU3 := hide hul
  have HB3 : Hid (Bx x4 k1 32 (A2.set 31 u)) := by rw [hz]; exact (unhide HBy).set 31 u
  have HZ3 := hide (((unhide HZ).same oy).only qz (by show ¬ k2 = k1; omega))
  have QW3 := hide ((unhide QW).trans qxz (fun _ _ e => e))
  have HSZ4 : Hid (k2 < x4.heap.size) := by have h1 := unhide HSZ3; have h2 := qxz.size; show _ < _; omega
  obtain ⟨cvo, cvc, hu⟩ := ownsRow_shape hown
  have HZE := hide hz
  clear hown oy qz qxz hul hz HB HBy HZ QW HC c_3
  have HB := HB3
  have HZ := HZ3
  have QW := QW3
  clear HB3 HZ3 QW3
  subst hu
  go_upto_region 5 with fail
  rw [← unhide HZE]
  clear HZE cy fy
  obtain ⟨cv', hc3⟩ : ∃ v, v = Value.slice cvo o.custom.length cvc := ⟨_, rfl⟩
  rw [← hc3] at HB N3_3 HU3
  obtain ⟨A3, hA3⟩ : ∃ B, B = A2.set 31 cv' := ⟨_, rfl⟩
  have HA3 : Hid (A3 = cells o mv' nv' lv' cv') := by show _ = _; rw [hA3, unhide HA]; exact set_custom o mv' nv' lv' cv (unhide HD) cv' o.custom
  rw [← hA3] at HB
  clear hA3 HA
  have HA := HA3
  clear HA3
  have hI : In x4 o mv' nv' lv' cv' := ⟨unhide N0_3, unhide N1_3, unhide N2_3, unhide N3_3, unhide HD, (unhide HII).ints, (unhide HII).dats, (unhide HII).lks, (unhide HII).strs⟩
  have hF : Fresh4 w.heap.size mv' nv' lv' cv' := by
    rintro j (h | h | h | h)
    · have := unhide HU0 j h; omega
    · have := unhide HU1 j h; omega
    · have := unhide HU2 j h; omega
    · have := unhide HU3 j h; omega
  have hF2 : ∀ j, (blk mv' = some j ∨ blk nv' = some j ∨ blk lv' = some j ∨ blk cv' = some j) → ¬ j = k2 := by
    rintro j (h | h | h | h)
    · have := unhide HU0 j h; omega
    · have := unhide HU1 j h; omega
    · have := unhide HU2 j h; omega
    · have := unhide HU3 j h; omega
  obtain ⟨hth, hfb, hin, hof⟩ := fin37 hI hF2 (unhide HZ) (cs0 := Zo) rfl
  have hone := hI.one
  have hln : A3.length = 37 := by rw [unhide HA]; exact cells_len _ _ _ _ _ (unhide HD)
  rw [← unhide HA] at hth hfb hin hof hone
  have hsz : (Tryd.prog.info? 32).map (·.size) = some A3.length := by rw [hln]; exact Tryd.sizeObj
  have hrg := (unhide HB).range 0 37
  rw [List.drop_zero, List.take_of_length_le (by omega)] at hrg
  obtain ⟨dsc, hdu, hdr⟩ := row_desc Tryd.rowObj
  have HRG := hide hrg
  have HSZ := hide hsz
  have HTH := hide hth
  have HONE := hide hone
  have HFB := hide hfb
  have HIN := hide hin
  have HOF := hide hof
  have HFR := hide hF
  clear hrg hsz hth hfb hin hof hF hF2 hI hone hln
  go_wp2_with (first
    | (refine wpList_load_mid rfl 32 (.tmp 1) rfl k1 0 rfl A3 dsc (unhide HRG) hdu hdr (unhide HSZ) ?_)
    | (refine wpList_store_mid rfl 32 (.tmp 2) (.tmp 19) rfl k2 0 A3.toArray rfl rfl (unhide HTH) (by rw [List.size_toArray]; exact unhide HSZ) (unhide HONE) ?_))
  refine bodyPost_ret (results_st rfl _ _ k2 32 A3.toArray (0, 0) rfl (unhide HFB) Tryd.rowObjM (by rw [List.size_toArray]; exact unhide HSZ)) rfl ?_
  refine ⟨mv', nv', lv', cv', by rw [unhide HA], unhide HIN, unhide HFR, ?_⟩
  exact ((unhide QW).trans (T := fun j => j = k2) (unhide HOF) (fun j hj e => by omega)).mono (fun j hj e => by omega)
end Ob
end Go.Proofs.YtadpmninoghcjaaDoor
