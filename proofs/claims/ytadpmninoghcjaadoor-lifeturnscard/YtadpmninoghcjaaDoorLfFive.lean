/-
  life's calls: Activate, Revoke, Destroy, Archive, Recover.
-/
import Derived.Test.YtadpmninoghcjaaDoorLfAns
import Derived.Test.YtadpmninoghcjaaDoorObGrd
namespace Go.Proofs.YtadpmninoghcjaaDoor
open Go.RowKit
set_option linter.unusedSimpArgs false
set_option linter.unusedVariables false
namespace Ob
def mkPlea (x y : Value) : Sem Value := Instr.build 56 #[(0, x), (4, y)]
theorem execOp_mkPlea (ρ : Operand → Value) (dst : Option Tmp) (x y : Operand) (ty : TypeId) (pos : String) (af : Array Edge) (gd : Option (Nat × Bool)) :
    execOp ρ { dst := dst, op := .build 56 #[(0, x), (4, y)], type := ty, pos := pos, after := af, guard := gd } = (do pure (.value (← mkPlea (ρ x) (ρ y)))) := by unfold execOp mkPlea; simp only [List.map_toArray, List.map_cons, List.map_nil]
def mkPlea5 (x r m d y : Value) : Sem Value := Instr.build 56 #[(0, x), (1, r), (2, m), (3, d), (4, y)]
theorem execOp_mkPlea5 (ρ : Operand → Value) (dst : Option Tmp) (x r m d y : Operand) (ty : TypeId) (pos : String) (af : Array Edge) (gd : Option (Nat × Bool)) :
    execOp ρ { dst := dst, op := .build 56 #[(0, x), (1, r), (2, m), (3, d), (4, y)], type := ty, pos := pos, after := af, guard := gd } = (do pure (.value (← mkPlea5 (ρ x) (ρ r) (ρ m) (ρ d) (ρ y)))) := by unfold execOp mkPlea5; simp only [List.map_toArray, List.map_cons, List.map_nil]
theorem build_plea (o : Ob) (mv nv lv cv : Value) (now : Int) (hd : o.dates.length = 10) (W : World) :
    (mkPlea (.agg (cells o mv nv lv cv).toArray) (.int .i64 now)).run Tryd.prog W = .ok (.agg (pcells o mv nv lv cv 0 [] (false, 0) now).toArray) W := by
  obtain ⟨id, typ, alg, len, mask, mat, state, dates, reason, msg, names, links, custom, lh, lt, lc, lu, arch⟩ := o
  simp only at hd
  obtain ⟨a0, a1, a2, a3, a4, a5, a6, a7, a8, a9, rfl⟩ := ten_list dates hd
  unfold mkPlea
  kernel_rfl
theorem build_plea5 (o : Ob) (mv nv lv cv : Value) (r : Int) (msg : List UInt8) (oc : Bool × Int) (now : Int) (hd : o.dates.length = 10) (W : World) :
    (mkPlea5 (.agg (cells o mv nv lv cv).toArray) (.int .i64 r) (.string (str msg)) (.agg #[.bool oc.1, .int .i64 oc.2]) (.int .i64 now)).run Tryd.prog W = .ok (.agg (pcells o mv nv lv cv r msg oc now).toArray) W := by
  obtain ⟨id, typ, alg, len, mask, mat, state, dates, reason, msg, names, links, custom, lh, lt, lc, lu, arch⟩ := o
  simp only at hd
  obtain ⟨a0, a1, a2, a3, a4, a5, a6, a7, a8, a9, rfl⟩ := ten_list dates hd
  unfold mkPlea5
  kernel_rfl
attribute [local go_sem ↓] execOp_mkPlea execOp_mkPlea5
set_option maxRecDepth 100000 in
set_option maxHeartbeats 4000000 in
theorem activate_any (o : Ob) (mv nv lv cv : Value) (now : Int) (w : World) (I : In w o mv nv lv cv) (S : Small o) (hn : W64 now) :
    Calls Tryd.prog 9 #[val o mv nv lv cv, .int .i64 now] w fun e w' => Ans w w' e (told (actE o) (actU o now)) (actE o) := by
  have hd := I.ten
  obtain ⟨w1, k1, e1, ek1, hb1, o1, hs1⟩ := boxed w (cells o mv nv lv cv).toArray 32
  obtain ⟨w2, k2, e2, ek2, hb2, o2, hs2⟩ := boxed w1 Zo.toArray 32
  rw [List.toList_toArray] at hb1
  have OW := hide (o1.trans o2 (fun _ _ e => e))
  have HB := hide (hb1.same o2)
  have HZ : Hid (Bx w2 k2 32 Zo) := hb2
  have hk1 : w.heap.size ≤ k1 := by omega
  have hk2 : k1 < k2 := by omega
  have HE1 := hide e1
  have HEK1 := hide ek1
  have HE2 := hide e2
  have HK12 : Hid (k1 + 1 = k2) := by show _ = _; omega
  have HAN := hide (answer0_any o mv nv lv cv 0 [] (false, 0) now w2 (I.same (unhide OW)) S hn)
  have hr := Bx.whole (unhide HB) hd
  have HSZ := hide (size_cells o mv nv lv cv hd)
  have hbd := build_plea o mv nv lv cv now hd
  obtain ⟨dsc, hdu, hdr⟩ := row_desc Tryd.rowObj
  have HP : Hid (∀ p mw nw lw cw, val p mw nw lw cw = .agg (cells p mw nw lw cw).toArray) := fun _ _ _ _ _ => rfl
  obtain ⟨u, hu0⟩ : ∃ u, u = told (actE o) (actU o now) := ⟨_, rfl⟩
  obtain ⟨r, hr0⟩ : ∃ r, r = actE o := ⟨_, rfl⟩
  rw [← hu0, ← hr0] at HAN ⊢
  unfold val
  obtain ⟨P, hP⟩ : ∃ P, P = pcells o mv nv lv cv 0 [] (false, 0) now := ⟨_, rfl⟩
  obtain ⟨A, hA⟩ : ∃ A, A = cells o mv nv lv cv := ⟨_, rfl⟩
  rw [← hP] at HAN hbd
  rw [← hA] at HE1 hr HSZ hbd ⊢
  clear hA hP hb1 hb2 o1 o2 hs1 hs2 e1 ek1 e2 ek2 hd I S hn hr0 hu0
  go_enter Tryd.func9, Tryd.ntmps9
  go_upto_region 1 with fail
  rw [zo_eq, ← unhide HE1, ← unhide HEK1, ← unhide HE2, unhide HK12]
  clear HE1 HEK1 HE2
  go_wp2_with (refine wpList_load_mid rfl 32 (.tmp 2) rfl k1 0 rfl A dsc hr hdu hdr (unhide HSZ) ?_)
  refine (unhide HAN).mono ?_
  rintro e w3 ⟨mw, nw, lw, cw, rfl, hin, hfr, o3⟩
  have hk22 : k2 < w2.heap.size := (unhide HZ).lt
  have hne : ∀ j, (blk mw = some j ∨ blk nw = some j ∨ blk lw = some j ∨ blk cw = some j) → ¬ j = k2 := fun j hj e => by have := hfr j hj; omega
  have hZ3 : Bx w3 k2 32 Zo := (unhide HZ).same o3
  obtain ⟨hth, hfb, hin7, hof⟩ := fin37 hin hne hZ3 (cs0 := Zo) rfl
  have HSA := hide (size_cellsA u mw nw lw cw hin.ten)
  have HON7 := hide hin.one
  have HFR : Hid (Fresh4 w.heap.size mw nw lw cw) := fun j hj => by have := hfr j hj; have := (unhide OW).size; omega
  have HTH := hide hth
  have HFB := hide hfb
  have HIN7 := hide hin7
  have HOF : Hid (Only (fun _ => False) w (w3.setCells k2 0 (cells u mw nw lw cw))) := (((unhide OW).trans o3 (fun _ _ e => e))).trans (T := fun j => j = k2) hof (fun j hj e => by omega)
  rw [unhide HP]
  obtain ⟨B, hB⟩ : ∃ B, B = cells u mw nw lw cw := ⟨_, rfl⟩
  rw [← hB] at HSA HON7 HTH HFB HIN7 HOF ⊢
  have HBB := hide hB
  clear hth hfb hin7 hof hin hfr o3 hB hne hZ3 hr HSZ hbd HAN HB HZ OW
  go_wp2_with (refine wpList_store_mid rfl 32 (.tmp 4) (.tmp 10) rfl k2 0 B.toArray rfl rfl (unhide HTH) (unhide HSA) (unhide HON7) ?_)
  refine bodyPost_ret (results_st2 rfl _ _ k2 32 B.toArray rfl (unhide HFB) Tryd.rowObjM (unhide HSA)) rfl ?_
  exact ⟨mw, nw, lw, cw, by rw [unhide HBB]; rfl, unhide HIN7, unhide HFR, unhide HOF⟩
set_option maxRecDepth 100000 in
set_option maxHeartbeats 4000000 in
theorem destroy_any (o : Ob) (mv nv lv cv : Value) (now : Int) (w : World) (I : In w o mv nv lv cv) (S : Small o) (hn : W64 now) :
    Calls Tryd.prog 11 #[val o mv nv lv cv, .int .i64 now] w fun e w' => Ans w w' e (told (desE o) (desU o now)) (desE o) := by
  have hd := I.ten
  obtain ⟨w1, k1, e1, ek1, hb1, o1, hs1⟩ := boxed w (cells o mv nv lv cv).toArray 32
  obtain ⟨w2, k2, e2, ek2, hb2, o2, hs2⟩ := boxed w1 Zo.toArray 32
  rw [List.toList_toArray] at hb1
  have OW := hide (o1.trans o2 (fun _ _ e => e))
  have HB := hide (hb1.same o2)
  have HZ : Hid (Bx w2 k2 32 Zo) := hb2
  have hk1 : w.heap.size ≤ k1 := by omega
  have hk2 : k1 < k2 := by omega
  have HE1 := hide e1
  have HEK1 := hide ek1
  have HE2 := hide e2
  have HK12 : Hid (k1 + 1 = k2) := by show _ = _; omega
  have HAN := hide (answer2_any o mv nv lv cv 0 [] (false, 0) now w2 (I.same (unhide OW)) S hn)
  have hr := Bx.whole (unhide HB) hd
  have HSZ := hide (size_cells o mv nv lv cv hd)
  have hbd := build_plea o mv nv lv cv now hd
  obtain ⟨dsc, hdu, hdr⟩ := row_desc Tryd.rowObj
  have HP : Hid (∀ p mw nw lw cw, val p mw nw lw cw = .agg (cells p mw nw lw cw).toArray) := fun _ _ _ _ _ => rfl
  obtain ⟨u, hu0⟩ : ∃ u, u = told (desE o) (desU o now) := ⟨_, rfl⟩
  obtain ⟨r, hr0⟩ : ∃ r, r = desE o := ⟨_, rfl⟩
  rw [← hu0, ← hr0] at HAN ⊢
  unfold val
  obtain ⟨P, hP⟩ : ∃ P, P = pcells o mv nv lv cv 0 [] (false, 0) now := ⟨_, rfl⟩
  obtain ⟨A, hA⟩ : ∃ A, A = cells o mv nv lv cv := ⟨_, rfl⟩
  rw [← hP] at HAN hbd
  rw [← hA] at HE1 hr HSZ hbd ⊢
  clear hA hP hb1 hb2 o1 o2 hs1 hs2 e1 ek1 e2 ek2 hd I S hn hr0 hu0
  go_enter Tryd.func11, Tryd.ntmps11
  go_upto_region 1 with fail
  rw [zo_eq, ← unhide HE1, ← unhide HEK1, ← unhide HE2, unhide HK12]
  clear HE1 HEK1 HE2
  go_wp2_with (refine wpList_load_mid rfl 32 (.tmp 2) rfl k1 0 rfl A dsc hr hdu hdr (unhide HSZ) ?_)
  refine (unhide HAN).mono ?_
  rintro e w3 ⟨mw, nw, lw, cw, rfl, hin, hfr, o3⟩
  have hk22 : k2 < w2.heap.size := (unhide HZ).lt
  have hne : ∀ j, (blk mw = some j ∨ blk nw = some j ∨ blk lw = some j ∨ blk cw = some j) → ¬ j = k2 := fun j hj e => by have := hfr j hj; omega
  have hZ3 : Bx w3 k2 32 Zo := (unhide HZ).same o3
  obtain ⟨hth, hfb, hin7, hof⟩ := fin37 hin hne hZ3 (cs0 := Zo) rfl
  have HSA := hide (size_cellsA u mw nw lw cw hin.ten)
  have HON7 := hide hin.one
  have HFR : Hid (Fresh4 w.heap.size mw nw lw cw) := fun j hj => by have := hfr j hj; have := (unhide OW).size; omega
  have HTH := hide hth
  have HFB := hide hfb
  have HIN7 := hide hin7
  have HOF : Hid (Only (fun _ => False) w (w3.setCells k2 0 (cells u mw nw lw cw))) := (((unhide OW).trans o3 (fun _ _ e => e))).trans (T := fun j => j = k2) hof (fun j hj e => by omega)
  rw [unhide HP]
  obtain ⟨B, hB⟩ : ∃ B, B = cells u mw nw lw cw := ⟨_, rfl⟩
  rw [← hB] at HSA HON7 HTH HFB HIN7 HOF ⊢
  have HBB := hide hB
  clear hth hfb hin7 hof hin hfr o3 hB hne hZ3 hr HSZ hbd HAN HB HZ OW
  go_wp2_with (refine wpList_store_mid rfl 32 (.tmp 4) (.tmp 10) rfl k2 0 B.toArray rfl rfl (unhide HTH) (unhide HSA) (unhide HON7) ?_)
  refine bodyPost_ret (results_st2 rfl _ _ k2 32 B.toArray rfl (unhide HFB) Tryd.rowObjM (unhide HSA)) rfl ?_
  exact ⟨mw, nw, lw, cw, by rw [unhide HBB]; rfl, unhide HIN7, unhide HFR, unhide HOF⟩
set_option maxRecDepth 100000 in
set_option maxHeartbeats 4000000 in
theorem archive_any (o : Ob) (mv nv lv cv : Value) (now : Int) (w : World) (I : In w o mv nv lv cv) (S : Small o) (hn : W64 now) :
    Calls Tryd.prog 12 #[val o mv nv lv cv, .int .i64 now] w fun e w' => Ans w w' e (told (arcE o) (arcU o now)) (arcE o) := by
  have hd := I.ten
  obtain ⟨w1, k1, e1, ek1, hb1, o1, hs1⟩ := boxed w (cells o mv nv lv cv).toArray 32
  obtain ⟨w2, k2, e2, ek2, hb2, o2, hs2⟩ := boxed w1 Zo.toArray 32
  rw [List.toList_toArray] at hb1
  have OW := hide (o1.trans o2 (fun _ _ e => e))
  have HB := hide (hb1.same o2)
  have HZ : Hid (Bx w2 k2 32 Zo) := hb2
  have hk1 : w.heap.size ≤ k1 := by omega
  have hk2 : k1 < k2 := by omega
  have HE1 := hide e1
  have HEK1 := hide ek1
  have HE2 := hide e2
  have HK12 : Hid (k1 + 1 = k2) := by show _ = _; omega
  have HAN := hide (answer3_any o mv nv lv cv 0 [] (false, 0) now w2 (I.same (unhide OW)) S hn)
  have hr := Bx.whole (unhide HB) hd
  have HSZ := hide (size_cells o mv nv lv cv hd)
  have hbd := build_plea o mv nv lv cv now hd
  obtain ⟨dsc, hdu, hdr⟩ := row_desc Tryd.rowObj
  have HP : Hid (∀ p mw nw lw cw, val p mw nw lw cw = .agg (cells p mw nw lw cw).toArray) := fun _ _ _ _ _ => rfl
  obtain ⟨u, hu0⟩ : ∃ u, u = told (arcE o) (arcU o now) := ⟨_, rfl⟩
  obtain ⟨r, hr0⟩ : ∃ r, r = arcE o := ⟨_, rfl⟩
  rw [← hu0, ← hr0] at HAN ⊢
  unfold val
  obtain ⟨P, hP⟩ : ∃ P, P = pcells o mv nv lv cv 0 [] (false, 0) now := ⟨_, rfl⟩
  obtain ⟨A, hA⟩ : ∃ A, A = cells o mv nv lv cv := ⟨_, rfl⟩
  rw [← hP] at HAN hbd
  rw [← hA] at HE1 hr HSZ hbd ⊢
  clear hA hP hb1 hb2 o1 o2 hs1 hs2 e1 ek1 e2 ek2 hd I S hn hr0 hu0
  go_enter Tryd.func12, Tryd.ntmps12
  go_upto_region 1 with fail
  rw [zo_eq, ← unhide HE1, ← unhide HEK1, ← unhide HE2, unhide HK12]
  clear HE1 HEK1 HE2
  go_wp2_with (refine wpList_load_mid rfl 32 (.tmp 2) rfl k1 0 rfl A dsc hr hdu hdr (unhide HSZ) ?_)
  refine (unhide HAN).mono ?_
  rintro e w3 ⟨mw, nw, lw, cw, rfl, hin, hfr, o3⟩
  have hk22 : k2 < w2.heap.size := (unhide HZ).lt
  have hne : ∀ j, (blk mw = some j ∨ blk nw = some j ∨ blk lw = some j ∨ blk cw = some j) → ¬ j = k2 := fun j hj e => by have := hfr j hj; omega
  have hZ3 : Bx w3 k2 32 Zo := (unhide HZ).same o3
  obtain ⟨hth, hfb, hin7, hof⟩ := fin37 hin hne hZ3 (cs0 := Zo) rfl
  have HSA := hide (size_cellsA u mw nw lw cw hin.ten)
  have HON7 := hide hin.one
  have HFR : Hid (Fresh4 w.heap.size mw nw lw cw) := fun j hj => by have := hfr j hj; have := (unhide OW).size; omega
  have HTH := hide hth
  have HFB := hide hfb
  have HIN7 := hide hin7
  have HOF : Hid (Only (fun _ => False) w (w3.setCells k2 0 (cells u mw nw lw cw))) := (((unhide OW).trans o3 (fun _ _ e => e))).trans (T := fun j => j = k2) hof (fun j hj e => by omega)
  rw [unhide HP]
  obtain ⟨B, hB⟩ : ∃ B, B = cells u mw nw lw cw := ⟨_, rfl⟩
  rw [← hB] at HSA HON7 HTH HFB HIN7 HOF ⊢
  have HBB := hide hB
  clear hth hfb hin7 hof hin hfr o3 hB hne hZ3 hr HSZ hbd HAN HB HZ OW
  go_wp2_with (refine wpList_store_mid rfl 32 (.tmp 4) (.tmp 10) rfl k2 0 B.toArray rfl rfl (unhide HTH) (unhide HSA) (unhide HON7) ?_)
  refine bodyPost_ret (results_st2 rfl _ _ k2 32 B.toArray rfl (unhide HFB) Tryd.rowObjM (unhide HSA)) rfl ?_
  exact ⟨mw, nw, lw, cw, by rw [unhide HBB]; rfl, unhide HIN7, unhide HFR, unhide HOF⟩
set_option maxRecDepth 100000 in
set_option maxHeartbeats 4000000 in
theorem recover_any (o : Ob) (mv nv lv cv : Value) (now : Int) (w : World) (I : In w o mv nv lv cv) (S : Small o) (hn : W64 now) :
    Calls Tryd.prog 13 #[val o mv nv lv cv, .int .i64 now] w fun e w' => Ans w w' e (told (recE o) (recU o now)) (recE o) := by
  have hd := I.ten
  obtain ⟨w1, k1, e1, ek1, hb1, o1, hs1⟩ := boxed w (cells o mv nv lv cv).toArray 32
  obtain ⟨w2, k2, e2, ek2, hb2, o2, hs2⟩ := boxed w1 Zo.toArray 32
  rw [List.toList_toArray] at hb1
  have OW := hide (o1.trans o2 (fun _ _ e => e))
  have HB := hide (hb1.same o2)
  have HZ : Hid (Bx w2 k2 32 Zo) := hb2
  have hk1 : w.heap.size ≤ k1 := by omega
  have hk2 : k1 < k2 := by omega
  have HE1 := hide e1
  have HEK1 := hide ek1
  have HE2 := hide e2
  have HK12 : Hid (k1 + 1 = k2) := by show _ = _; omega
  have HAN := hide (answer4_any o mv nv lv cv 0 [] (false, 0) now w2 (I.same (unhide OW)) S hn)
  have hr := Bx.whole (unhide HB) hd
  have HSZ := hide (size_cells o mv nv lv cv hd)
  have hbd := build_plea o mv nv lv cv now hd
  obtain ⟨dsc, hdu, hdr⟩ := row_desc Tryd.rowObj
  have HP : Hid (∀ p mw nw lw cw, val p mw nw lw cw = .agg (cells p mw nw lw cw).toArray) := fun _ _ _ _ _ => rfl
  obtain ⟨u, hu0⟩ : ∃ u, u = told (recE o) (recU o now) := ⟨_, rfl⟩
  obtain ⟨r, hr0⟩ : ∃ r, r = recE o := ⟨_, rfl⟩
  rw [← hu0, ← hr0] at HAN ⊢
  unfold val
  obtain ⟨P, hP⟩ : ∃ P, P = pcells o mv nv lv cv 0 [] (false, 0) now := ⟨_, rfl⟩
  obtain ⟨A, hA⟩ : ∃ A, A = cells o mv nv lv cv := ⟨_, rfl⟩
  rw [← hP] at HAN hbd
  rw [← hA] at HE1 hr HSZ hbd ⊢
  clear hA hP hb1 hb2 o1 o2 hs1 hs2 e1 ek1 e2 ek2 hd I S hn hr0 hu0
  go_enter Tryd.func13, Tryd.ntmps13
  go_upto_region 1 with fail
  rw [zo_eq, ← unhide HE1, ← unhide HEK1, ← unhide HE2, unhide HK12]
  clear HE1 HEK1 HE2
  go_wp2_with (refine wpList_load_mid rfl 32 (.tmp 2) rfl k1 0 rfl A dsc hr hdu hdr (unhide HSZ) ?_)
  refine (unhide HAN).mono ?_
  rintro e w3 ⟨mw, nw, lw, cw, rfl, hin, hfr, o3⟩
  have hk22 : k2 < w2.heap.size := (unhide HZ).lt
  have hne : ∀ j, (blk mw = some j ∨ blk nw = some j ∨ blk lw = some j ∨ blk cw = some j) → ¬ j = k2 := fun j hj e => by have := hfr j hj; omega
  have hZ3 : Bx w3 k2 32 Zo := (unhide HZ).same o3
  obtain ⟨hth, hfb, hin7, hof⟩ := fin37 hin hne hZ3 (cs0 := Zo) rfl
  have HSA := hide (size_cellsA u mw nw lw cw hin.ten)
  have HON7 := hide hin.one
  have HFR : Hid (Fresh4 w.heap.size mw nw lw cw) := fun j hj => by have := hfr j hj; have := (unhide OW).size; omega
  have HTH := hide hth
  have HFB := hide hfb
  have HIN7 := hide hin7
  have HOF : Hid (Only (fun _ => False) w (w3.setCells k2 0 (cells u mw nw lw cw))) := (((unhide OW).trans o3 (fun _ _ e => e))).trans (T := fun j => j = k2) hof (fun j hj e => by omega)
  rw [unhide HP]
  obtain ⟨B, hB⟩ : ∃ B, B = cells u mw nw lw cw := ⟨_, rfl⟩
  rw [← hB] at HSA HON7 HTH HFB HIN7 HOF ⊢
  have HBB := hide hB
  clear hth hfb hin7 hof hin hfr o3 hB hne hZ3 hr HSZ hbd HAN HB HZ OW
  go_wp2_with (refine wpList_store_mid rfl 32 (.tmp 4) (.tmp 10) rfl k2 0 B.toArray rfl rfl (unhide HTH) (unhide HSA) (unhide HON7) ?_)
  refine bodyPost_ret (results_st2 rfl _ _ k2 32 B.toArray rfl (unhide HFB) Tryd.rowObjM (unhide HSA)) rfl ?_
  exact ⟨mw, nw, lw, cw, by rw [unhide HBB]; rfl, unhide HIN7, unhide HFR, unhide HOF⟩
end Ob
end Go.Proofs.YtadpmninoghcjaaDoor
