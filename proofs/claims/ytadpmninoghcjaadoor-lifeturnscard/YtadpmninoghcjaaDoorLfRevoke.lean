/-
  life's calls: Revoke.
-/
import Derived.Test.YtadpmninoghcjaaDoorLfFive
import Derived.Test.YtadpmninoghcjaaDoorLfAns1
namespace Go.Proofs.YtadpmninoghcjaaDoor
open Go.RowKit
set_option linter.unusedSimpArgs false
set_option linter.unusedVariables false
namespace Ob
attribute [local go_sem ↓] execOp_mkPlea execOp_mkPlea5
set_option maxRecDepth 100000 in
set_option maxHeartbeats 4000000 in
theorem revoke_any (o : Ob) (mv nv lv cv : Value) (r : Int) (msg : List UInt8) (oc : Bool × Int) (now : Int) (w : World) (I : In w o mv nv lv cv) (S : Small o) (hn : W64 now) (hr64 : W64 r) (hoc : W64 oc.2) (hl : msg.length ≤ maxLen) (hT : msg = [] ∨ Tabs w) :
    Calls Tryd.prog 10 #[val o mv nv lv cv, .int .i64 r, .string (str msg), .agg #[.bool oc.1, .int .i64 oc.2], .int .i64 now] w fun e w' => Ans w w' e (told (revE o r msg oc now) (revU o r msg oc now)) (revE o r msg oc now) := by
  have hd := I.ten
  obtain ⟨w1, k1, e1, ek1, hb1, o1, hs1⟩ := boxed w (cells o mv nv lv cv).toArray 32
  obtain ⟨wd, kd, ed, ekd, hbd', od, hsd⟩ := boxed w1 #[.bool oc.1, .int .i64 oc.2] 24
  obtain ⟨w2, k2, e2, ek2, hb2, o2, hs2⟩ := boxed wd Zo.toArray 32
  rw [List.toList_toArray] at hb1
  have OW := hide ((o1.trans od (fun _ _ e => e)).trans o2 (fun _ _ e => e))
  have HB := hide ((hb1.same od).same o2)
  have HZ : Hid (Bx w2 k2 32 Zo) := hb2
  have hk1 : w.heap.size ≤ k1 := by omega
  have hk2 : k1 < k2 := by omega
  have HE1 := hide e1
  have HEK1 := hide ek1
  have HED := hide ed
  have HE2 := hide e2
  have HK1D : Hid (k1 + 1 = kd) := by show _ = _; omega
  have HK12 : Hid (k1 + 1 + 1 = k2) := by show _ = _; omega
  have hbx := hbd'.same o2
  have cd0 := hbx.cell 0 _ rfl
  have cd1 := hbx.cell 1 _ rfl
  have HAN := hide (answer1_any o mv nv lv cv r msg oc now w2 (I.same (unhide OW)) S hn hr64 hoc hl (hT.imp (fun h => h) (fun h => Tabs.same h (unhide OW))))
  have hr := Bx.whole (unhide HB) hd
  have HSZ := hide (size_cells o mv nv lv cv hd)
  have hbd := build_plea5 o mv nv lv cv r msg oc now hd
  obtain ⟨dsc, hdu, hdr⟩ := row_desc Tryd.rowObj
  have HP : Hid (∀ p mw nw lw cw, val p mw nw lw cw = .agg (cells p mw nw lw cw).toArray) := fun _ _ _ _ _ => rfl
  obtain ⟨u, hu0⟩ : ∃ u, u = told (revE o r msg oc now) (revU o r msg oc now) := ⟨_, rfl⟩
  obtain ⟨re, hr0⟩ : ∃ re, re = revE o r msg oc now := ⟨_, rfl⟩
  rw [← hu0, ← hr0] at HAN ⊢
  unfold val
  obtain ⟨P, hP⟩ : ∃ P, P = pcells o mv nv lv cv r msg oc now := ⟨_, rfl⟩
  obtain ⟨A, hA⟩ : ∃ A, A = cells o mv nv lv cv := ⟨_, rfl⟩
  rw [← hP] at HAN hbd
  rw [← hA] at HE1 hr HSZ hbd ⊢
  clear hA hP hb1 hb2 hbd' hbx o1 od o2 hs1 hsd hs2 e1 ek1 ed ekd e2 ek2 hd I S hn hr0 hu0 hr64 hoc hl hT
  obtain ⟨oh, oa⟩ := oc
  simp only at HED cd0 cd1 hbd ⊢
  generalize str msg = MS at *
  go_enter Tryd.func10, Tryd.ntmps10
  go_upto_region 1 with fail
  rw [zo_eq, ← unhide HE1, ← unhide HEK1, ← unhide HED, unhide HK1D, ← unhide HE2, ← unhide HK1D, unhide HK12]
  rw [unhide HK1D]
  clear HE1 HEK1 HE2 HED HK1D HK12
  go_wp2_with (refine wpList_load_mid rfl 32 (.tmp 5) rfl k1 0 rfl A dsc hr hdu hdr (unhide HSZ) ?_)
  refine (unhide HAN).mono ?_
  rintro e w3 ⟨mw, nw, lw, cw, rfl, hin, hfr, o3⟩
  have hk22 : k2 < w2.heap.size := (unhide HZ).lt
  have hne : ∀ j, (blk mw = some j ∨ blk nw = some j ∨ blk lw = some j ∨ blk cw = some j) → ¬ j = k2 := fun j hj e => by have := hfr j hj; omega
  have hZ3 : Bx w3 k2 32 Zo := (unhide HZ).same o3
  obtain ⟨hth, hfb, hin7, hof⟩ := fin37 hin hne hZ3 (cs0 := Zo) rfl
  have HSA := hide (size_cellsA u mw nw lw cw hin.ten)
  have HON7 := hide hin.one
  have HFR : Hid (Fresh4 w.heap.size mw nw lw cw) := fun j hj => by have := hfr j hj; have := (unhide OW).size; omega
  have HTH := hide hth
  have HFB := hide hfb
  have HIN7 := hide hin7
  have HOF : Hid (Only (fun _ => False) w (w3.setCells k2 0 (cells u mw nw lw cw))) := (((unhide OW).trans o3 (fun _ _ e => e))).trans (T := fun j => j = k2) hof (fun j hj e => by omega)
  rw [unhide HP]
  obtain ⟨B, hB⟩ : ∃ B, B = cells u mw nw lw cw := ⟨_, rfl⟩
  rw [← hB] at HSA HON7 HTH HFB HIN7 HOF ⊢
  have HBB := hide hB
  clear hth hfb hin7 hof hin hfr o3 hB hne hZ3 hr HSZ hbd HAN HB HZ OW
  go_wp2_with (refine wpList_store_mid rfl 32 (.tmp 10) (.tmp 19) rfl k2 0 B.toArray rfl rfl (unhide HTH) (unhide HSA) (unhide HON7) ?_)
  refine bodyPost_ret (results_st2 rfl _ _ k2 32 B.toArray rfl (unhide HFB) Tryd.rowObjM (unhide HSA)) rfl ?_
  exact ⟨mw, nw, lw, cw, by rw [unhide HBB]; rfl, unhide HIN7, unhide HFR, unhide HOF⟩
end Ob
end Go.Proofs.YtadpmninoghcjaaDoor
