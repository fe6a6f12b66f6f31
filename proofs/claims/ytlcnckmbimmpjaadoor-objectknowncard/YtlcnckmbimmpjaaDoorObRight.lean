/-
  object.Right.
-/
import Derived.Test.YtlcnckmbimmpjaaDoorObR3
namespace Go.Proofs.YtlcnckmbimmpjaaDoor
open Go.RowKit
set_option linter.unusedSimpArgs false
set_option linter.unusedVariables false
namespace Ob

def parts (o : Ob) : List Bool := [isText o.id, numB o, decide (o.mat.length ≤ 128), o.dates.all dateB, reasB o, listsB o, limB o]
theorem right_parts (o : Ob) : rightB o = (parts o).all _root_.id := by
  unfold rightB parts
  simp [Bool.and_assoc]

theorem Tryd.rowObj : (Tryd.prog.underlying 35).map (·.isRow) = some true := by kernel_rfl
theorem Tryd.sizeObj : (Tryd.prog.info? 35).map (·.size) = some 37 := by kernel_rfl
theorem row_desc {t : TypeId} (h : (Tryd.prog.underlying t).map (·.isRow) = some true) : ∃ d, Tryd.prog.underlying t = some d ∧ d.isRow = true := by
  cases hd : Tryd.prog.underlying t with
  | none => rw [hd] at h; cases h
  | some d => rw [hd] at h; exact ⟨d, rfl, by simpa using h⟩

theorem take_all {l : List Bool} {k : Nat} (h1 : (l.take k).all _root_.id = true) (h2 : l[k]? = some true) : (l.take (k + 1)).all _root_.id = true := by
  obtain ⟨hk, he⟩ := List.getElem?_eq_some_iff.1 h2
  rw [List.take_succ_eq_append_getElem hk, List.all_append, h1, he]
  rfl

def funcs : List Value := [.func (.func 37) #[] #[], .func (.func 38) #[] #[], .func (.func 39) #[] #[], .func (.func 40) #[] #[], .func (.func 41) #[] #[], .func (.func 42) #[] #[], .func (.func 43) #[] #[]]

set_option maxRecDepth 100000 in
set_option maxHeartbeats 2000000 in
theorem right_any {o : Ob} {mv nv lv cv : Value} {w : World} (h : In w o mv nv lv cv) (hT : Tabs w) :
    Calls Tryd.prog 15 #[val o mv nv lv cv] w fun e w' => e = .returned (.bool (rightB o)) ∧ Only (fun _ => False) w w' := by
  have HC : Hid (∀ (W : World), Only (fun _ => False) w W → (Calls Tryd.prog 37 #[val o mv nv lv cv] W (fun e w' => e = .returned (.bool (isText o.id)) ∧ Only (fun _ => False) W w') ∧ Calls Tryd.prog 38 #[val o mv nv lv cv] W (fun e w' => e = .returned (.bool (numB o)) ∧ Only (fun _ => False) W w') ∧ Calls Tryd.prog 39 #[val o mv nv lv cv] W (fun e w' => e = .returned (.bool (decide (o.mat.length ≤ 128))) ∧ Only (fun _ => False) W w') ∧ Calls Tryd.prog 40 #[val o mv nv lv cv] W (fun e w' => e = .returned (.bool (o.dates.all dateB)) ∧ Only (fun _ => False) W w') ∧ Calls Tryd.prog 41 #[val o mv nv lv cv] W (fun e w' => e = .returned (.bool (reasB o)) ∧ Only (fun _ => False) W w') ∧ Calls Tryd.prog 42 #[val o mv nv lv cv] W (fun e w' => e = .returned (.bool (listsB o)) ∧ Only (fun _ => False) W w') ∧ Calls Tryd.prog 43 #[val o mv nv lv cv] W (fun e w' => e = .returned (.bool (limB o)) ∧ Only (fun _ => False) W w'))) := by
    intro W oo
    have h' := h.same oo
    have t' := hT.same oo
    exact ⟨rid_any h' t', rnumbers_any h' t', rmat_any h' t', rdates_any h' t', rreason_any h' t', rlists_any h' t', rlimits_any h' t'⟩
  rw [right_parts]
  unfold val at HC ⊢
  obtain ⟨A, hA⟩ : ∃ A, A = (cells o mv nv lv cv).toArray := ⟨_, rfl⟩
  rw [← hA]
  rw [← hA] at HC
  obtain ⟨w1, b, e1, eb, hb, o1, hs⟩ := boxed w A 35
  obtain ⟨w2, g, e2, eg, hg, o2, hs2⟩ := boxed w1 funcs.toArray 79
  have hAl : A.size = 37 := by rw [hA, List.size_toArray]; exact cells_len o mv nv lv cv h.ten
  have HBX := hide (hb.only o2 (fun e => e))
  have HG := hide hg
  have O2 := hide (o1.trans o2 (fun _ _ e => e))
  have HAL := hide hAl
  obtain ⟨P0, hP0⟩ : ∃ P, P = parts o := ⟨_, rfl⟩
  rw [← hP0]
  have HP := hide hP0
  have HE2 := hide e2
  have HEG := hide eg
  clear hA hb hg o1 o2 hs hs2 h hT hAl hP0 e2 eg
  go_enter Tryd.func15, Tryd.ntmps15
  go_upto_region 1 with fail
  rw [← e1, ← eb]
  clear e1 eb
  go_upto_region 2 with fail
  rw [show (w1.alloc (.cells #[Value.func (Fn.func 37) #[] #[], Value.func (Fn.func 38) #[] #[], Value.func (Fn.func 39) #[] #[], Value.func (Fn.func 40) #[] #[], Value.func (Fn.func 41) #[] #[], Value.func (Fn.func 42) #[] #[], Value.func (Fn.func 43) #[] #[]] 79)) = w2 from (unhide HE2).symm, show w1.heap.size = g from (unhide HEG).symm]
  clear HE2 HEG
  go_loopw [7] (fun i wr => ∃ k : Nat, k ≤ 7 ∧ i = .int .i64 k ∧ Hid ((P0.take k).all _root_.id = true) ∧ Hid (Only (fun _ => False) w2 wr)) (fun i _ => 7 - (intOf i).toNat)
  case atStart => exact ⟨0, Nat.zero_le _, rfl, by show _ = _; simp, Only.refl _ _⟩
  case round =>
    rename World => wr
    obtain ⟨k, hk, rfl, hall, ho⟩ := hrel
    have HO := hide ((unhide O2).trans (unhide ho) (fun _ _ e => e))
    have hr := ((unhide HBX).same (unhide ho)).range 0 37
    rw [List.drop_zero, List.take_of_length_le (by rw [Array.length_toList, unhide HAL]; omega)] at hr
    obtain ⟨dsc, hdu, hdr⟩ := row_desc Tryd.rowObj
    have hG := (unhide HG).same (unhide ho)
    match k, hk with
    | 0, _ =>
      obtain ⟨hc, _⟩ := unhide HC wr (unhide HO)
      have c0 := hG.cell 0 (.func (.func 37) #[] #[]) rfl
      have hpk : Hid (P0[0]? = some (isText o.id)) := by show _ = _; rw [unhide HP]; rfl
      generalize (isText o.id) = V at *
      have HCC := hide hc
      clear hc hG HC
      cases V
      · have HE : Hid (P0.all _root_.id = false) := by
          show _ = _
          rw [← Bool.not_eq_true, List.all_eq_true]
          intro h
          have := h false (List.mem_of_getElem? (unhide hpk))
          simp at this
        go_wp2_with (refine wpList_load_mid rfl 35 (.tmp 1) rfl b 0 rfl A.toList dsc hr hdu hdr (by rw [Tryd.sizeObj, Array.length_toList, unhide HAL]) ?_)
        refine (unhide HCC).mono ?_
        rintro e x ⟨rfl, o3⟩
        go_wp2
        go_ret
        exact ⟨by rw [unhide HE]; first | done | rfl, (unhide HO).trans o3 (fun _ _ e => e)⟩
      · have HE : Hid ((P0.take 1).all _root_.id = true) := by
          exact take_all (unhide hall) (unhide hpk)
        go_wp2_with (refine wpList_load_mid rfl 35 (.tmp 1) rfl b 0 rfl A.toList dsc hr hdu hdr (by rw [Tryd.sizeObj, Array.length_toList, unhide HAL]) ?_)
        refine (unhide HCC).mono ?_
        rintro e x ⟨rfl, o3⟩
        go_wp2
        go_roundw
        case rel => exact ⟨1, by decide, by go_num, HE, (unhide ho).trans o3 (fun _ _ e => e)⟩
        case measure => simp [intOf]
    | 1, _ =>
      obtain ⟨_, hc, _⟩ := unhide HC wr (unhide HO)
      have c0 := hG.cell 1 (.func (.func 38) #[] #[]) rfl
      have hpk : Hid (P0[1]? = some (numB o)) := by show _ = _; rw [unhide HP]; rfl
      generalize (numB o) = V at *
      have HCC := hide hc
      clear hc hG HC
      cases V
      · have HE : Hid (P0.all _root_.id = false) := by
          show _ = _
          rw [← Bool.not_eq_true, List.all_eq_true]
          intro h
          have := h false (List.mem_of_getElem? (unhide hpk))
          simp at this
        go_wp2_with (refine wpList_load_mid rfl 35 (.tmp 1) rfl b 0 rfl A.toList dsc hr hdu hdr (by rw [Tryd.sizeObj, Array.length_toList, unhide HAL]) ?_)
        refine (unhide HCC).mono ?_
        rintro e x ⟨rfl, o3⟩
        go_wp2
        go_ret
        exact ⟨by rw [unhide HE]; first | done | rfl, (unhide HO).trans o3 (fun _ _ e => e)⟩
      · have HE : Hid ((P0.take 2).all _root_.id = true) := by
          exact take_all (unhide hall) (unhide hpk)
        go_wp2_with (refine wpList_load_mid rfl 35 (.tmp 1) rfl b 0 rfl A.toList dsc hr hdu hdr (by rw [Tryd.sizeObj, Array.length_toList, unhide HAL]) ?_)
        refine (unhide HCC).mono ?_
        rintro e x ⟨rfl, o3⟩
        go_wp2
        go_roundw
        case rel => exact ⟨2, by decide, by go_num, HE, (unhide ho).trans o3 (fun _ _ e => e)⟩
        case measure => simp [intOf]
    | 2, _ =>
      obtain ⟨_, _, hc, _⟩ := unhide HC wr (unhide HO)
      have c0 := hG.cell 2 (.func (.func 39) #[] #[]) rfl
      have hpk : Hid (P0[2]? = some (decide (o.mat.length ≤ 128))) := by show _ = _; rw [unhide HP]; rfl
      generalize (decide (o.mat.length ≤ 128)) = V at *
      have HCC := hide hc
      clear hc hG HC
      cases V
      · have HE : Hid (P0.all _root_.id = false) := by
          show _ = _
          rw [← Bool.not_eq_true, List.all_eq_true]
          intro h
          have := h false (List.mem_of_getElem? (unhide hpk))
          simp at this
        go_wp2_with (refine wpList_load_mid rfl 35 (.tmp 1) rfl b 0 rfl A.toList dsc hr hdu hdr (by rw [Tryd.sizeObj, Array.length_toList, unhide HAL]) ?_)
        refine (unhide HCC).mono ?_
        rintro e x ⟨rfl, o3⟩
        go_wp2
        go_ret
        exact ⟨by rw [unhide HE]; first | done | rfl, (unhide HO).trans o3 (fun _ _ e => e)⟩
      · have HE : Hid ((P0.take 3).all _root_.id = true) := by
          exact take_all (unhide hall) (unhide hpk)
        go_wp2_with (refine wpList_load_mid rfl 35 (.tmp 1) rfl b 0 rfl A.toList dsc hr hdu hdr (by rw [Tryd.sizeObj, Array.length_toList, unhide HAL]) ?_)
        refine (unhide HCC).mono ?_
        rintro e x ⟨rfl, o3⟩
        go_wp2
        go_roundw
        case rel => exact ⟨3, by decide, by go_num, HE, (unhide ho).trans o3 (fun _ _ e => e)⟩
        case measure => simp [intOf]
    | 3, _ =>
      obtain ⟨_, _, _, hc, _⟩ := unhide HC wr (unhide HO)
      have c0 := hG.cell 3 (.func (.func 40) #[] #[]) rfl
      have hpk : Hid (P0[3]? = some (o.dates.all dateB)) := by show _ = _; rw [unhide HP]; rfl
      generalize (o.dates.all dateB) = V at *
      have HCC := hide hc
      clear hc hG HC
      cases V
      · have HE : Hid (P0.all _root_.id = false) := by
          show _ = _
          rw [← Bool.not_eq_true, List.all_eq_true]
          intro h
          have := h false (List.mem_of_getElem? (unhide hpk))
          simp at this
        go_wp2_with (refine wpList_load_mid rfl 35 (.tmp 1) rfl b 0 rfl A.toList dsc hr hdu hdr (by rw [Tryd.sizeObj, Array.length_toList, unhide HAL]) ?_)
        refine (unhide HCC).mono ?_
        rintro e x ⟨rfl, o3⟩
        go_wp2
        go_ret
        exact ⟨by rw [unhide HE]; first | done | rfl, (unhide HO).trans o3 (fun _ _ e => e)⟩
      · have HE : Hid ((P0.take 4).all _root_.id = true) := by
          exact take_all (unhide hall) (unhide hpk)
        go_wp2_with (refine wpList_load_mid rfl 35 (.tmp 1) rfl b 0 rfl A.toList dsc hr hdu hdr (by rw [Tryd.sizeObj, Array.length_toList, unhide HAL]) ?_)
        refine (unhide HCC).mono ?_
        rintro e x ⟨rfl, o3⟩
        go_wp2
        go_roundw
        case rel => exact ⟨4, by decide, by go_num, HE, (unhide ho).trans o3 (fun _ _ e => e)⟩
        case measure => simp [intOf]
    | 4, _ =>
      obtain ⟨_, _, _, _, hc, _⟩ := unhide HC wr (unhide HO)
      have c0 := hG.cell 4 (.func (.func 41) #[] #[]) rfl
      have hpk : Hid (P0[4]? = some (reasB o)) := by show _ = _; rw [unhide HP]; rfl
      generalize (reasB o) = V at *
      have HCC := hide hc
      clear hc hG HC
      cases V
      · have HE : Hid (P0.all _root_.id = false) := by
          show _ = _
          rw [← Bool.not_eq_true, List.all_eq_true]
          intro h
          have := h false (List.mem_of_getElem? (unhide hpk))
          simp at this
        go_wp2_with (refine wpList_load_mid rfl 35 (.tmp 1) rfl b 0 rfl A.toList dsc hr hdu hdr (by rw [Tryd.sizeObj, Array.length_toList, unhide HAL]) ?_)
        refine (unhide HCC).mono ?_
        rintro e x ⟨rfl, o3⟩
        go_wp2
        go_ret
        exact ⟨by rw [unhide HE]; first | done | rfl, (unhide HO).trans o3 (fun _ _ e => e)⟩
      · have HE : Hid ((P0.take 5).all _root_.id = true) := by
          exact take_all (unhide hall) (unhide hpk)
        go_wp2_with (refine wpList_load_mid rfl 35 (.tmp 1) rfl b 0 rfl A.toList dsc hr hdu hdr (by rw [Tryd.sizeObj, Array.length_toList, unhide HAL]) ?_)
        refine (unhide HCC).mono ?_
        rintro e x ⟨rfl, o3⟩
        go_wp2
        go_roundw
        case rel => exact ⟨5, by decide, by go_num, HE, (unhide ho).trans o3 (fun _ _ e => e)⟩
        case measure => simp [intOf]
    | 5, _ =>
      obtain ⟨_, _, _, _, _, hc, _⟩ := unhide HC wr (unhide HO)
      have c0 := hG.cell 5 (.func (.func 42) #[] #[]) rfl
      have hpk : Hid (P0[5]? = some (listsB o)) := by show _ = _; rw [unhide HP]; rfl
      generalize (listsB o) = V at *
      have HCC := hide hc
      clear hc hG HC
      cases V
      · have HE : Hid (P0.all _root_.id = false) := by
          show _ = _
          rw [← Bool.not_eq_true, List.all_eq_true]
          intro h
          have := h false (List.mem_of_getElem? (unhide hpk))
          simp at this
        go_wp2_with (refine wpList_load_mid rfl 35 (.tmp 1) rfl b 0 rfl A.toList dsc hr hdu hdr (by rw [Tryd.sizeObj, Array.length_toList, unhide HAL]) ?_)
        refine (unhide HCC).mono ?_
        rintro e x ⟨rfl, o3⟩
        go_wp2
        go_ret
        exact ⟨by rw [unhide HE]; first | done | rfl, (unhide HO).trans o3 (fun _ _ e => e)⟩
      · have HE : Hid ((P0.take 6).all _root_.id = true) := by
          exact take_all (unhide hall) (unhide hpk)
        go_wp2_with (refine wpList_load_mid rfl 35 (.tmp 1) rfl b 0 rfl A.toList dsc hr hdu hdr (by rw [Tryd.sizeObj, Array.length_toList, unhide HAL]) ?_)
        refine (unhide HCC).mono ?_
        rintro e x ⟨rfl, o3⟩
        go_wp2
        go_roundw
        case rel => exact ⟨6, by decide, by go_num, HE, (unhide ho).trans o3 (fun _ _ e => e)⟩
        case measure => simp [intOf]
    | 6, _ =>
      obtain ⟨_, _, _, _, _, _, hc⟩ := unhide HC wr (unhide HO)
      have c0 := hG.cell 6 (.func (.func 43) #[] #[]) rfl
      have hpk : Hid (P0[6]? = some (limB o)) := by show _ = _; rw [unhide HP]; rfl
      generalize (limB o) = V at *
      have HCC := hide hc
      clear hc hG HC
      cases V
      · have HE : Hid (P0.all _root_.id = false) := by
          show _ = _
          rw [← Bool.not_eq_true, List.all_eq_true]
          intro h
          have := h false (List.mem_of_getElem? (unhide hpk))
          simp at this
        go_wp2_with (refine wpList_load_mid rfl 35 (.tmp 1) rfl b 0 rfl A.toList dsc hr hdu hdr (by rw [Tryd.sizeObj, Array.length_toList, unhide HAL]) ?_)
        refine (unhide HCC).mono ?_
        rintro e x ⟨rfl, o3⟩
        go_wp2
        go_ret
        exact ⟨by rw [unhide HE]; first | done | rfl, (unhide HO).trans o3 (fun _ _ e => e)⟩
      · have HE : Hid ((P0.take 7).all _root_.id = true) := by
          exact take_all (unhide hall) (unhide hpk)
        go_wp2_with (refine wpList_load_mid rfl 35 (.tmp 1) rfl b 0 rfl A.toList dsc hr hdu hdr (by rw [Tryd.sizeObj, Array.length_toList, unhide HAL]) ?_)
        refine (unhide HCC).mono ?_
        rintro e x ⟨rfl, o3⟩
        go_wp2
        go_roundw
        case rel => exact ⟨7, by decide, by go_num, HE, (unhide ho).trans o3 (fun _ _ e => e)⟩
        case measure => simp [intOf]
    | 7, _ =>
      have HE : Hid (P0.all _root_.id = true) := by
        have := unhide hall
        rw [List.take_of_length_le (by rw [unhide HP]; simp [parts])] at this
        exact this
      clear hG HC hr
      go_wp2
      go_ret
      exact ⟨by rw [unhide HE]; first | done | rfl, unhide HO⟩
    | k + 8, hk => exact absurd hk (by omega)
end Ob
end Go.Proofs.YtlcnckmbimmpjaaDoor
