/-
  object.Right, part by part.
-/
import Derived.Test.YtlcnckmbimmpjaaDoorObIdx
namespace Go.Proofs.YtlcnckmbimmpjaaDoor
open Go.RowKit
set_option linter.unusedSimpArgs false
set_option linter.unusedVariables false
namespace Ob

theorem scells_str (s : List UInt8) : scells s = [.string (str s)] := rfl

section
variable {o : Ob} {mv nv lv cv : Value} {w : World}

/-- the cells of an object that stands in a block -/
theorem at_front {b : Nat} {t : TypeId} {A : Array Value} (hA : A = (cells o mv nv lv cv).toArray) (hb : Bx w b t A.toList) (i : Nat) (hi : i < 7) (v : Value) (hv : (front o mv)[i]? = some v) : w.cell? ⟨b, i, none⟩ = some v :=
  hb.cell i v (by rw [hA]; exact (cells_front o mv nv lv cv i hi).trans hv)
theorem at_back {b : Nat} {t : TypeId} {A : Array Value} (hA : A = (cells o mv nv lv cv).toArray) (hb : Bx w b t A.toList) (hd : o.dates.length = 10) (i : Nat) (v : Value) (hv : (back o nv lv cv)[i]? = some v) : w.cell? ⟨b, 27 + i, none⟩ = some v :=
  hb.cell (27 + i) v (by rw [hA]; exact (cells_back o mv nv lv cv hd i).trans hv)

set_option maxRecDepth 100000 in
theorem rnumbers_any (h : In w o mv nv lv cv) (hT : Tabs w) :
    Calls Tryd.prog 38 #[val o mv nv lv cv] w fun e w' => e = .returned (.bool (numB o)) ∧ Only (fun _ => False) w w' := by
  unfold val
  obtain ⟨A, hA⟩ : ∃ A, A = (cells o mv nv lv cv).toArray := ⟨_, rfl⟩
  rw [← hA]
  obtain ⟨w1, b, e1, eb, hb, o1, hs⟩ := boxed w A 80
  have c1 := at_front hA hb 1 (by decide) _ rfl
  have c2 := at_front hA hb 2 (by decide) _ rfl
  have c3 := at_front hA hb 3 (by decide) _ rfl
  have c4 := at_front hA hb 4 (by decide) _ rfl
  have c6 := at_front hA hb 6 (by decide) _ rfl
  have O1 := hide o1
  clear hA hb hs o1 h hT
  go_enter Tryd.func38, Tryd.ntmps38
  go_upto_region 1 with fail
  rw [← e1, ← eb]
  clear e1 eb
  go_wp2_with (first
    | (refine (typ_any o.typ _).mono ?_; rintro e x ⟨rfl, rfl⟩)
    | (refine (within_any _ _ _ _).mono ?_; rintro e x ⟨rfl, rfl⟩))
  all_goals
    go_ret
    refine ⟨?_, unhide O1⟩
    clear c1 c2 c3 c4 c6 O1
    simp_all [numB]

set_option maxRecDepth 100000 in
theorem rid_any (h : In w o mv nv lv cv) (hT : Tabs w) :
    Calls Tryd.prog 37 #[val o mv nv lv cv] w fun e w' => e = .returned (.bool (isText o.id)) ∧ Only (fun _ => False) w w' := by
  unfold val
  obtain ⟨A, hA⟩ : ∃ A, A = (cells o mv nv lv cv).toArray := ⟨_, rfl⟩
  rw [← hA]
  obtain ⟨w1, b, e1, eb, hb, o1, hs⟩ := boxed w A 80
  have c1 := at_front hA hb 0 (by decide) _ rfl
  have HV := hide (text_any o.id w1 h.strs.1 (hT.same o1))
  have O1 := hide o1
  clear hA hb hs o1 h hT
  generalize str o.id = S at *
  go_enter Tryd.func37, Tryd.ntmps37
  go_upto_region 1 with fail
  rw [← e1, ← eb]
  clear e1 eb
  go_wp2_with (refine (unhide HV).mono ?_; rintro e x ⟨rfl, o2⟩)
  go_ret
  exact ⟨rfl, (unhide O1).trans o2 (fun _ _ e => e)⟩

set_option maxRecDepth 100000 in
theorem rmat_any (h : In w o mv nv lv cv) (hT : Tabs w) :
    Calls Tryd.prog 39 #[val o mv nv lv cv] w fun e w' => e = .returned (.bool (decide (o.mat.length ≤ 128))) ∧ Only (fun _ => False) w w' := by
  unfold val
  obtain ⟨A, hA⟩ : ∃ A, A = (cells o mv nv lv cv).toArray := ⟨_, rfl⟩
  rw [← hA]
  obtain ⟨ma, mc, rfl, hml, hmm⟩ := h.mat.shape
  obtain ⟨w1, b, e1, eb, hb, o1, hs⟩ := boxed w A 80
  have c1 := at_front hA hb 5 (by decide) _ rfl
  have hD : decide (o.mat.length ≤ 128) = decide ((o.mat.length : Int) ≤ 128) := by simp; omega
  rw [hD]
  have O1 := hide o1
  clear hA hb hs o1 h hT hD
  generalize o.mat.length = L at *
  go_enter Tryd.func39, Tryd.ntmps39
  go_upto_region 1 with fail
  rw [← e1, ← eb]
  clear e1 eb
  go_wp2
  go_ret
  exact ⟨rfl, unhide O1⟩

set_option maxRecDepth 100000 in
theorem rreason_any (h : In w o mv nv lv cv) (hT : Tabs w) :
    Calls Tryd.prog 41 #[val o mv nv lv cv] w fun e w' => e = .returned (.bool (reasB o)) ∧ Only (fun _ => False) w w' := by
  unfold val
  obtain ⟨A, hA⟩ : ∃ A, A = (cells o mv nv lv cv).toArray := ⟨_, rfl⟩
  rw [← hA]
  obtain ⟨w1, b, e1, eb, hb, o1, hs⟩ := boxed w A 80
  have c27 := at_back hA hb h.ten 0 _ rfl
  have c28 := at_back hA hb h.ten 1 _ rfl
  have HV := hide (msg_any o.msg w1 h.strs.2.1 (hT.same o1))
  have hbe : (str o.msg).toList.isEmpty = decide (o.msg = []) := by rw [str_toList]; cases o.msg <;> simp
  have HM : Hid (reasB o = if o.reason = 0 then decide (o.msg = []) else within o.reason 0 7 && isMsg o.msg) := rfl
  have O1 := hide o1
  clear hA hb hs o1 h hT
  generalize str o.msg = S at *
  by_cases h0 : o.reason = 0
  · rw [h0] at c27
    have hp := unhide HM
    rw [if_pos h0] at hp
    rw [hp]
    generalize decide (o.msg = []) = D at *
    clear hp h0 HM HV
    go_enter Tryd.func41, Tryd.ntmps41
    go_upto_region 1 with fail
    rw [← e1, ← eb]
    clear e1 eb
    go_wp2
    go_ret
    exact ⟨rfl, unhide O1⟩
  · have hz : (o.reason == 0) = false := by simpa using h0
    have hp := unhide HM
    rw [if_neg h0] at hp
    rw [hp]
    have HW := fun W => hide (within_any o.reason 0 7 W)
    clear hp h0 HM hbe
    generalize isMsg o.msg = M at *
    generalize within o.reason 0 7 = V at *
    generalize o.reason = R at *
    cases V
    all_goals
      go_enter Tryd.func41, Tryd.ntmps41
      go_upto_region 1 with fail
      rw [← e1, ← eb]
      clear e1 eb
      go_wp2_with (first
        | (refine (unhide (HW _)).mono ?_; rintro e x ⟨rfl, rfl⟩)
        | (refine (unhide HV).mono ?_; rintro e x ⟨rfl, o2⟩))
      go_ret
    · exact ⟨rfl, unhide O1⟩
    · exact ⟨by rw [Bool.true_and]; first | done | rfl, (unhide O1).trans o2 (fun _ _ e => e)⟩

set_option maxRecDepth 100000 in
theorem rlists_any (h : In w o mv nv lv cv) (hT : Tabs w) :
    Calls Tryd.prog 42 #[val o mv nv lv cv] w fun e w' => e = .returned (.bool (listsB o)) ∧ Only (fun _ => False) w w' := by
  unfold val
  obtain ⟨A, hA⟩ : ∃ A, A = (cells o mv nv lv cv).toArray := ⟨_, rfl⟩
  rw [← hA]
  obtain ⟨w1, b, e1, eb, hb, o1, hs⟩ := boxed w A 80
  have c29 := at_back hA hb h.ten 2 _ rfl
  have c30 := at_back hA hb h.ten 3 _ rfl
  have c31 := at_back hA hb h.ten 4 _ rfl
  have H1 := hide (list_s o.names 6 nv w1 (h.names.same o1) h.strs.2.2.1 (hT.same o1))
  have H2 := hide (fun W (oo : Only (fun _ => False) w W) => list_k o.links 8 lv W (h.links.same oo) h.strs.2.2.2.1 (hT.same oo))
  have H3 := hide (fun W (oo : Only (fun _ => False) w W) => list_c o.custom 6 cv W (h.custom.same oo) h.strs.2.2.2.2 (hT.same oo))
  have HM : Hid (listsB o = (listB isText 6 o.names && listB linkB 8 o.links && listB custB 6 o.custom)) := rfl
  have O1 := hide o1
  obtain ⟨na, nc, rfl, _⟩ := h.names.shape
  obtain ⟨la, lc, rfl, _⟩ := h.links.shape
  obtain ⟨ca, cc, rfl, _⟩ := h.custom.shape
  clear hA hb hs o1 h hT
  rw [unhide HM]
  clear HM
  generalize listB isText 6 o.names = B1 at *
  generalize listB linkB 8 o.links = B2 at *
  generalize listB custB 6 o.custom = B3 at *
  generalize o.names.length = nl at *
  generalize o.links.length = ll at *
  generalize o.custom.length = cl at *
  cases B1
  · go_enter Tryd.func42, Tryd.ntmps42
    go_upto_region 1 with fail
    rw [← e1, ← eb]
    clear e1 eb
    go_wp2_with (refine (unhide H1).mono ?_; rintro e x ⟨rfl, o2⟩)
    go_ret
    exact ⟨rfl, (unhide O1).trans o2 (fun _ _ e => e)⟩
  · cases B2
    · go_enter Tryd.func42, Tryd.ntmps42
      go_upto_region 1 with fail
      rw [← e1, ← eb]
      clear e1 eb
      go_wp2_with (first
        | (refine (unhide H1).mono ?_; rintro e x ⟨rfl, o2⟩; have d30 := o2.cell c30 (fun e => e); have O2 := hide ((unhide O1).trans o2 (fun _ _ e => e)); clear o2)
        | (refine (unhide H2 _ (unhide O2)).mono ?_; rintro e x2 ⟨rfl, o3⟩))
      go_ret
      exact ⟨rfl, (unhide O2).trans o3 (fun _ _ e => e)⟩
    · go_enter Tryd.func42, Tryd.ntmps42
      go_upto_region 1 with fail
      rw [← e1, ← eb]
      clear e1 eb
      go_wp2_with (first
        | (refine (unhide H1).mono ?_; rintro e x ⟨rfl, o2⟩; have d30 := o2.cell c30 (fun e => e); have d31 := o2.cell c31 (fun e => e); have O2 := hide ((unhide O1).trans o2 (fun _ _ e => e)); clear o2)
        | (refine (unhide H2 _ (unhide O2)).mono ?_; rintro e x2 ⟨rfl, o3⟩; have e31 := o3.cell d31 (fun e => e); have O3 := hide ((unhide O2).trans o3 (fun _ _ e => e)); clear o3)
        | (refine (unhide H3 _ (unhide O3)).mono ?_; rintro e x3 ⟨rfl, o4⟩))
      go_ret
      exact ⟨rfl, (unhide O3).trans o4 (fun _ _ e => e)⟩

set_option maxRecDepth 100000 in
theorem rlimits_any (h : In w o mv nv lv cv) (hT : Tabs w) :
    Calls Tryd.prog 43 #[val o mv nv lv cv] w fun e w' => e = .returned (.bool (limB o)) ∧ Only (fun _ => False) w w' := by
  unfold val
  obtain ⟨A, hA⟩ : ∃ A, A = (cells o mv nv lv cv).toArray := ⟨_, rfl⟩
  rw [← hA]
  obtain ⟨w1, b, e1, eb, hb, o1, hs⟩ := boxed w A 80
  have c32 := at_back hA hb h.ten 5 _ rfl
  have c33 := at_back hA hb h.ten 6 _ rfl
  have c34 := at_back hA hb h.ten 7 _ rfl
  have c35 := at_back hA hb h.ten 8 _ rfl
  have HM : Hid (limB o = if o.lh then within o.lt 1 1099511627776 && within o.lc 0 o.lt && within o.lu 1 2 else decide (o.lt = 0) && decide (o.lc = 0) && decide (o.lu = 0)) := rfl
  have O1 := hide o1
  clear hA hb hs h hT
  rw [unhide HM]
  clear HM
  generalize o.lh = H at *
  generalize o.lt = T at *
  generalize o.lc = C at *
  generalize o.lu = U at *
  obtain ⟨w2, b2, e2, eb2, hb2, o2, hs2⟩ := boxed w1 #[.bool H, .int .i64 T, .int .i64 C, .int .i64 U] 33
  have d0 := hb2.cell 0 _ rfl
  have d1 := hb2.cell 1 _ rfl
  have d2 := hb2.cell 2 _ rfl
  have d3 := hb2.cell 3 _ rfl
  have O2 := hide (o1.trans o2 (fun _ _ e => e))
  clear hb2 hs2 o1 o2
  cases H
  · rw [if_neg (by decide)]
    go_enter Tryd.func43, Tryd.ntmps43
    go_upto_region 1 with fail
    rw [← e1, ← eb]
    clear e1 eb
    go_upto_region 2 with fail
    rw [← e2, ← eb2]
    clear e2 eb2
    go_wp2
    all_goals
      go_ret
      refine ⟨?_, unhide O2⟩
      clear c32 c33 c34 c35 d0 d1 d2 d3 O1 O2
      simp_all
  · rw [if_pos rfl]
    go_enter Tryd.func43, Tryd.ntmps43
    go_upto_region 1 with fail
    rw [← e1, ← eb]
    clear e1 eb
    go_upto_region 2 with fail
    rw [← e2, ← eb2]
    clear e2 eb2
    go_wp2_with (first
      | (refine (within64_any _ _ _ _).mono ?_; rintro e x ⟨rfl, rfl⟩)
      | (refine (within_any _ _ _ _).mono ?_; rintro e x ⟨rfl, rfl⟩))
    all_goals
      go_ret
      refine ⟨?_, unhide O2⟩
      clear c32 c33 c34 c35 d0 d1 d2 d3 O1 O2
      simp_all
end
end Ob
end Go.Proofs.YtlcnckmbimmpjaaDoor
