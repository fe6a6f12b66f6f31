/-
  object.Right: dates, and the whole.
-/
import Derived.Test.YtlcnckmbimmpjaaDoorObR2
namespace Go.Proofs.YtlcnckmbimmpjaaDoor
open Go.RowKit
set_option linter.unusedSimpArgs false
set_option linter.unusedVariables false
namespace Ob

theorem Tryd.infoDate : (Tryd.prog.info? 27).map (fun i => (i.zero, i.size, i.bytes)) = some (some (.agg #[.bool false, .int .i64 0]), 2, 16) := by kernel_rfl
theorem Tryd.underDates : Tryd.prog.underlying 28 = some (.array 10 27) := by kernel_rfl
theorem Tryd.sizeDates : (Tryd.prog.info? 28).map (·.size) = some 20 := by kernel_rfl
theorem Tryd.aggDate (w : World) : (isAgg 27).run Tryd.prog w = .ok true w := by kernel_rfl

theorem dates_ext (ds : List (Bool × Int)) (i : Nat) (d : Bool × Int) (hd : ds[i]? = some d) : (ds.flatMap dcells).toArray.extract (i * 2) (i * 2 + 2) = (dcells d).toArray := by
  have hi := (List.getElem?_eq_some_iff.1 hd).1
  have h0 := flat_at dcells 2 ds (fun _ _ => rfl) i 0 (by decide) d hd
  have h1 := flat_at dcells 2 ds (fun _ _ => rfl) i 1 (by decide) d hd
  have hl := dcells_len ds
  apply Array.ext'
  rw [Array.toList_extract]
  apply List.ext_getElem?
  intro j
  simp only [List.extract, List.getElem?_take, List.getElem?_drop]
  match j with
  | 0 => simpa using h0
  | 1 => simpa using h1
  | j + 2 =>
    rw [if_neg (by omega)]
    simp [dcells]

/-- the i-th date -/
theorem index_date (ds : List (Bool × Int)) (hl : ds.length = 10) (i : Nat) (d : Bool × Int) (hd : ds[i]? = some d) (w : World) :
    (Instr.index 28 (.agg (ds.flatMap dcells).toArray) (.int .i64 (i : Int))).run Tryd.prog w = .ok (dval d) w := by
  have hi := (List.getElem?_eq_some_iff.1 hd).1
  have hs : (sizeOf 27).run Tryd.prog w = .ok 2 w := by
    obtain ⟨i0, hi0, hz0, hz1, hz2⟩ := info_parts Tryd.infoDate
    simp [sizeOf, typeInfo, hi0, hz1]
  have hin : (0 : Int) ≤ (i : Int) ∧ (i : Int) < (10 : Int) := ⟨by omega, by omega⟩
  have hp : (part 27 (ds.flatMap dcells).toArray (i * 2)).run Tryd.prog w = .ok (dval d) w := by
    unfold part
    simp only [Sem.run_bind, Tryd.aggDate, Result.andThen_ok, if_true, hs, Sem.run_pure]
    rw [dates_ext ds i d hd]
    rfl
  unfold Instr.index
  simp only [Sem.run_bind, asIntOf, Sem.run_pure, Result.andThen_ok, run_underlying Tryd.underDates w]
  simp only [show ((10 : Nat) : Int) = 10 from rfl, if_pos hin, hs, Int.toNat_natCast, Sem.run_bind, Result.andThen_ok]
  exact hp

section
variable {o : Ob} {mv nv lv cv : Value} {w : World}

set_option maxRecDepth 100000 in
theorem rdates_any (h : In w o mv nv lv cv) (hT : Tabs w) :
    Calls Tryd.prog 40 #[val o mv nv lv cv] w fun e w' => e = .returned (.bool (o.dates.all dateB)) ∧ Only (fun _ => False) w w' := by
  unfold val
  obtain ⟨A, hA⟩ : ∃ A, A = (cells o mv nv lv cv).toArray := ⟨_, rfl⟩
  rw [← hA]
  obtain ⟨w1, b, e1, eb, hb, o1, hs⟩ := boxed w A 80
  have hr := hb.range 7 20
  rw [hA, cells_dates o mv nv lv cv h.ten] at hr
  have hll := dcells_len o.dates
  have hten := h.ten
  obtain ⟨ds, hds⟩ : ∃ ds, ds = o.dates := ⟨_, rfl⟩
  rw [← hds] at hr hll hten ⊢
  have HIX := hide (fun (i : Nat) (d : Bool × Int) (hd : ds[i]? = some d) (W : World) => index_date ds hten i d hd W)
  obtain ⟨D, hD⟩ : ∃ D, D = (ds.flatMap dcells) := ⟨_, rfl⟩
  rw [← hD] at hr hll HIX
  have hdl : D.length = 20 := by omega
  have HDL := hide hdl
  have O1 := hide o1
  have HTEN := hide hten
  clear hA hb hs o1 h hT hds hD hll hdl hten
  go_enter Tryd.func40, Tryd.ntmps40
  go_upto_region 1 with fail
  rw [← e1, ← eb]
  clear e1 eb
  go_wp2_with (refine wpList_load_mid rfl 28 (.tmp 5) rfl b 7 rfl D _ hr Tryd.underDates rfl (by rw [Tryd.sizeDates]; simp [unhide HDL]) ?_)
  clear hr
  go_loopw [7] (fun i wr => ∃ k : Nat, k ≤ 10 ∧ i = .int .i64 k ∧ Hid ((ds.take k).all dateB = true) ∧ Hid (Only (fun _ => False) w wr)) (fun i _ => 10 - (intOf i).toNat)
  case atStart => exact ⟨0, Nat.zero_le _, rfl, by show _ = _; simp, O1⟩
  case round =>
    rename World => wr
    obtain ⟨k, hk, rfl, hall, ho⟩ := hrel
    by_cases hlt : k < 10
    case neg =>
      obtain rfl : k = 10 := by omega
      have HE : Hid (ds.all dateB = true) := by
        have := unhide hall
        rw [List.take_of_length_le (by rw [unhide HTEN]; omega)] at this
        exact this
      go_wp2
      go_ret
      exact ⟨by rw [unhide HE]; first | done | rfl, unhide ho⟩
    case pos =>
    have hku : k < ds.length := by have := unhide HTEN; omega
    obtain ⟨d, hd⟩ : ∃ d, d = ds[k] := ⟨_, rfl⟩
    have hix := unhide HIX k d (by rw [List.getElem?_eq_getElem hku, hd]) wr
    have hst : Hid ((ds.take (k + 1)).all dateB = ((ds.take k).all dateB && dateB d)) := by
      show _ = _
      rw [List.take_succ_eq_append_getElem hku, List.all_append, hd]
      simp
    have hal : Hid (dateB d = false → ds.all dateB = false) := by
      intro hf
      rw [← Bool.not_eq_true, List.all_eq_true]
      intro h
      have := h d (by rw [hd]; exact List.getElem_mem hku)
      rw [hf] at this
      cases this
    have hkz : (k : Int) < 10 := by omega
    unfold dval at hix
    obtain ⟨w2, bz, e2, ez, hz, o2, hsz⟩ := boxed wr #[.bool d.1, .int .i64 d.2] 27
    have HO := hide ((unhide ho).trans o2 (fun _ _ e => e))
    have d0 := hz.cell 0 (.bool d.1) rfl
    have d1 := hz.cell 1 (.int .i64 d.2) rfl
    have HD := hide (date_any d w2)
    unfold dval at HD
    clear hz hsz ho o2 hd
    go_upto_region 4 with fail
    rw [← e2, ← ez]
    clear e2 ez hix
    cases hb : dateB d with
    | false =>
      rw [hb] at HD hal
      clear hb hst
      go_wp2_with (refine (unhide HD).mono ?_; rintro e x ⟨rfl, o3⟩)
      go_ret
      exact ⟨by rw [unhide hal (by simp)]; first | done | rfl, (unhide HO).trans o3 (fun _ _ e => e)⟩
    | true =>
      rw [hb] at HD hst
      clear hb hal
      go_wp2_with (refine (unhide HD).mono ?_; rintro e x ⟨rfl, o3⟩)
      go_roundw
      case rel => exact ⟨k + 1, by omega, by go_num, by show _ = _; rw [unhide hst, unhide hall]; rfl, (unhide HO).trans o3 (fun _ _ e => e)⟩
      case measure => simp [intOf]; omega
end
end Ob
end Go.Proofs.YtlcnckmbimmpjaaDoor
