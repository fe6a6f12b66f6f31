/-
  locksmithlaw11.known.
-/
import Derived.Test.YtadpmninoghcjaaDoorLfMove
import Derived.Test.YtadpmninoghcjaaDoorObGrd
namespace Go.Proofs.YtadpmninoghcjaaDoor
open Go.RowKit
set_option linter.unusedSimpArgs false
set_option linter.unusedVariables false
namespace Ob

theorem field_cell (t f off : Nat) (ft : TypeId) (cs : List Value) (v : Value) (w : World) (hf : (Tryd.prog.underlying t).map (fun d => match d with | .struct fs => fs[f]?.map (fun x => (x.type, x.offset)) | _ => none) = some (some (ft, off))) (ha : (isAgg ft).run Tryd.prog w = .ok false w) (hv : cs[off]? = some v) :
    (Instr.field t (.agg cs.toArray) f).run Tryd.prog w = .ok v w := by
  cases hd : Tryd.prog.underlying t with
  | none => rw [hd] at hf; cases hf
  | some d =>
    rw [hd] at hf
    cases d <;> simp only [Option.map_some, Option.some.injEq, reduceCtorEq] at hf
    rename_i fs
    cases hx : fs[f]? with
    | none => rw [hx] at hf; cases hf
    | some x =>
      rw [hx] at hf
      simp only [Option.map_some, Option.some.injEq, Prod.mk.injEq] at hf
      have hp : (Go.part ft cs.toArray off).run Tryd.prog w = .ok v w := by
        have hv' : cs.toArray[off]? = some v := by simpa using hv
        unfold Go.part
        simp only [Sem.run_bind, ha, Result.andThen_ok]
        simp [hv']
      unfold Instr.field
      simp only [Sem.run_bind, run_underlying hd w, Result.andThen_ok, hx, asAgg, Sem.run_pure, hf.1, hf.2]
      exact hp
theorem field_state (cs : List Value) (n : Int) (h : cs[6]? = some (.int .i64 n)) (w : World) : (Instr.field 32 (.agg cs.toArray) 6).run Tryd.prog w = .ok (.int .i64 n) w :=
  field_cell 32 6 6 3 cs _ w (by kernel_rfl) (by unfold isAgg; rw [Sem.run_bind, run_underlying Tryd.underlying3 w]; rfl) h
/-- the example's object -/
def lk0 : Ob := { zero with id := [49], typ := 2, state := 1 }
def lk1 : Ob := { lk0 with dates := lk0.dates.set 1 (true, 5) }
def lk2 : Ob := { lk1 with dates := lk1.dates.set 4 (true, 7) }
theorem lk2_due : due lk2 9 = [2, 3] := by decide
theorem lk2_small : Small lk2 := ⟨by decide, by decide, by decide, by decide⟩
theorem in_lk2 (w : World) : In w lk2 (.slice none 0 0) (.slice none 0 0) (.slice none 0 0) (.slice none 0 0) := by
  have z : W64 0 := ⟨by decide, by decide⟩
  refine ⟨Or.inl ⟨rfl, rfl⟩, hasF_nil _ _ _, hasF_nil _ _ _, hasF_nil _ _ _, rfl, ⟨⟨by decide, by decide⟩, z, z, z, ⟨by decide, by decide⟩, z, z, z, z⟩, fun d hd => ?_, (fun k hk => by cases hk), ⟨by show 1 ≤ maxLen; unfold maxLen; omega, Nat.zero_le _, (fun s hs => by cases hs), (fun s hs => by cases hs), (fun s hs => by cases hs)⟩⟩
  have : d = (false, 0) ∨ d = (true, 5) ∨ d = (true, 7) := by
    have h : d ∈ ([(false, 0), (true, 5), (false, 0), (false, 0), (true, 7), (false, 0), (false, 0), (false, 0), (false, 0), (false, 0)] : List (Bool × Int)) := hd
    simp only [List.mem_cons, List.not_mem_nil, or_false] at h
    rcases h with h | h | h | h | h | h | h | h | h | h <;> simp [h]
  rcases this with rfl | rfl | rfl <;> exact ⟨by decide, by decide⟩
theorem lk0_agg : (Value.agg (cells lk0 (.slice none 0 0) (.slice none 0 0) (.slice none 0 0) (.slice none 0 0)).toArray) = Value.agg (List.toArray (Value.string ⟨#[49]⟩ :: Value.int IntKind.i64 2 :: Value.int IntKind.i64 0 :: Value.int IntKind.i64 0 :: Value.int IntKind.i64 0 :: Value.slice none 0 0 :: Value.int IntKind.i64 1 :: Value.bool false :: Value.int IntKind.i64 0 :: Value.bool false :: Value.int IntKind.i64 0 :: Value.bool false :: Value.int IntKind.i64 0 :: Value.bool false :: Value.int IntKind.i64 0 :: Value.bool false :: Value.int IntKind.i64 0 :: Value.bool false :: Value.int IntKind.i64 0 :: Value.bool false :: Value.int IntKind.i64 0 :: Value.bool false :: Value.int IntKind.i64 0 :: Value.bool false :: Value.int IntKind.i64 0 :: Value.bool false :: Value.int IntKind.i64 0 :: Value.int IntKind.i64 0 :: Value.string ⟨#[]⟩ :: Value.slice none 0 0 :: Value.slice none 0 0 :: Value.slice none 0 0 :: Value.bool false :: Value.int IntKind.i64 0 :: Value.int IntKind.i64 0 :: Value.int IntKind.i64 0 :: Value.bool false :: [])) := rfl
set_option maxRecDepth 100000 in
theorem date_any (t : Int) (w : World) :
    Calls Tryd.prog 7 #[.int .i64 t] w fun e w' => e = .returned (.agg #[.bool true, .int .i64 t]) ∧ Only (fun _ => False) w w' := by
  go_enter Tryd.func7, Tryd.ntmps7
  go_wp2
  refine bodyPost_ret (results_st rfl _ _ w.heap.size 24 _ (0, 0) rfl (Bx.new w 24 [.bool true, .int .i64 t]) Tryd.rowOn Tryd.sizeOn) rfl ?_
  exact ⟨rfl, (Only.refl _ w).alloc _⟩

set_option maxRecDepth 100000 in
set_option maxHeartbeats 4000000 in
theorem known_any (w : World) :
    Calls Tryd.prog 14 #[] w fun e w' => e = .returned (.bool true) ∧ Only (fun _ => False) w w' := by
  obtain ⟨A, hA⟩ : ∃ A, A = cells lk0 (.slice none 0 0) (.slice none 0 0) (.slice none 0 0) (.slice none 0 0) := ⟨_, rfl⟩
  have hoc : A.length = 37 := by rw [hA]; rfl
  obtain ⟨w2, k2, e2, ek2, hb2, o2, ht2⟩ := made37 w A hoc
  have hone : A.toArray.all (·.oneCell') = true := by
    apply all_oneCell_toArray
    rw [hA]
    exact cells_one _ _ _ _ _ rfl rfl rfl rfl
  have O2 := hide o2
  have HAG := lk0_agg
  rw [← hA] at HAG
  have HONE := hide hone
  have HT2 := hide ht2
  have HSZ : Hid ((Tryd.prog.info? 32).map (·.size) = some A.toArray.size) := by show _ = _; rw [List.size_toArray, hoc]; exact Tryd.sizeObj
  have HB2 : Hid (Bx w2 k2 32 (cells lk0 (.slice none 0 0) (.slice none 0 0) (.slice none 0 0) (.slice none 0 0))) := by rw [← hA]; exact hb2
  have HKN : Hid (w.heap.size ≤ k2) := by show _ ≤ _; omega
  have HKE2 := hide e2
  have HKEK2 := hide ek2
  have HAGH := hide HAG
  clear hA hoc hb2 o2 ht2 hone e2 ek2 HAG
  go_enter Tryd.func14, Tryd.ntmps14
  go_upto_region 2 with (first
    | (rw [← unhide HAGH]; refine wpList_store_mid rfl 32 (.tmp 1) (.tmp 3) rfl w.heap.size 0 A.toArray rfl rfl (unhide HT2) (unhide HSZ) (unhide HONE) ?_))
  rw [zo_eq, ← unhide HKE2, ← unhide HKEK2]
  clear HKE2 HKEK2 HAGH HT2 HSZ HONE
  have HD2 := hide (date_any 5 w2)
  go_wp2_with fail
  refine (unhide HD2).mono ?_
  rintro e y2 ⟨rfl, oy⟩
  have HBy := (unhide HB2).same oy
  have ca := HBy.cell 9 (.bool false) rfl
  have cb := HBy.cell 10 (.int .i64 0) rfl
  have fy := HBy.free
  have HBz : Hid (Bx ((y2.setCell ⟨k2, 9, none⟩ (.bool true)).setCell ⟨k2, 10, none⟩ (.int .i64 5)) k2 32 (cells lk1 (.slice none 0 0) (.slice none 0 0) (.slice none 0 0) (.slice none 0 0))) := by
    have h := setCells_blk [.bool true, .int .i64 5] y2 9 _ HBy
    rw [set_date lk0 _ _ _ _ rfl 1 (by decide) true 5] at h
    exact h
  have OZ : Hid (Only (fun _ => False) w ((y2.setCell ⟨k2, 9, none⟩ (.bool true)).setCell ⟨k2, 10, none⟩ (.int .i64 5))) := by
    have hq : Only (fun j => j = k2) y2 ((y2.setCell ⟨k2, 9, none⟩ (.bool true)).setCell ⟨k2, 10, none⟩ (.int .i64 5)) := ((Only.refl _ _).here _ _).here _ _
    exact ((unhide O2).trans oy (fun _ _ e => e)).trans hq (fun j hj e => by have := unhide HKN; omega)
  clear HD2 oy HBy
  go_upto_region 3 with fail
  generalize ((y2.setCell ⟨k2, 9, none⟩ (.bool true)).setCell ⟨k2, 10, none⟩ (.int .i64 5)) = w3 at *
  clear ca cb fy HB2 O2
  have HB3 := HBz
  have O3 := OZ
  clear HBz OZ
  have HD3 := hide (date_any 7 w3)
  go_wp2_with fail
  refine (unhide HD3).mono ?_
  rintro e y3 ⟨rfl, oy⟩
  have HBy := (unhide HB3).same oy
  have ca := HBy.cell 15 (.bool false) rfl
  have cb := HBy.cell 16 (.int .i64 0) rfl
  have fy := HBy.free
  have HBz : Hid (Bx ((y3.setCell ⟨k2, 15, none⟩ (.bool true)).setCell ⟨k2, 16, none⟩ (.int .i64 7)) k2 32 (cells lk2 (.slice none 0 0) (.slice none 0 0) (.slice none 0 0) (.slice none 0 0))) := by
    have h := setCells_blk [.bool true, .int .i64 7] y3 15 _ HBy
    rw [set_date lk1 _ _ _ _ rfl 4 (by decide) true 7] at h
    exact h
  have OZ : Hid (Only (fun _ => False) w ((y3.setCell ⟨k2, 15, none⟩ (.bool true)).setCell ⟨k2, 16, none⟩ (.int .i64 7))) := by
    have hq : Only (fun j => j = k2) y3 ((y3.setCell ⟨k2, 15, none⟩ (.bool true)).setCell ⟨k2, 16, none⟩ (.int .i64 7)) := ((Only.refl _ _).here _ _).here _ _
    exact ((unhide O3).trans oy (fun _ _ e => e)).trans hq (fun j hj e => by have := unhide HKN; omega)
  clear HD3 oy HBy
  go_upto_region 4 with fail
  generalize ((y3.setCell ⟨k2, 15, none⟩ (.bool true)).setCell ⟨k2, 16, none⟩ (.int .i64 7)) = w4 at *
  clear ca cb fy HB3 O3
  have HB4 := HBz
  have O4 := OZ
  clear HBz OZ
  obtain ⟨B, hB⟩ : ∃ B, B = cells lk2 (.slice none 0 0) (.slice none 0 0) (.slice none 0 0) (.slice none 0 0) := ⟨_, rfl⟩
  have hln : B.length = 37 := by rw [hB]; rfl
  rw [← hB] at HB4
  have HDU := hide (due_any lk2 (.slice none 0 0) (.slice none 0 0) (.slice none 0 0) (.slice none 0 0) 9 w4 rfl)
  unfold val at HDU
  rw [← hB, lk2_due] at HDU
  obtain ⟨dsc, hdu, hdr⟩ := row_desc Tryd.rowObj
  have HSZ : Hid ((Tryd.prog.info? 32).map (·.size) = some B.length) := by show _ = _; rw [hln]; exact Tryd.sizeObj
  have hr4 := (unhide HB4).range 0 37
  rw [List.drop_zero, List.take_of_length_le (by omega)] at hr4
  have HBB := hide hB
  have HLN := hide hln
  clear hB hln
  go_wp2_with (refine wpList_load_mid rfl 32 (.tmp 1) rfl k2 0 rfl B dsc hr4 hdu hdr (unhide HSZ) ?_)
  refine (unhide HDU).mono ?_
  rintro e w5 ⟨v, rfl, hown, o5⟩
  have O5 := hide ((unhide O4).trans o5 (fun _ _ e => e))
  have HB5 := hide ((unhide HB4).same o5)
  have hF : HasF w5 v 1 icells [2, 3] := hasF_own hown (fun _ _ => rfl) rfl
  obtain ⟨vo, vc, rfl⟩ := ownsRow_shape hown
  obtain ⟨vb, vof, hva, hvb, hat⟩ := HasF.at (n := 2) hF (by decide)
  subst hva
  have c0 := hat 0 2 rfl 0 _ rfl
  have c1 := hat 1 3 rfl 0 _ rfl
  rw [Nat.add_zero] at c0
  rw [Nat.add_zero] at c1
  have C0 := hide c0
  have C1 := hide c1
  have HE1 := hide (edge_any 2 5 w5)
  have HE2 := hide (edge_any 2 4 w5)
  rw [show edgeB 2 5 = false from rfl] at HE1
  rw [show edgeB 2 4 = true from rfl] at HE2
  have HMV := hide (move_any lk2 (.slice none 0 0) (.slice none 0 0) (.slice none 0 0) (.slice none 0 0) 9 w5 (in_lk2 w5) lk2_small ⟨by decide, by decide⟩)
  rw [show val lk2 (.slice none 0 0) (.slice none 0 0) (.slice none 0 0) (.slice none 0 0) = .agg B.toArray from by rw [unhide HBB]; rfl] at HMV
  have hr5 := (unhide HB5).range 0 37
  rw [List.drop_zero, List.take_of_length_le (by rw [unhide HLN]; omega)] at hr5
  clear hr4 HDU hown o5 hF hat hvb c0 c1
  simp only [List.length_cons, List.length_nil]
  go_wp2_with fail
  refine (unhide HE1).mono ?_
  rintro e x ⟨rfl, hx⟩
  rw [hx]
  clear hx x
  go_wp2_with fail
  refine (unhide HE2).mono ?_
  rintro e x ⟨rfl, hx⟩
  rw [hx]
  clear hx x
  go_wp2_with (refine wpList_load_g (by rfl) 32 (.tmp 1) rfl k2 0 rfl B dsc hr5 hdu hdr (unhide HSZ) ?_)
  refine (unhide HMV).mono ?_
  rintro e x6 ⟨mv, nv, lv, cv, rfl, hin, hfr, o6⟩
  unfold val
  have d6 : (cells (move lk2 9) mv nv lv cv)[6]? = some (.int .i64 3) := rfl
  obtain ⟨B2, hB2⟩ : ∃ B2, B2 = cells (move lk2 9) mv nv lv cv := ⟨_, rfl⟩
  rw [← hB2] at d6 ⊢
  have d0 := o6.cell (unhide C0) (fun e => e)
  have d1 := o6.cell (unhide C1) (fun e => e)
  have O6 := hide ((unhide O5).trans o6 (fun _ _ e => e))
  clear o6 hin hfr hB2 HE1 HE2 HMV C0 C1 hr5
  have hfs := field_state B2 3 d6
  clear d6
  go_wp2
  go_ret
  exact ⟨rfl, unhide O6⟩
end Ob
end Go.Proofs.YtadpmninoghcjaaDoor
