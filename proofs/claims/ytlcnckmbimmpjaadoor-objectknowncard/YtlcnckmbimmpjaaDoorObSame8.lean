/-
  object.Same: ways of it.
-/
import Derived.Test.YtlcnckmbimmpjaaDoorObSa
namespace Go.Proofs.YtlcnckmbimmpjaaDoor
open Go.RowKit
set_option linter.unusedSimpArgs false
set_option linter.unusedVariables false
namespace Ob

set_option maxRecDepth 100000 in
set_option maxHeartbeats 4000000 in
theorem same_8 {a b : Ob} {amv anv alv acv bmv bnv blv bcv : Value} {w : World} (ha : In w a amv anv alv acv) (hb : In w b bmv bnv blv bcv)
    (e0 : a.id = b.id) (e1 : a.typ = b.typ) (e2 : a.alg = b.alg) (e3 : a.len = b.len) (e4 : a.mask = b.mask) (e5 : a.mat = b.mat) (e6 : a.state = b.state) (e7 : a.dates = b.dates) (e8 : ¬ a.reason = b.reason) :
    Calls Tryd.prog 17 #[val a amv anv alv acv, val b bmv bnv blv bcv] w fun e w' => e = .returned (.bool false) ∧ Only (fun _ => False) w w' := by
  unfold val
  obtain ⟨A, hA⟩ : ∃ A, A = (cells a amv anv alv acv).toArray := ⟨_, rfl⟩
  obtain ⟨B, hB⟩ : ∃ A, A = (cells b bmv bnv blv bcv).toArray := ⟨_, rfl⟩
  rw [← hA, ← hB]
  obtain ⟨w1, k1, ew1, ek1, hb1, o1, hs1⟩ := boxed w A 35
  obtain ⟨w2, k2, ew2, ek2, hb2, o2, hs2⟩ := boxed w1 B 35
  have hb1 := hb1.same o2
  have O2 := hide (o1.trans o2 (fun _ _ e => e))
  have HE2 := hide ew2
  have HEK2 : Hid (k2 = k1 + 1) := by show _ = _; omega
  have a0 := at_front hA hb1 0 (by decide) _ rfl
  have b0 := at_front hB hb2 0 (by decide) _ rfl
  have a1 := at_front hA hb1 1 (by decide) _ rfl
  have b1 := at_front hB hb2 1 (by decide) _ rfl
  have a2 := at_front hA hb1 2 (by decide) _ rfl
  have b2 := at_front hB hb2 2 (by decide) _ rfl
  have a3 := at_front hA hb1 3 (by decide) _ rfl
  have b3 := at_front hB hb2 3 (by decide) _ rfl
  have a4 := at_front hA hb1 4 (by decide) _ rfl
  have b4 := at_front hB hb2 4 (by decide) _ rfl
  have a5 := at_front hA hb1 5 (by decide) _ rfl
  have b5 := at_front hB hb2 5 (by decide) _ rfl
  have a6 := at_front hA hb1 6 (by decide) _ rfl
  have b6 := at_front hB hb2 6 (by decide) _ rfl
  have a27 := at_back hA hb1 ha.ten 0 _ rfl
  have b27 := at_back hB hb2 hb.ten 0 _ rfl
  have hra := hb1.range 7 20
  rw [hA, cells_dates a amv anv alv acv ha.ten] at hra
  have hrb := hb2.range 7 20
  rw [hB, cells_dates b bmv bnv blv bcv hb.ten] at hrb
  have EQD := hide (fun W => eql_dates a.dates b.dates ha.ten hb.ten W)
  obtain ⟨dsc, hdu, hdr⟩ : ∃ d, Tryd.prog.underlying 28 = some d ∧ d.isRow = true := ⟨_, Tryd.underDates, rfl⟩
  have HSA : Hid ((Tryd.prog.info? 28).map (·.size) = some (a.dates.flatMap dcells).length) := by show _ = _; rw [Tryd.sizeDates, dcells_len, ha.ten]
  have HSB : Hid ((Tryd.prog.info? 28).map (·.size) = some (b.dates.flatMap dcells).length) := by show _ = _; rw [Tryd.sizeDates, dcells_len, hb.ten]
  have HGD : Hid (∀ (x y : Operand) (xs ys : Array Value) (W : World), (eqGuard .eql 28 x y (.agg xs) (.agg ys)).run Tryd.prog W = .ok () W) := fun x y xs ys W => run_eqGuard_agg W _ _ _ _ _ _ (by kernel_rfl)
  have HDU := hide hdu
  clear hdu
  have s0 := str_beq a.id b.id
  rw [decide_eq_true e0] at s0
  have i1 := int_beq a.typ b.typ
  rw [decide_eq_true e1] at i1
  have i2 := int_beq a.alg b.alg
  rw [decide_eq_true e2] at i2
  have i3 := int_beq a.len b.len
  rw [decide_eq_true e3] at i3
  have i4 := int_beq a.mask b.mask
  rw [decide_eq_true e4] at i4
  have HM := hide (bequal_any amv bmv a.mat b.mat w2 ((ha.same (unhide O2)).mat) ((hb.same (unhide O2)).mat))
  rw [decide_eq_true e5] at HM
  have i6 := int_beq a.state b.state
  rw [decide_eq_true e6] at i6
  have EQD2 : Hid (∀ W, (binOp .eql 28 (.agg (a.dates.flatMap dcells).toArray) (.agg (b.dates.flatMap dcells).toArray)).run Tryd.prog W = .ok (.bool true) W) := fun W => by have := unhide EQD W; rw [decide_eq_true e7] at this; exact this
  clear EQD
  have i8 := int_beq a.reason b.reason
  rw [decide_eq_false e8] at i8
  obtain ⟨_, _, qa5, _⟩ := ha.mat.shape
  obtain ⟨_, _, qb5, _⟩ := hb.mat.shape
  subst qa5 qb5
  clear ha hb hA hB hb1 hb2 o1 o2 hs1 hs2 ew2 ek2 e0 e1 e2 e3 e4 e5 e6 e7 e8
  obtain ⟨DA, hDA⟩ : ∃ D, D = a.dates.flatMap dcells := ⟨_, rfl⟩
  obtain ⟨DB, hDB⟩ : ∃ D, D = b.dates.flatMap dcells := ⟨_, rfl⟩
  rw [← hDA] at hra HSA EQD2
  rw [← hDB] at hrb HSB EQD2
  clear hDA hDB
  have HRA := hide hra
  have HRB := hide hrb
  clear hra hrb
  generalize str a.id = S0a at *
  generalize str b.id = S0b at *
  generalize a.typ = ja_typ at *
  generalize b.typ = jb_typ at *
  generalize a.alg = ja_alg at *
  generalize b.alg = jb_alg at *
  generalize a.len = ja_len at *
  generalize b.len = jb_len at *
  generalize a.mask = ja_mask at *
  generalize b.mask = jb_mask at *
  generalize a.mat.length = na_mat at *
  generalize b.mat.length = nb_mat at *
  generalize a.state = ja_state at *
  generalize b.state = jb_state at *
  generalize a.reason = ja_reason at *
  generalize b.reason = jb_reason at *
  go_enter Tryd.func17, Tryd.ntmps17
  go_upto_region 1 with fail
  rw [← ew1, ← ek1, ← unhide HE2, ← unhide HEK2]
  clear ew1 ek1 HE2 HEK2
  simp only [List.append_eq, List.append_assoc, List.cons_append, List.nil_append]
  go_wp2_with (first
    | fail
    | (refine (unhide HM).mono ?_; rintro e x ⟨rfl, hx⟩; rw [hx]; clear hx x)
    | (refine wpList_load_g (by rfl) 28 (.tmp 53) rfl k1 7 rfl DA dsc (unhide HRA) (unhide HDU) hdr (unhide HSA) ?_)
    | (refine wpList_load_g (by rfl) 28 (.tmp 55) rfl k2 7 rfl DB dsc (unhide HRB) (unhide HDU) hdr (unhide HSB) ?_)
    | (refine wpList_eql_g (by rfl) 28 28 (.tmp 54) (.tmp 56) rfl _ _ _ rfl rfl (unhide EQD2 _) (unhide HGD _ _ _ _ _) ?_))
  go_ret
  exact ⟨rfl, unhide O2⟩
end Ob
end Go.Proofs.YtlcnckmbimmpjaaDoor
