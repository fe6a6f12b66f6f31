/-
  life.calls.
-/
import Derived.Test.YtadpmninoghcjaaDoorLfMake
namespace Go.Proofs.YtadpmninoghcjaaDoor
open Go.RowKit
set_option linter.unusedSimpArgs false
set_option linter.unusedVariables false
namespace Ob
theorem Tryd.sizeCond : (Tryd.prog.info? 83).map (·.size) = some 2 := by kernel_rfl
theorem Tryd.rowCalls : (Tryd.prog.underlying 79).map (fun d => match d with | .struct _ | .array _ _ => true | _ => false) = some true := by kernel_rfl
theorem Tryd.sizeCalls : (Tryd.prog.info? 79).map (·.size) = some 10 := by kernel_rfl
theorem Tryd.rowCond : (Tryd.prog.underlying 83).map (·.isRow) = some true := by kernel_rfl
def fv (n : Nat) : Value := .func (.func n) #[] #[]
def zcalls : List Value := [.slice none 0 0, .nilFunc, .slice none 0 0, .nilFunc, .slice none 0 0, .nilFunc, .slice none 0 0, .nilFunc, .slice none 0 0, .nilFunc]
/-- the table: why not, in order, and what comes of it -/
def cond0 : List Value := [.int .i64 13, .func (.func 42) #[] #[], .int .i64 11, .func (.func 43) #[] #[]]
def cond1 : List Value := [.int .i64 7, .func (.func 45) #[] #[], .int .i64 13, .func (.func 42) #[] #[], .int .i64 11, .func (.func 46) #[] #[]]
def cond2 : List Value := [.int .i64 13, .func (.func 42) #[] #[], .int .i64 11, .func (.func 48) #[] #[]]
def cond3 : List Value := [.int .i64 13, .func (.func 42) #[] #[]]
def cond4 : List Value := [.int .i64 11, .func (.func 51) #[] #[]]
def callsV (b0 b1 b2 b3 b4 : Nat) : List Value := [.slice (some ⟨b0, 0, none⟩) 2 2, .func (.func 44) #[] #[], .slice (some ⟨b1, 0, none⟩) 3 3, .func (.func 47) #[] #[], .slice (some ⟨b2, 0, none⟩) 2 2, .func (.func 49) #[] #[], .slice (some ⟨b3, 0, none⟩) 1 1, .func (.func 50) #[] #[], .slice (some ⟨b4, 0, none⟩) 1 1, .func (.func 52) #[] #[]]
set_option maxRecDepth 100000 in
set_option maxHeartbeats 4000000 in
theorem calls_any (w : World) :
    Calls Tryd.prog 36 #[] w fun e w' => ∃ b0 b1 b2 b3 b4, e = .returned (.agg (callsV b0 b1 b2 b3 b4).toArray) ∧ Bx w' b0 83 cond0 ∧ Bx w' b1 83 cond1 ∧ Bx w' b2 83 cond2 ∧ Bx w' b3 83 cond3 ∧ Bx w' b4 83 cond4 ∧ Only (fun _ => False) w w' := by
  obtain ⟨w1, k1, e1, ek1, hb1, o1, hs1⟩ := boxed w zcalls.toArray 79
  obtain ⟨w2, k2, e2, ek2, hb2, o2, hs2⟩ := boxed w1 #[.int .i64 0, .nilFunc] 83
  have hth : w2.there k2 0 (#[Value.int .i64 13, fv 42] : Array Value).size := bx_there hb2 _ rfl
  have hone : (#[Value.int .i64 13, fv 42] : Array Value).all (·.oneCell') = true := all_oneCell_toArray (cs := [Value.int .i64 13, fv 42]) (by intro u hu; simp only [List.mem_cons, List.not_mem_nil, or_false] at hu; rcases hu with rfl | rfl <;> rfl)
  have hb3 := setCells_bx hb2 [Value.int .i64 13, fv 42] rfl
  have hr3 := hb3.range 0 2
  have HTH := hide hth
  have HONE := hide hone
  have HE1 := hide e1
  have HE2 := hide e2
  have HEK1 := hide ek1
  have HK2 : Hid (k1 + 1 = k2) := by show _ = _; omega
  obtain ⟨dsc, hdu, hdr⟩ := row_desc Tryd.rowCond
  have HBK := hide (hb1.same o2)
  clear hth hone e1 e2 ek1 ek2 hb1 hb2
  obtain ⟨w3, hw3⟩ : ∃ w3, w3 = w2.setCells k2 0 [Value.int .i64 13, fv 42] := ⟨_, rfl⟩
  rw [← hw3] at hb3 hr3
  have HW3 := hide hw3
  clear hw3
  go_enter Tryd.func36, Tryd.ntmps36
  go_upto_region 2 with (first
    | (rw [show List.toArray [Value.slice none 0 0, Value.nilFunc, Value.slice none 0 0, Value.nilFunc, Value.slice none 0 0, Value.nilFunc, Value.slice none 0 0, Value.nilFunc, Value.slice none 0 0, Value.nilFunc] = zcalls.toArray from rfl, ← unhide HE1, ← unhide HEK1, unhide HK2, ← unhide HE2]; refine wpList_store_mid rfl 83 (.tmp 1) (.tmp 2) rfl k2 0 #[.int .i64 13, fv 42] rfl rfl (unhide HTH) Tryd.sizeCond (unhide HONE) ?_))
  rw [← unhide HW3]
  have HR3 : Hid (w3.rangeAt k2 0 [Value.int .i64 13, .func (.func 42) #[] #[]]) := hr3
  have HBK3 : Hid (Bx w3 k1 79 zcalls) := by rw [unhide HW3]; exact (unhide HBK).only (Only.setCells (S := fun j => j = k2) (fun _ => rfl) _ _ _ (Only.refl _ _)) (by show ¬ k1 = k2; have := unhide HK2; omega)
  clear hr3 HBK
  obtain ⟨x0, b0, f0, g0, d0, q0, s0⟩ := boxed w3 #[.int .i64 13, .func (.func 42) #[] #[], .int .i64 11, .func (.func 43) #[] #[]] 83
  obtain ⟨x1, b1, f1, g1, d1, q1, s1⟩ := boxed x0 #[.int .i64 7, .func (.func 45) #[] #[], .int .i64 13, .func (.func 42) #[] #[], .int .i64 11, .func (.func 46) #[] #[]] 83
  obtain ⟨x2, b2, f2, g2, d2, q2, s2⟩ := boxed x1 #[.int .i64 13, .func (.func 42) #[] #[], .int .i64 11, .func (.func 48) #[] #[]] 83
  obtain ⟨x3, b3, f3, g3, d3, q3, s3⟩ := boxed x2 #[.int .i64 13, .func (.func 42) #[] #[]] 83
  obtain ⟨x4, b4, f4, g4, d4, q4, s4⟩ := boxed x3 #[.int .i64 11, .func (.func 51) #[] #[]] 83
  have q34 := q3.trans q4 (fun _ _ e => e)
  have q24 := q2.trans q34 (fun _ _ e => e)
  have q14 := q1.trans q24 (fun _ _ e => e)
  have q04 := q0.trans q14 (fun _ _ e => e)
  have HF0 := hide f0
  have HF1 := hide f1
  have HF2 := hide f2
  have HF3 := hide f3
  have HF4 := hide f4
  obtain rfl : b0 = w3.heap.size := g0
  have HB0 : Hid (Bx x4 w3.heap.size 83 cond0) := d0.same q14
  have HB1 : Hid (Bx x4 (w3.heap.size + 1) 83 cond1) := by have h := d1.same q24; rwa [show b1 = w3.heap.size + 1 by omega] at h
  have HB2 : Hid (Bx x4 (w3.heap.size + 1 + 1) 83 cond2) := by have h := d2.same q34; rwa [show b2 = w3.heap.size + 1 + 1 by omega] at h
  have HB3 : Hid (Bx x4 (w3.heap.size + 1 + 1 + 1) 83 cond3) := by have h := d3.same q4; rwa [show b3 = w3.heap.size + 1 + 1 + 1 by omega] at h
  have HB4 : Hid (Bx x4 (w3.heap.size + 1 + 1 + 1 + 1) 83 cond4) := by have h := d4; rwa [show b4 = w3.heap.size + 1 + 1 + 1 + 1 by omega] at h
  have HK1 := hide ((unhide HBK3).same q04)
  have OW : Hid (Only (fun j => j = k2) w x4) := by
    have h1 : Only (fun j => j = k2) w2 w3 := by rw [unhide HW3]; exact Only.setCells (S := fun j => j = k2) (fun _ => rfl) _ _ _ (Only.refl _ _)
    exact (((o1.trans o2 (fun _ _ e => e)).mono (T := fun j => j = k2) (fun _ _ e => e.elim)).trans h1 (fun _ _ e => e)).trans q04 (fun _ _ e => e.elim)
  have hk1w : w.heap.size ≤ k1 := by have := unhide HEK1; omega
  have hk12 := unhide HK2
  have hcl : True := trivial
  have HTH2 : Hid (x4.there k1 0 (callsV w3.heap.size (w3.heap.size + 1) (w3.heap.size + 1 + 1) (w3.heap.size + 1 + 1 + 1) (w3.heap.size + 1 + 1 + 1 + 1)).toArray.size) := bx_there (unhide HK1) _ (by rw [List.size_toArray]; rfl)
  have HONE2 : Hid ((callsV w3.heap.size (w3.heap.size + 1) (w3.heap.size + 1 + 1) (w3.heap.size + 1 + 1 + 1) (w3.heap.size + 1 + 1 + 1 + 1)).toArray.all (·.oneCell') = true) := all_oneCell_toArray (by intro u hu; unfold callsV at hu; simp only [List.mem_cons, List.not_mem_nil, or_false] at hu; rcases hu with rfl | rfl | rfl | rfl | rfl | rfl | rfl | rfl | rfl | rfl <;> rfl)
  have HFB : Hid (Bx (x4.setCells k1 0 (callsV w3.heap.size (w3.heap.size + 1) (w3.heap.size + 1 + 1) (w3.heap.size + 1 + 1 + 1) (w3.heap.size + 1 + 1 + 1 + 1))) k1 79 (callsV w3.heap.size (w3.heap.size + 1) (w3.heap.size + 1 + 1) (w3.heap.size + 1 + 1 + 1) (w3.heap.size + 1 + 1 + 1 + 1))) := setCells_bx (unhide HK1) _ rfl
  have QF : Hid (Only (fun j => j = k1) x4 (x4.setCells k1 0 (callsV w3.heap.size (w3.heap.size + 1) (w3.heap.size + 1 + 1) (w3.heap.size + 1 + 1 + 1) (w3.heap.size + 1 + 1 + 1 + 1)))) := Only.setCells (S := fun j => j = k1) (fun _ => rfl) _ _ _ (Only.refl _ _)
  have hw3k : k1 < w3.heap.size := (unhide HBK3).lt
  clear d0 d1 d2 d3 d4 q0 q1 q2 q3 q4 q34 q24 q14 q04 f0 f1 f2 f3 f4 g1 g2 g3 g4 s0 s1 s2 s3 s4 o1 o2 hs1 hs2 HTH HONE HE1 HE2 hb3
  go_wp2_with (first
    | (refine wpList_load_mid rfl 83 (.tmp 1) rfl k2 0 rfl [Value.int .i64 13, .func (.func 42) #[] #[]] dsc (rangeAt_only (unhide HR3) (S := fun _ => False) (by repeat (first | exact Only.refl _ _ | refine Only.alloc ?_ _)) (fun e => e)) hdu hdr Tryd.sizeCond ?_)
    | (rw [← unhide HF0, ← unhide HF1, ← unhide HF2, ← unhide HF3, ← unhide HF4]; refine wpList_store_mid rfl 79 (.tmp 0) (.tmp 22) rfl k1 0 (callsV w3.heap.size (w3.heap.size + 1) (w3.heap.size + 1 + 1) (w3.heap.size + 1 + 1 + 1) (w3.heap.size + 1 + 1 + 1 + 1)).toArray rfl rfl (unhide HTH2) (by rw [List.size_toArray]; exact Tryd.sizeCalls) (unhide HONE2) ?_))
  refine bodyPost_ret (results_st rfl _ _ k1 79 (callsV w3.heap.size (w3.heap.size + 1) (w3.heap.size + 1 + 1) (w3.heap.size + 1 + 1 + 1) (w3.heap.size + 1 + 1 + 1 + 1)).toArray (0, 0) rfl (unhide HFB) Tryd.rowCalls (by rw [List.size_toArray]; exact Tryd.sizeCalls)) rfl ?_
  refine ⟨_, _, _, _, _, rfl, (unhide HB0).only (unhide QF) (by omega), (unhide HB1).only (unhide QF) (by omega), (unhide HB2).only (unhide QF) (by omega), (unhide HB3).only (unhide QF) (by omega), (unhide HB4).only (unhide QF) (by omega), ?_⟩
  exact ((unhide OW).mono (T := fun _ => False) (fun j hj e => by omega)).trans (unhide QF) (fun j hj e => by omega)
end Ob
end Go.Proofs.YtadpmninoghcjaaDoor
