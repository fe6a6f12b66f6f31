/-
  Which items are right, their kids apart: the program's fits.
-/
import Derived.Test.YtedmfjnmclbkpaaDoorTtTag
import Derived.Test.YtedmfjnmclbkpaaDoorU8vb
import Derived.Deep.RegionHeldLaw
namespace Go.Proofs.YtedmfjnmclbkpaaDoor
open Go.RowKit
set_option linter.unusedSimpArgs false
set_option linter.unusedVariables false
namespace Tt

set_option maxHeartbeats 1000000 in
theorem isText_any (t y n : Int) (da : Option Addr) (d : List UInt8) (dc : Nat) (ka : Option Addr) (kl kc : Nat) (w : World) (hx : Has w (.slice da d.length dc) d) (hT : Tabs w) : Calls Tryd.prog 84 #[iv t y n da d.length dc ka kl kc] w fun e w' => e = .returned (.bool ((decide (n = 0) && decide (kl = 0)) && Lib.validD d)) ∧ Only (fun _ => False) w w' := by
  obtain ⟨⟨c0, c1, c2, c3, c4⟩, oA⟩ := boxed w (.int .i64 t) (.int .i64 y) (.int .i64 n) (.slice da d.length dc) (.slice ka kl kc)
  have HC := hide (fun W => onlyData_any t y n da d.length dc ka kl kc W)
  have HV := hide (fun W (o : Only (fun _ => False) w W) => validB_any (.slice da d.length dc) d W (hx.only o (fun _ _ _ e => e)) (hT.same o))
  have HO := hide oA
  clear oA hx hT
  unfold iv at HC ⊢
  generalize d.length = dl at *
  generalize (decide (n = 0) && decide (kl = 0)) = B at *
  generalize Lib.validD d = V at *
  go_enter Tryd.func84, Tryd.ntmps84
  go_wp2_with fail
  refine (unhide HC _).mono ?_
  rintro e w2 ⟨rfl, o2⟩
  have HO2 := hide ((unhide HO).trans o2 (fun _ _ e => e))
  have d3 := o2.cell c3 (fun e => e)
  clear c0 c1 c2 c3 c4 o2 HC HO
  cases B with
  | false =>
    go_wp2
    go_ret
    exact ⟨by rw [Bool.false_and]; rfl, unhide HO2⟩
  | true =>
    go_wp2_with fail
    refine (unhide HV _ (unhide HO2)).mono ?_
    rintro e w3 ⟨rfl, o3⟩
    have HO3 := hide ((unhide HO2).trans o3 (fun _ _ e => e))
    clear o3 HV
    go_wp2
    go_ret
    exact ⟨rfl, unhide HO3⟩

set_option maxHeartbeats 1000000 in
theorem fits_1 (t n : Int) (da : Option Addr) (dl dc : Nat) (ka : Option Addr) (kl kc : Nat) (B : Bool) (w : World) (ht : tagB t = true)
    (HC : Hid (∀ W, Only (fun _ => False) w W → Calls Tryd.prog 89 #[iv t 1 n da dl dc ka kl kc] W fun e w' => e = .returned (.bool B) ∧ Only (fun _ => False) W w')) :
    Calls Tryd.prog 67 #[iv t 1 n da dl dc ka kl kc] w fun e w' => e = .returned (.bool B) ∧ Only (fun _ => False) w w' := by
  obtain ⟨⟨c0, c1, c2, c3, c4⟩, oA⟩ := boxed w (.int .i64 t) (.int .i64 1) (.int .i64 n) (.slice da dl dc) (.slice ka kl kc)
  have HT := hide (fun W => isTag_any t W)
  have HY := hide (fun W => isType_any 1 W)
  rw [ht] at HT
  rw [show typB 1 = true by decide] at HY
  clear ht
  unfold iv at HC ⊢
  generalize hw1 : w.alloc (.cells #[.int .i64 t, .int .i64 1, .int .i64 n, .slice da dl dc, .slice ka kl kc] 25) = w1 at *
  have hsz : w1.heap.size = w.heap.size + 1 := by rw [← hw1]; simp
  have oR : Only (fun _ => False) w1 (w1.alloc (.cells #[Value.nilFunc, Value.func (Fn.func 89) #[] #[], Value.func (Fn.func 90) #[] #[], Value.func (Fn.func 91) #[] #[], Value.func (Fn.func 82) #[] #[], Value.func (Fn.func 92) #[] #[], Value.func (Fn.func 83) #[] #[], Value.func (Fn.func 84) #[] #[], Value.func (Fn.func 93) #[] #[], Value.func (Fn.func 91) #[] #[], Value.func (Fn.func 92) #[] #[]] 36)) := (Only.refl _ _).alloc _
  have hR : (w1.alloc (.cells #[Value.nilFunc, Value.func (Fn.func 89) #[] #[], Value.func (Fn.func 90) #[] #[], Value.func (Fn.func 91) #[] #[], Value.func (Fn.func 82) #[] #[], Value.func (Fn.func 92) #[] #[], Value.func (Fn.func 83) #[] #[], Value.func (Fn.func 84) #[] #[], Value.func (Fn.func 93) #[] #[], Value.func (Fn.func 91) #[] #[], Value.func (Fn.func 92) #[] #[]] 36)).cell? ⟨w.heap.size + 1, 1, none⟩ = some (Value.func (Fn.func 89) #[] #[]) := by
    have hb := heap_alloc_new w1 (.cells #[Value.nilFunc, Value.func (Fn.func 89) #[] #[], Value.func (Fn.func 90) #[] #[], Value.func (Fn.func 91) #[] #[], Value.func (Fn.func 82) #[] #[], Value.func (Fn.func 92) #[] #[], Value.func (Fn.func 83) #[] #[], Value.func (Fn.func 84) #[] #[], Value.func (Fn.func 93) #[] #[], Value.func (Fn.func 91) #[] #[], Value.func (Fn.func 92) #[] #[]] 36)
    rw [hsz] at hb
    simp [World.cell?, hb]
  subst hw1
  have d0 := oR.cell c0 (fun e => e)
  have d1 := oR.cell c1 (fun e => e)
  have d2 := oR.cell c2 (fun e => e)
  have d3 := oR.cell c3 (fun e => e)
  have d4 := oR.cell c4 (fun e => e)
  have HO := hide (oA.trans oR (fun _ _ e => e))
  clear oA oR hsz
  go_enter Tryd.func67, Tryd.ntmps67
  go_wp2_with fail
  refine (unhide HT _).mono ?_
  rintro e w1 ⟨rfl, rfl⟩
  go_wp2_with fail
  refine (unhide HY _).mono ?_
  rintro e w1 ⟨rfl, rfl⟩
  go_wp2_with fail
  clear c0 c1 c2 c3 c4 HT HY
  generalize (w.alloc (.cells #[.int .i64 t, .int .i64 1, .int .i64 n, .slice da dl dc, .slice ka kl kc] 25)).alloc (.cells #[Value.nilFunc, Value.func (Fn.func 89) #[] #[], Value.func (Fn.func 90) #[] #[], Value.func (Fn.func 91) #[] #[], Value.func (Fn.func 82) #[] #[], Value.func (Fn.func 92) #[] #[], Value.func (Fn.func 83) #[] #[], Value.func (Fn.func 84) #[] #[], Value.func (Fn.func 93) #[] #[], Value.func (Fn.func 91) #[] #[], Value.func (Fn.func 92) #[] #[]] 36) = wr at *
  refine wp_region_held_drew (S := (fun w' => (w'.cell? ⟨w.heap.size, 0, none⟩ = some (.int .i64 t) ∧ w'.cell? ⟨w.heap.size, 1, none⟩ = some (.int .i64 1) ∧ w'.cell? ⟨w.heap.size, 2, none⟩ = some (.int .i64 n) ∧ w'.cell? ⟨w.heap.size, 3, none⟩ = some (.slice da dl dc) ∧ w'.cell? ⟨w.heap.size, 4, none⟩ = some (.slice ka kl kc)) ∧ w'.cell? ⟨w.heap.size + 1, 1, none⟩ = some (Value.func (Fn.func 89) #[] #[]))) (by kernel_rfl) (⟨⟨d0, d1, d2, d3, d4⟩, hR⟩) (fun hHeld => ?_)
  refine wpAnyH_take (i := 0) (v := ?v1) rfl (by kernel_rfl) (by kernel_rfl) (by kernel_rfl) (fun _ _ _ h => h) (Or.inl ⟨by rfl, ?hy1⟩) (by assumption) ?rest1
  case hy1 =>
    intro w hSw
    go_simp
    try with_reducible rfl
  try simp only [Act.put, List.setIfInBounds_toArray, List.set_cons_zero, List.set_cons_succ, List.getElem_toArray, List.getElem_cons_succ, List.getElem_cons_zero]
  refine wpAnyH_take (i := 1) (v := ?v2) rfl (by kernel_rfl) (by kernel_rfl) (by kernel_rfl) (fun _ _ _ h => h) (Or.inl ⟨by rfl, ?hy2⟩) (by assumption) ?rest2
  case hy2 =>
    intro w hSw
    go_simp
    try with_reducible rfl
  try simp only [Act.put, List.setIfInBounds_toArray, List.set_cons_zero, List.set_cons_succ, List.getElem_toArray, List.getElem_cons_succ, List.getElem_cons_zero]
  refine wpAnyH_take (i := 2) (v := ?v3) rfl (by kernel_rfl) (by kernel_rfl) (by kernel_rfl) (fun _ _ _ h => h) (Or.inl ⟨by rfl, ?hy3⟩) (by assumption) ?rest3
  case hy3 =>
    intro w hSw
    (obtain ⟨⟨q0, q1, q2, q3, q4⟩, q5⟩ := hSw; go_simp; try with_reducible rfl)
  try simp only [Act.put, List.setIfInBounds_toArray, List.set_cons_zero, List.set_cons_succ, List.getElem_toArray, List.getElem_cons_succ, List.getElem_cons_zero]
  refine wpAnyH_take (i := 3) (v := ?v4) rfl (by kernel_rfl) (by kernel_rfl) (by kernel_rfl) (fun _ _ _ h => h) (Or.inl ⟨by rfl, ?hy4⟩) (by assumption) ?rest4
  case hy4 =>
    intro w hSw
    go_simp
    try with_reducible rfl
  try simp only [Act.put, List.setIfInBounds_toArray, List.set_cons_zero, List.set_cons_succ, List.getElem_toArray, List.getElem_cons_succ, List.getElem_cons_zero]
  refine wpAnyH_take (i := 4) (v := ?v5) rfl (by kernel_rfl) (by kernel_rfl) (by kernel_rfl) (fun _ _ _ h => h) (Or.inl ⟨by rfl, ?hy5⟩) (by assumption) ?rest5
  case hy5 =>
    intro w hSw
    (obtain ⟨⟨q0, q1, q2, q3, q4⟩, q5⟩ := hSw; go_simp; try with_reducible rfl)
  try simp only [Act.put, List.setIfInBounds_toArray, List.set_cons_zero, List.set_cons_succ, List.getElem_toArray, List.getElem_cons_succ, List.getElem_cons_zero]
  refine wpAnyH_take (i := 5) (v := ?v6) rfl (by kernel_rfl) (by kernel_rfl) (by kernel_rfl) (fun _ _ _ h => h) (Or.inl ⟨by rfl, ?hy6⟩) (by assumption) ?rest6
  case hy6 =>
    intro w hSw
    (obtain ⟨⟨q0, q1, q2, q3, q4⟩, q5⟩ := hSw; go_simp; try with_reducible rfl)
  try simp only [Act.put, List.setIfInBounds_toArray, List.set_cons_zero, List.set_cons_succ, List.getElem_toArray, List.getElem_cons_succ, List.getElem_cons_zero]
  refine wpAnyH_ready (rs := [6]) (by kernel_rfl) (by simp) ?_
  refine AllReadyH.cons rfl (fun K hK => ?_) AllReadyH.nil
  go_simp
  go_wp2_with fail; refine (unhide HC _ ((unhide HO).drew)).mono ?_; rintro e w3 ⟨rfl, o3d⟩; have o3 : Only (fun _ => False) wr w3 := ((Only.refl _ _).drew).trans o3d (fun _ _ e => e)
  refine hK.out _ _ (⟨⟨o3.cell d0 (fun e => e), o3.cell d1 (fun e => e), o3.cell d2 (fun e => e), o3.cell d3 (fun e => e), o3.cell d4 (fun e => e)⟩, o3.cell hR (fun e => e)⟩) (fun hHeld => ?_)
  clear hK K
  try simp only [Act.put, List.setIfInBounds_toArray, List.set_cons_zero, List.set_cons_succ, List.getElem_toArray, List.getElem_cons_succ, List.getElem_cons_zero]
  refine wpAnyH_take (i := 7) (v := ?v7) rfl (by kernel_rfl) (by kernel_rfl) (by kernel_rfl) (fun _ _ _ h => h) (Or.inl ⟨by rfl, ?hy7⟩) (by assumption) ?rest7
  case hy7 =>
    intro w hSw
    go_simp
    try with_reducible rfl
  try simp only [Act.put, List.setIfInBounds_toArray, List.set_cons_zero, List.set_cons_succ, List.getElem_toArray, List.getElem_cons_succ, List.getElem_cons_zero]
  refine wpAnyH_done (by kernel_rfl) ?_ _
  have HO3 := hide ((unhide HO).trans o3 (fun _ _ e => e))
  clear hHeld o3 o3d d0 d1 d2 d3 d4 hR HC
  go_wp2
  go_ret
  exact ⟨rfl, unhide HO3⟩

set_option maxHeartbeats 1000000 in
theorem fits_2 (t n : Int) (da : Option Addr) (dl dc : Nat) (ka : Option Addr) (kl kc : Nat) (B : Bool) (w : World) (ht : tagB t = true)
    (HC : Hid (∀ W, Only (fun _ => False) w W → Calls Tryd.prog 90 #[iv t 2 n da dl dc ka kl kc] W fun e w' => e = .returned (.bool B) ∧ Only (fun _ => False) W w')) :
    Calls Tryd.prog 67 #[iv t 2 n da dl dc ka kl kc] w fun e w' => e = .returned (.bool B) ∧ Only (fun _ => False) w w' := by
  obtain ⟨⟨c0, c1, c2, c3, c4⟩, oA⟩ := boxed w (.int .i64 t) (.int .i64 2) (.int .i64 n) (.slice da dl dc) (.slice ka kl kc)
  have HT := hide (fun W => isTag_any t W)
  have HY := hide (fun W => isType_any 2 W)
  rw [ht] at HT
  rw [show typB 2 = true by decide] at HY
  clear ht
  unfold iv at HC ⊢
  generalize hw1 : w.alloc (.cells #[.int .i64 t, .int .i64 2, .int .i64 n, .slice da dl dc, .slice ka kl kc] 25) = w1 at *
  have hsz : w1.heap.size = w.heap.size + 1 := by rw [← hw1]; simp
  have oR : Only (fun _ => False) w1 (w1.alloc (.cells #[Value.nilFunc, Value.func (Fn.func 89) #[] #[], Value.func (Fn.func 90) #[] #[], Value.func (Fn.func 91) #[] #[], Value.func (Fn.func 82) #[] #[], Value.func (Fn.func 92) #[] #[], Value.func (Fn.func 83) #[] #[], Value.func (Fn.func 84) #[] #[], Value.func (Fn.func 93) #[] #[], Value.func (Fn.func 91) #[] #[], Value.func (Fn.func 92) #[] #[]] 36)) := (Only.refl _ _).alloc _
  have hR : (w1.alloc (.cells #[Value.nilFunc, Value.func (Fn.func 89) #[] #[], Value.func (Fn.func 90) #[] #[], Value.func (Fn.func 91) #[] #[], Value.func (Fn.func 82) #[] #[], Value.func (Fn.func 92) #[] #[], Value.func (Fn.func 83) #[] #[], Value.func (Fn.func 84) #[] #[], Value.func (Fn.func 93) #[] #[], Value.func (Fn.func 91) #[] #[], Value.func (Fn.func 92) #[] #[]] 36)).cell? ⟨w.heap.size + 1, 2, none⟩ = some (Value.func (Fn.func 90) #[] #[]) := by
    have hb := heap_alloc_new w1 (.cells #[Value.nilFunc, Value.func (Fn.func 89) #[] #[], Value.func (Fn.func 90) #[] #[], Value.func (Fn.func 91) #[] #[], Value.func (Fn.func 82) #[] #[], Value.func (Fn.func 92) #[] #[], Value.func (Fn.func 83) #[] #[], Value.func (Fn.func 84) #[] #[], Value.func (Fn.func 93) #[] #[], Value.func (Fn.func 91) #[] #[], Value.func (Fn.func 92) #[] #[]] 36)
    rw [hsz] at hb
    simp [World.cell?, hb]
  subst hw1
  have d0 := oR.cell c0 (fun e => e)
  have d1 := oR.cell c1 (fun e => e)
  have d2 := oR.cell c2 (fun e => e)
  have d3 := oR.cell c3 (fun e => e)
  have d4 := oR.cell c4 (fun e => e)
  have HO := hide (oA.trans oR (fun _ _ e => e))
  clear oA oR hsz
  go_enter Tryd.func67, Tryd.ntmps67
  go_wp2_with fail
  refine (unhide HT _).mono ?_
  rintro e w1 ⟨rfl, rfl⟩
  go_wp2_with fail
  refine (unhide HY _).mono ?_
  rintro e w1 ⟨rfl, rfl⟩
  go_wp2_with fail
  clear c0 c1 c2 c3 c4 HT HY
  generalize (w.alloc (.cells #[.int .i64 t, .int .i64 2, .int .i64 n, .slice da dl dc, .slice ka kl kc] 25)).alloc (.cells #[Value.nilFunc, Value.func (Fn.func 89) #[] #[], Value.func (Fn.func 90) #[] #[], Value.func (Fn.func 91) #[] #[], Value.func (Fn.func 82) #[] #[], Value.func (Fn.func 92) #[] #[], Value.func (Fn.func 83) #[] #[], Value.func (Fn.func 84) #[] #[], Value.func (Fn.func 93) #[] #[], Value.func (Fn.func 91) #[] #[], Value.func (Fn.func 92) #[] #[]] 36) = wr at *
  refine wp_region_held_drew (S := (fun w' => (w'.cell? ⟨w.heap.size, 0, none⟩ = some (.int .i64 t) ∧ w'.cell? ⟨w.heap.size, 1, none⟩ = some (.int .i64 2) ∧ w'.cell? ⟨w.heap.size, 2, none⟩ = some (.int .i64 n) ∧ w'.cell? ⟨w.heap.size, 3, none⟩ = some (.slice da dl dc) ∧ w'.cell? ⟨w.heap.size, 4, none⟩ = some (.slice ka kl kc)) ∧ w'.cell? ⟨w.heap.size + 1, 2, none⟩ = some (Value.func (Fn.func 90) #[] #[]))) (by kernel_rfl) (⟨⟨d0, d1, d2, d3, d4⟩, hR⟩) (fun hHeld => ?_)
  refine wpAnyH_take (i := 0) (v := ?v8) rfl (by kernel_rfl) (by kernel_rfl) (by kernel_rfl) (fun _ _ _ h => h) (Or.inl ⟨by rfl, ?hy8⟩) (by assumption) ?rest8
  case hy8 =>
    intro w hSw
    go_simp
    try with_reducible rfl
  try simp only [Act.put, List.setIfInBounds_toArray, List.set_cons_zero, List.set_cons_succ, List.getElem_toArray, List.getElem_cons_succ, List.getElem_cons_zero]
  refine wpAnyH_take (i := 1) (v := ?v9) rfl (by kernel_rfl) (by kernel_rfl) (by kernel_rfl) (fun _ _ _ h => h) (Or.inl ⟨by rfl, ?hy9⟩) (by assumption) ?rest9
  case hy9 =>
    intro w hSw
    go_simp
    try with_reducible rfl
  try simp only [Act.put, List.setIfInBounds_toArray, List.set_cons_zero, List.set_cons_succ, List.getElem_toArray, List.getElem_cons_succ, List.getElem_cons_zero]
  refine wpAnyH_take (i := 2) (v := ?v10) rfl (by kernel_rfl) (by kernel_rfl) (by kernel_rfl) (fun _ _ _ h => h) (Or.inl ⟨by rfl, ?hy10⟩) (by assumption) ?rest10
  case hy10 =>
    intro w hSw
    (obtain ⟨⟨q0, q1, q2, q3, q4⟩, q5⟩ := hSw; go_simp; try with_reducible rfl)
  try simp only [Act.put, List.setIfInBounds_toArray, List.set_cons_zero, List.set_cons_succ, List.getElem_toArray, List.getElem_cons_succ, List.getElem_cons_zero]
  refine wpAnyH_take (i := 3) (v := ?v11) rfl (by kernel_rfl) (by kernel_rfl) (by kernel_rfl) (fun _ _ _ h => h) (Or.inl ⟨by rfl, ?hy11⟩) (by assumption) ?rest11
  case hy11 =>
    intro w hSw
    go_simp
    try with_reducible rfl
  try simp only [Act.put, List.setIfInBounds_toArray, List.set_cons_zero, List.set_cons_succ, List.getElem_toArray, List.getElem_cons_succ, List.getElem_cons_zero]
  refine wpAnyH_take (i := 4) (v := ?v12) rfl (by kernel_rfl) (by kernel_rfl) (by kernel_rfl) (fun _ _ _ h => h) (Or.inl ⟨by rfl, ?hy12⟩) (by assumption) ?rest12
  case hy12 =>
    intro w hSw
    (obtain ⟨⟨q0, q1, q2, q3, q4⟩, q5⟩ := hSw; go_simp; try with_reducible rfl)
  try simp only [Act.put, List.setIfInBounds_toArray, List.set_cons_zero, List.set_cons_succ, List.getElem_toArray, List.getElem_cons_succ, List.getElem_cons_zero]
  refine wpAnyH_take (i := 5) (v := ?v13) rfl (by kernel_rfl) (by kernel_rfl) (by kernel_rfl) (fun _ _ _ h => h) (Or.inl ⟨by rfl, ?hy13⟩) (by assumption) ?rest13
  case hy13 =>
    intro w hSw
    (obtain ⟨⟨q0, q1, q2, q3, q4⟩, q5⟩ := hSw; go_simp; try with_reducible rfl)
  try simp only [Act.put, List.setIfInBounds_toArray, List.set_cons_zero, List.set_cons_succ, List.getElem_toArray, List.getElem_cons_succ, List.getElem_cons_zero]
  refine wpAnyH_ready (rs := [6]) (by kernel_rfl) (by simp) ?_
  refine AllReadyH.cons rfl (fun K hK => ?_) AllReadyH.nil
  go_simp
  go_wp2_with fail; refine (unhide HC _ ((unhide HO).drew)).mono ?_; rintro e w3 ⟨rfl, o3d⟩; have o3 : Only (fun _ => False) wr w3 := ((Only.refl _ _).drew).trans o3d (fun _ _ e => e)
  refine hK.out _ _ (⟨⟨o3.cell d0 (fun e => e), o3.cell d1 (fun e => e), o3.cell d2 (fun e => e), o3.cell d3 (fun e => e), o3.cell d4 (fun e => e)⟩, o3.cell hR (fun e => e)⟩) (fun hHeld => ?_)
  clear hK K
  try simp only [Act.put, List.setIfInBounds_toArray, List.set_cons_zero, List.set_cons_succ, List.getElem_toArray, List.getElem_cons_succ, List.getElem_cons_zero]
  refine wpAnyH_take (i := 7) (v := ?v14) rfl (by kernel_rfl) (by kernel_rfl) (by kernel_rfl) (fun _ _ _ h => h) (Or.inl ⟨by rfl, ?hy14⟩) (by assumption) ?rest14
  case hy14 =>
    intro w hSw
    go_simp
    try with_reducible rfl
  try simp only [Act.put, List.setIfInBounds_toArray, List.set_cons_zero, List.set_cons_succ, List.getElem_toArray, List.getElem_cons_succ, List.getElem_cons_zero]
  refine wpAnyH_done (by kernel_rfl) ?_ _
  have HO3 := hide ((unhide HO).trans o3 (fun _ _ e => e))
  clear hHeld o3 o3d d0 d1 d2 d3 d4 hR HC
  go_wp2
  go_ret
  exact ⟨rfl, unhide HO3⟩

set_option maxHeartbeats 1000000 in
theorem fits_3 (t n : Int) (da : Option Addr) (dl dc : Nat) (ka : Option Addr) (kl kc : Nat) (B : Bool) (w : World) (ht : tagB t = true)
    (HC : Hid (∀ W, Only (fun _ => False) w W → Calls Tryd.prog 91 #[iv t 3 n da dl dc ka kl kc] W fun e w' => e = .returned (.bool B) ∧ Only (fun _ => False) W w')) :
    Calls Tryd.prog 67 #[iv t 3 n da dl dc ka kl kc] w fun e w' => e = .returned (.bool B) ∧ Only (fun _ => False) w w' := by
  obtain ⟨⟨c0, c1, c2, c3, c4⟩, oA⟩ := boxed w (.int .i64 t) (.int .i64 3) (.int .i64 n) (.slice da dl dc) (.slice ka kl kc)
  have HT := hide (fun W => isTag_any t W)
  have HY := hide (fun W => isType_any 3 W)
  rw [ht] at HT
  rw [show typB 3 = true by decide] at HY
  clear ht
  unfold iv at HC ⊢
  generalize hw1 : w.alloc (.cells #[.int .i64 t, .int .i64 3, .int .i64 n, .slice da dl dc, .slice ka kl kc] 25) = w1 at *
  have hsz : w1.heap.size = w.heap.size + 1 := by rw [← hw1]; simp
  have oR : Only (fun _ => False) w1 (w1.alloc (.cells #[Value.nilFunc, Value.func (Fn.func 89) #[] #[], Value.func (Fn.func 90) #[] #[], Value.func (Fn.func 91) #[] #[], Value.func (Fn.func 82) #[] #[], Value.func (Fn.func 92) #[] #[], Value.func (Fn.func 83) #[] #[], Value.func (Fn.func 84) #[] #[], Value.func (Fn.func 93) #[] #[], Value.func (Fn.func 91) #[] #[], Value.func (Fn.func 92) #[] #[]] 36)) := (Only.refl _ _).alloc _
  have hR : (w1.alloc (.cells #[Value.nilFunc, Value.func (Fn.func 89) #[] #[], Value.func (Fn.func 90) #[] #[], Value.func (Fn.func 91) #[] #[], Value.func (Fn.func 82) #[] #[], Value.func (Fn.func 92) #[] #[], Value.func (Fn.func 83) #[] #[], Value.func (Fn.func 84) #[] #[], Value.func (Fn.func 93) #[] #[], Value.func (Fn.func 91) #[] #[], Value.func (Fn.func 92) #[] #[]] 36)).cell? ⟨w.heap.size + 1, 3, none⟩ = some (Value.func (Fn.func 91) #[] #[]) := by
    have hb := heap_alloc_new w1 (.cells #[Value.nilFunc, Value.func (Fn.func 89) #[] #[], Value.func (Fn.func 90) #[] #[], Value.func (Fn.func 91) #[] #[], Value.func (Fn.func 82) #[] #[], Value.func (Fn.func 92) #[] #[], Value.func (Fn.func 83) #[] #[], Value.func (Fn.func 84) #[] #[], Value.func (Fn.func 93) #[] #[], Value.func (Fn.func 91) #[] #[], Value.func (Fn.func 92) #[] #[]] 36)
    rw [hsz] at hb
    simp [World.cell?, hb]
  subst hw1
  have d0 := oR.cell c0 (fun e => e)
  have d1 := oR.cell c1 (fun e => e)
  have d2 := oR.cell c2 (fun e => e)
  have d3 := oR.cell c3 (fun e => e)
  have d4 := oR.cell c4 (fun e => e)
  have HO := hide (oA.trans oR (fun _ _ e => e))
  clear oA oR hsz
  go_enter Tryd.func67, Tryd.ntmps67
  go_wp2_with fail
  refine (unhide HT _).mono ?_
  rintro e w1 ⟨rfl, rfl⟩
  go_wp2_with fail
  refine (unhide HY _).mono ?_
  rintro e w1 ⟨rfl, rfl⟩
  go_wp2_with fail
  clear c0 c1 c2 c3 c4 HT HY
  generalize (w.alloc (.cells #[.int .i64 t, .int .i64 3, .int .i64 n, .slice da dl dc, .slice ka kl kc] 25)).alloc (.cells #[Value.nilFunc, Value.func (Fn.func 89) #[] #[], Value.func (Fn.func 90) #[] #[], Value.func (Fn.func 91) #[] #[], Value.func (Fn.func 82) #[] #[], Value.func (Fn.func 92) #[] #[], Value.func (Fn.func 83) #[] #[], Value.func (Fn.func 84) #[] #[], Value.func (Fn.func 93) #[] #[], Value.func (Fn.func 91) #[] #[], Value.func (Fn.func 92) #[] #[]] 36) = wr at *
  refine wp_region_held_drew (S := (fun w' => (w'.cell? ⟨w.heap.size, 0, none⟩ = some (.int .i64 t) ∧ w'.cell? ⟨w.heap.size, 1, none⟩ = some (.int .i64 3) ∧ w'.cell? ⟨w.heap.size, 2, none⟩ = some (.int .i64 n) ∧ w'.cell? ⟨w.heap.size, 3, none⟩ = some (.slice da dl dc) ∧ w'.cell? ⟨w.heap.size, 4, none⟩ = some (.slice ka kl kc)) ∧ w'.cell? ⟨w.heap.size + 1, 3, none⟩ = some (Value.func (Fn.func 91) #[] #[]))) (by kernel_rfl) (⟨⟨d0, d1, d2, d3, d4⟩, hR⟩) (fun hHeld => ?_)
  refine wpAnyH_take (i := 0) (v := ?v15) rfl (by kernel_rfl) (by kernel_rfl) (by kernel_rfl) (fun _ _ _ h => h) (Or.inl ⟨by rfl, ?hy15⟩) (by assumption) ?rest15
  case hy15 =>
    intro w hSw
    go_simp
    try with_reducible rfl
  try simp only [Act.put, List.setIfInBounds_toArray, List.set_cons_zero, List.set_cons_succ, List.getElem_toArray, List.getElem_cons_succ, List.getElem_cons_zero]
  refine wpAnyH_take (i := 1) (v := ?v16) rfl (by kernel_rfl) (by kernel_rfl) (by kernel_rfl) (fun _ _ _ h => h) (Or.inl ⟨by rfl, ?hy16⟩) (by assumption) ?rest16
  case hy16 =>
    intro w hSw
    go_simp
    try with_reducible rfl
  try simp only [Act.put, List.setIfInBounds_toArray, List.set_cons_zero, List.set_cons_succ, List.getElem_toArray, List.getElem_cons_succ, List.getElem_cons_zero]
  refine wpAnyH_take (i := 2) (v := ?v17) rfl (by kernel_rfl) (by kernel_rfl) (by kernel_rfl) (fun _ _ _ h => h) (Or.inl ⟨by rfl, ?hy17⟩) (by assumption) ?rest17
  case hy17 =>
    intro w hSw
    (obtain ⟨⟨q0, q1, q2, q3, q4⟩, q5⟩ := hSw; go_simp; try with_reducible rfl)
  try simp only [Act.put, List.setIfInBounds_toArray, List.set_cons_zero, List.set_cons_succ, List.getElem_toArray, List.getElem_cons_succ, List.getElem_cons_zero]
  refine wpAnyH_take (i := 3) (v := ?v18) rfl (by kernel_rfl) (by kernel_rfl) (by kernel_rfl) (fun _ _ _ h => h) (Or.inl ⟨by rfl, ?hy18⟩) (by assumption) ?rest18
  case hy18 =>
    intro w hSw
    go_simp
    try with_reducible rfl
  try simp only [Act.put, List.setIfInBounds_toArray, List.set_cons_zero, List.set_cons_succ, List.getElem_toArray, List.getElem_cons_succ, List.getElem_cons_zero]
  refine wpAnyH_take (i := 4) (v := ?v19) rfl (by kernel_rfl) (by kernel_rfl) (by kernel_rfl) (fun _ _ _ h => h) (Or.inl ⟨by rfl, ?hy19⟩) (by assumption) ?rest19
  case hy19 =>
    intro w hSw
    (obtain ⟨⟨q0, q1, q2, q3, q4⟩, q5⟩ := hSw; go_simp; try with_reducible rfl)
  try simp only [Act.put, List.setIfInBounds_toArray, List.set_cons_zero, List.set_cons_succ, List.getElem_toArray, List.getElem_cons_succ, List.getElem_cons_zero]
  refine wpAnyH_take (i := 5) (v := ?v20) rfl (by kernel_rfl) (by kernel_rfl) (by kernel_rfl) (fun _ _ _ h => h) (Or.inl ⟨by rfl, ?hy20⟩) (by assumption) ?rest20
  case hy20 =>
    intro w hSw
    (obtain ⟨⟨q0, q1, q2, q3, q4⟩, q5⟩ := hSw; go_simp; try with_reducible rfl)
  try simp only [Act.put, List.setIfInBounds_toArray, List.set_cons_zero, List.set_cons_succ, List.getElem_toArray, List.getElem_cons_succ, List.getElem_cons_zero]
  refine wpAnyH_ready (rs := [6]) (by kernel_rfl) (by simp) ?_
  refine AllReadyH.cons rfl (fun K hK => ?_) AllReadyH.nil
  go_simp
  go_wp2_with fail; refine (unhide HC _ ((unhide HO).drew)).mono ?_; rintro e w3 ⟨rfl, o3d⟩; have o3 : Only (fun _ => False) wr w3 := ((Only.refl _ _).drew).trans o3d (fun _ _ e => e)
  refine hK.out _ _ (⟨⟨o3.cell d0 (fun e => e), o3.cell d1 (fun e => e), o3.cell d2 (fun e => e), o3.cell d3 (fun e => e), o3.cell d4 (fun e => e)⟩, o3.cell hR (fun e => e)⟩) (fun hHeld => ?_)
  clear hK K
  try simp only [Act.put, List.setIfInBounds_toArray, List.set_cons_zero, List.set_cons_succ, List.getElem_toArray, List.getElem_cons_succ, List.getElem_cons_zero]
  refine wpAnyH_take (i := 7) (v := ?v21) rfl (by kernel_rfl) (by kernel_rfl) (by kernel_rfl) (fun _ _ _ h => h) (Or.inl ⟨by rfl, ?hy21⟩) (by assumption) ?rest21
  case hy21 =>
    intro w hSw
    go_simp
    try with_reducible rfl
  try simp only [Act.put, List.setIfInBounds_toArray, List.set_cons_zero, List.set_cons_succ, List.getElem_toArray, List.getElem_cons_succ, List.getElem_cons_zero]
  refine wpAnyH_done (by kernel_rfl) ?_ _
  have HO3 := hide ((unhide HO).trans o3 (fun _ _ e => e))
  clear hHeld o3 o3d d0 d1 d2 d3 d4 hR HC
  go_wp2
  go_ret
  exact ⟨rfl, unhide HO3⟩

set_option maxHeartbeats 1000000 in
theorem fits_4 (t n : Int) (da : Option Addr) (dl dc : Nat) (ka : Option Addr) (kl kc : Nat) (B : Bool) (w : World) (ht : tagB t = true)
    (HC : Hid (∀ W, Only (fun _ => False) w W → Calls Tryd.prog 82 #[iv t 4 n da dl dc ka kl kc] W fun e w' => e = .returned (.bool B) ∧ Only (fun _ => False) W w')) :
    Calls Tryd.prog 67 #[iv t 4 n da dl dc ka kl kc] w fun e w' => e = .returned (.bool B) ∧ Only (fun _ => False) w w' := by
  obtain ⟨⟨c0, c1, c2, c3, c4⟩, oA⟩ := boxed w (.int .i64 t) (.int .i64 4) (.int .i64 n) (.slice da dl dc) (.slice ka kl kc)
  have HT := hide (fun W => isTag_any t W)
  have HY := hide (fun W => isType_any 4 W)
  rw [ht] at HT
  rw [show typB 4 = true by decide] at HY
  clear ht
  unfold iv at HC ⊢
  generalize hw1 : w.alloc (.cells #[.int .i64 t, .int .i64 4, .int .i64 n, .slice da dl dc, .slice ka kl kc] 25) = w1 at *
  have hsz : w1.heap.size = w.heap.size + 1 := by rw [← hw1]; simp
  have oR : Only (fun _ => False) w1 (w1.alloc (.cells #[Value.nilFunc, Value.func (Fn.func 89) #[] #[], Value.func (Fn.func 90) #[] #[], Value.func (Fn.func 91) #[] #[], Value.func (Fn.func 82) #[] #[], Value.func (Fn.func 92) #[] #[], Value.func (Fn.func 83) #[] #[], Value.func (Fn.func 84) #[] #[], Value.func (Fn.func 93) #[] #[], Value.func (Fn.func 91) #[] #[], Value.func (Fn.func 92) #[] #[]] 36)) := (Only.refl _ _).alloc _
  have hR : (w1.alloc (.cells #[Value.nilFunc, Value.func (Fn.func 89) #[] #[], Value.func (Fn.func 90) #[] #[], Value.func (Fn.func 91) #[] #[], Value.func (Fn.func 82) #[] #[], Value.func (Fn.func 92) #[] #[], Value.func (Fn.func 83) #[] #[], Value.func (Fn.func 84) #[] #[], Value.func (Fn.func 93) #[] #[], Value.func (Fn.func 91) #[] #[], Value.func (Fn.func 92) #[] #[]] 36)).cell? ⟨w.heap.size + 1, 4, none⟩ = some (Value.func (Fn.func 82) #[] #[]) := by
    have hb := heap_alloc_new w1 (.cells #[Value.nilFunc, Value.func (Fn.func 89) #[] #[], Value.func (Fn.func 90) #[] #[], Value.func (Fn.func 91) #[] #[], Value.func (Fn.func 82) #[] #[], Value.func (Fn.func 92) #[] #[], Value.func (Fn.func 83) #[] #[], Value.func (Fn.func 84) #[] #[], Value.func (Fn.func 93) #[] #[], Value.func (Fn.func 91) #[] #[], Value.func (Fn.func 92) #[] #[]] 36)
    rw [hsz] at hb
    simp [World.cell?, hb]
  subst hw1
  have d0 := oR.cell c0 (fun e => e)
  have d1 := oR.cell c1 (fun e => e)
  have d2 := oR.cell c2 (fun e => e)
  have d3 := oR.cell c3 (fun e => e)
  have d4 := oR.cell c4 (fun e => e)
  have HO := hide (oA.trans oR (fun _ _ e => e))
  clear oA oR hsz
  go_enter Tryd.func67, Tryd.ntmps67
  go_wp2_with fail
  refine (unhide HT _).mono ?_
  rintro e w1 ⟨rfl, rfl⟩
  go_wp2_with fail
  refine (unhide HY _).mono ?_
  rintro e w1 ⟨rfl, rfl⟩
  go_wp2_with fail
  clear c0 c1 c2 c3 c4 HT HY
  generalize (w.alloc (.cells #[.int .i64 t, .int .i64 4, .int .i64 n, .slice da dl dc, .slice ka kl kc] 25)).alloc (.cells #[Value.nilFunc, Value.func (Fn.func 89) #[] #[], Value.func (Fn.func 90) #[] #[], Value.func (Fn.func 91) #[] #[], Value.func (Fn.func 82) #[] #[], Value.func (Fn.func 92) #[] #[], Value.func (Fn.func 83) #[] #[], Value.func (Fn.func 84) #[] #[], Value.func (Fn.func 93) #[] #[], Value.func (Fn.func 91) #[] #[], Value.func (Fn.func 92) #[] #[]] 36) = wr at *
  refine wp_region_held_drew (S := (fun w' => (w'.cell? ⟨w.heap.size, 0, none⟩ = some (.int .i64 t) ∧ w'.cell? ⟨w.heap.size, 1, none⟩ = some (.int .i64 4) ∧ w'.cell? ⟨w.heap.size, 2, none⟩ = some (.int .i64 n) ∧ w'.cell? ⟨w.heap.size, 3, none⟩ = some (.slice da dl dc) ∧ w'.cell? ⟨w.heap.size, 4, none⟩ = some (.slice ka kl kc)) ∧ w'.cell? ⟨w.heap.size + 1, 4, none⟩ = some (Value.func (Fn.func 82) #[] #[]))) (by kernel_rfl) (⟨⟨d0, d1, d2, d3, d4⟩, hR⟩) (fun hHeld => ?_)
  refine wpAnyH_take (i := 0) (v := ?v22) rfl (by kernel_rfl) (by kernel_rfl) (by kernel_rfl) (fun _ _ _ h => h) (Or.inl ⟨by rfl, ?hy22⟩) (by assumption) ?rest22
  case hy22 =>
    intro w hSw
    go_simp
    try with_reducible rfl
  try simp only [Act.put, List.setIfInBounds_toArray, List.set_cons_zero, List.set_cons_succ, List.getElem_toArray, List.getElem_cons_succ, List.getElem_cons_zero]
  refine wpAnyH_take (i := 1) (v := ?v23) rfl (by kernel_rfl) (by kernel_rfl) (by kernel_rfl) (fun _ _ _ h => h) (Or.inl ⟨by rfl, ?hy23⟩) (by assumption) ?rest23
  case hy23 =>
    intro w hSw
    go_simp
    try with_reducible rfl
  try simp only [Act.put, List.setIfInBounds_toArray, List.set_cons_zero, List.set_cons_succ, List.getElem_toArray, List.getElem_cons_succ, List.getElem_cons_zero]
  refine wpAnyH_take (i := 2) (v := ?v24) rfl (by kernel_rfl) (by kernel_rfl) (by kernel_rfl) (fun _ _ _ h => h) (Or.inl ⟨by rfl, ?hy24⟩) (by assumption) ?rest24
  case hy24 =>
    intro w hSw
    (obtain ⟨⟨q0, q1, q2, q3, q4⟩, q5⟩ := hSw; go_simp; try with_reducible rfl)
  try simp only [Act.put, List.setIfInBounds_toArray, List.set_cons_zero, List.set_cons_succ, List.getElem_toArray, List.getElem_cons_succ, List.getElem_cons_zero]
  refine wpAnyH_take (i := 3) (v := ?v25) rfl (by kernel_rfl) (by kernel_rfl) (by kernel_rfl) (fun _ _ _ h => h) (Or.inl ⟨by rfl, ?hy25⟩) (by assumption) ?rest25
  case hy25 =>
    intro w hSw
    go_simp
    try with_reducible rfl
  try simp only [Act.put, List.setIfInBounds_toArray, List.set_cons_zero, List.set_cons_succ, List.getElem_toArray, List.getElem_cons_succ, List.getElem_cons_zero]
  refine wpAnyH_take (i := 4) (v := ?v26) rfl (by kernel_rfl) (by kernel_rfl) (by kernel_rfl) (fun _ _ _ h => h) (Or.inl ⟨by rfl, ?hy26⟩) (by assumption) ?rest26
  case hy26 =>
    intro w hSw
    (obtain ⟨⟨q0, q1, q2, q3, q4⟩, q5⟩ := hSw; go_simp; try with_reducible rfl)
  try simp only [Act.put, List.setIfInBounds_toArray, List.set_cons_zero, List.set_cons_succ, List.getElem_toArray, List.getElem_cons_succ, List.getElem_cons_zero]
  refine wpAnyH_take (i := 5) (v := ?v27) rfl (by kernel_rfl) (by kernel_rfl) (by kernel_rfl) (fun _ _ _ h => h) (Or.inl ⟨by rfl, ?hy27⟩) (by assumption) ?rest27
  case hy27 =>
    intro w hSw
    (obtain ⟨⟨q0, q1, q2, q3, q4⟩, q5⟩ := hSw; go_simp; try with_reducible rfl)
  try simp only [Act.put, List.setIfInBounds_toArray, List.set_cons_zero, List.set_cons_succ, List.getElem_toArray, List.getElem_cons_succ, List.getElem_cons_zero]
  refine wpAnyH_ready (rs := [6]) (by kernel_rfl) (by simp) ?_
  refine AllReadyH.cons rfl (fun K hK => ?_) AllReadyH.nil
  go_simp
  go_wp2_with fail; refine (unhide HC _ ((unhide HO).drew)).mono ?_; rintro e w3 ⟨rfl, o3d⟩; have o3 : Only (fun _ => False) wr w3 := ((Only.refl _ _).drew).trans o3d (fun _ _ e => e)
  refine hK.out _ _ (⟨⟨o3.cell d0 (fun e => e), o3.cell d1 (fun e => e), o3.cell d2 (fun e => e), o3.cell d3 (fun e => e), o3.cell d4 (fun e => e)⟩, o3.cell hR (fun e => e)⟩) (fun hHeld => ?_)
  clear hK K
  try simp only [Act.put, List.setIfInBounds_toArray, List.set_cons_zero, List.set_cons_succ, List.getElem_toArray, List.getElem_cons_succ, List.getElem_cons_zero]
  refine wpAnyH_take (i := 7) (v := ?v28) rfl (by kernel_rfl) (by kernel_rfl) (by kernel_rfl) (fun _ _ _ h => h) (Or.inl ⟨by rfl, ?hy28⟩) (by assumption) ?rest28
  case hy28 =>
    intro w hSw
    go_simp
    try with_reducible rfl
  try simp only [Act.put, List.setIfInBounds_toArray, List.set_cons_zero, List.set_cons_succ, List.getElem_toArray, List.getElem_cons_succ, List.getElem_cons_zero]
  refine wpAnyH_done (by kernel_rfl) ?_ _
  have HO3 := hide ((unhide HO).trans o3 (fun _ _ e => e))
  clear hHeld o3 o3d d0 d1 d2 d3 d4 hR HC
  go_wp2
  go_ret
  exact ⟨rfl, unhide HO3⟩

set_option maxHeartbeats 1000000 in
theorem fits_5 (t n : Int) (da : Option Addr) (dl dc : Nat) (ka : Option Addr) (kl kc : Nat) (B : Bool) (w : World) (ht : tagB t = true)
    (HC : Hid (∀ W, Only (fun _ => False) w W → Calls Tryd.prog 92 #[iv t 5 n da dl dc ka kl kc] W fun e w' => e = .returned (.bool B) ∧ Only (fun _ => False) W w')) :
    Calls Tryd.prog 67 #[iv t 5 n da dl dc ka kl kc] w fun e w' => e = .returned (.bool B) ∧ Only (fun _ => False) w w' := by
  obtain ⟨⟨c0, c1, c2, c3, c4⟩, oA⟩ := boxed w (.int .i64 t) (.int .i64 5) (.int .i64 n) (.slice da dl dc) (.slice ka kl kc)
  have HT := hide (fun W => isTag_any t W)
  have HY := hide (fun W => isType_any 5 W)
  rw [ht] at HT
  rw [show typB 5 = true by decide] at HY
  clear ht
  unfold iv at HC ⊢
  generalize hw1 : w.alloc (.cells #[.int .i64 t, .int .i64 5, .int .i64 n, .slice da dl dc, .slice ka kl kc] 25) = w1 at *
  have hsz : w1.heap.size = w.heap.size + 1 := by rw [← hw1]; simp
  have oR : Only (fun _ => False) w1 (w1.alloc (.cells #[Value.nilFunc, Value.func (Fn.func 89) #[] #[], Value.func (Fn.func 90) #[] #[], Value.func (Fn.func 91) #[] #[], Value.func (Fn.func 82) #[] #[], Value.func (Fn.func 92) #[] #[], Value.func (Fn.func 83) #[] #[], Value.func (Fn.func 84) #[] #[], Value.func (Fn.func 93) #[] #[], Value.func (Fn.func 91) #[] #[], Value.func (Fn.func 92) #[] #[]] 36)) := (Only.refl _ _).alloc _
  have hR : (w1.alloc (.cells #[Value.nilFunc, Value.func (Fn.func 89) #[] #[], Value.func (Fn.func 90) #[] #[], Value.func (Fn.func 91) #[] #[], Value.func (Fn.func 82) #[] #[], Value.func (Fn.func 92) #[] #[], Value.func (Fn.func 83) #[] #[], Value.func (Fn.func 84) #[] #[], Value.func (Fn.func 93) #[] #[], Value.func (Fn.func 91) #[] #[], Value.func (Fn.func 92) #[] #[]] 36)).cell? ⟨w.heap.size + 1, 5, none⟩ = some (Value.func (Fn.func 92) #[] #[]) := by
    have hb := heap_alloc_new w1 (.cells #[Value.nilFunc, Value.func (Fn.func 89) #[] #[], Value.func (Fn.func 90) #[] #[], Value.func (Fn.func 91) #[] #[], Value.func (Fn.func 82) #[] #[], Value.func (Fn.func 92) #[] #[], Value.func (Fn.func 83) #[] #[], Value.func (Fn.func 84) #[] #[], Value.func (Fn.func 93) #[] #[], Value.func (Fn.func 91) #[] #[], Value.func (Fn.func 92) #[] #[]] 36)
    rw [hsz] at hb
    simp [World.cell?, hb]
  subst hw1
  have d0 := oR.cell c0 (fun e => e)
  have d1 := oR.cell c1 (fun e => e)
  have d2 := oR.cell c2 (fun e => e)
  have d3 := oR.cell c3 (fun e => e)
  have d4 := oR.cell c4 (fun e => e)
  have HO := hide (oA.trans oR (fun _ _ e => e))
  clear oA oR hsz
  go_enter Tryd.func67, Tryd.ntmps67
  go_wp2_with fail
  refine (unhide HT _).mono ?_
  rintro e w1 ⟨rfl, rfl⟩
  go_wp2_with fail
  refine (unhide HY _).mono ?_
  rintro e w1 ⟨rfl, rfl⟩
  go_wp2_with fail
  clear c0 c1 c2 c3 c4 HT HY
  generalize (w.alloc (.cells #[.int .i64 t, .int .i64 5, .int .i64 n, .slice da dl dc, .slice ka kl kc] 25)).alloc (.cells #[Value.nilFunc, Value.func (Fn.func 89) #[] #[], Value.func (Fn.func 90) #[] #[], Value.func (Fn.func 91) #[] #[], Value.func (Fn.func 82) #[] #[], Value.func (Fn.func 92) #[] #[], Value.func (Fn.func 83) #[] #[], Value.func (Fn.func 84) #[] #[], Value.func (Fn.func 93) #[] #[], Value.func (Fn.func 91) #[] #[], Value.func (Fn.func 92) #[] #[]] 36) = wr at *
  refine wp_region_held_drew (S := (fun w' => (w'.cell? ⟨w.heap.size, 0, none⟩ = some (.int .i64 t) ∧ w'.cell? ⟨w.heap.size, 1, none⟩ = some (.int .i64 5) ∧ w'.cell? ⟨w.heap.size, 2, none⟩ = some (.int .i64 n) ∧ w'.cell? ⟨w.heap.size, 3, none⟩ = some (.slice da dl dc) ∧ w'.cell? ⟨w.heap.size, 4, none⟩ = some (.slice ka kl kc)) ∧ w'.cell? ⟨w.heap.size + 1, 5, none⟩ = some (Value.func (Fn.func 92) #[] #[]))) (by kernel_rfl) (⟨⟨d0, d1, d2, d3, d4⟩, hR⟩) (fun hHeld => ?_)
  refine wpAnyH_take (i := 0) (v := ?v29) rfl (by kernel_rfl) (by kernel_rfl) (by kernel_rfl) (fun _ _ _ h => h) (Or.inl ⟨by rfl, ?hy29⟩) (by assumption) ?rest29
  case hy29 =>
    intro w hSw
    go_simp
    try with_reducible rfl
  try simp only [Act.put, List.setIfInBounds_toArray, List.set_cons_zero, List.set_cons_succ, List.getElem_toArray, List.getElem_cons_succ, List.getElem_cons_zero]
  refine wpAnyH_take (i := 1) (v := ?v30) rfl (by kernel_rfl) (by kernel_rfl) (by kernel_rfl) (fun _ _ _ h => h) (Or.inl ⟨by rfl, ?hy30⟩) (by assumption) ?rest30
  case hy30 =>
    intro w hSw
    go_simp
    try with_reducible rfl
  try simp only [Act.put, List.setIfInBounds_toArray, List.set_cons_zero, List.set_cons_succ, List.getElem_toArray, List.getElem_cons_succ, List.getElem_cons_zero]
  refine wpAnyH_take (i := 2) (v := ?v31) rfl (by kernel_rfl) (by kernel_rfl) (by kernel_rfl) (fun _ _ _ h => h) (Or.inl ⟨by rfl, ?hy31⟩) (by assumption) ?rest31
  case hy31 =>
    intro w hSw
    (obtain ⟨⟨q0, q1, q2, q3, q4⟩, q5⟩ := hSw; go_simp; try with_reducible rfl)
  try simp only [Act.put, List.setIfInBounds_toArray, List.set_cons_zero, List.set_cons_succ, List.getElem_toArray, List.getElem_cons_succ, List.getElem_cons_zero]
  refine wpAnyH_take (i := 3) (v := ?v32) rfl (by kernel_rfl) (by kernel_rfl) (by kernel_rfl) (fun _ _ _ h => h) (Or.inl ⟨by rfl, ?hy32⟩) (by assumption) ?rest32
  case hy32 =>
    intro w hSw
    go_simp
    try with_reducible rfl
  try simp only [Act.put, List.setIfInBounds_toArray, List.set_cons_zero, List.set_cons_succ, List.getElem_toArray, List.getElem_cons_succ, List.getElem_cons_zero]
  refine wpAnyH_take (i := 4) (v := ?v33) rfl (by kernel_rfl) (by kernel_rfl) (by kernel_rfl) (fun _ _ _ h => h) (Or.inl ⟨by rfl, ?hy33⟩) (by assumption) ?rest33
  case hy33 =>
    intro w hSw
    (obtain ⟨⟨q0, q1, q2, q3, q4⟩, q5⟩ := hSw; go_simp; try with_reducible rfl)
  try simp only [Act.put, List.setIfInBounds_toArray, List.set_cons_zero, List.set_cons_succ, List.getElem_toArray, List.getElem_cons_succ, List.getElem_cons_zero]
  refine wpAnyH_take (i := 5) (v := ?v34) rfl (by kernel_rfl) (by kernel_rfl) (by kernel_rfl) (fun _ _ _ h => h) (Or.inl ⟨by rfl, ?hy34⟩) (by assumption) ?rest34
  case hy34 =>
    intro w hSw
    (obtain ⟨⟨q0, q1, q2, q3, q4⟩, q5⟩ := hSw; go_simp; try with_reducible rfl)
  try simp only [Act.put, List.setIfInBounds_toArray, List.set_cons_zero, List.set_cons_succ, List.getElem_toArray, List.getElem_cons_succ, List.getElem_cons_zero]
  refine wpAnyH_ready (rs := [6]) (by kernel_rfl) (by simp) ?_
  refine AllReadyH.cons rfl (fun K hK => ?_) AllReadyH.nil
  go_simp
  go_wp2_with fail; refine (unhide HC _ ((unhide HO).drew)).mono ?_; rintro e w3 ⟨rfl, o3d⟩; have o3 : Only (fun _ => False) wr w3 := ((Only.refl _ _).drew).trans o3d (fun _ _ e => e)
  refine hK.out _ _ (⟨⟨o3.cell d0 (fun e => e), o3.cell d1 (fun e => e), o3.cell d2 (fun e => e), o3.cell d3 (fun e => e), o3.cell d4 (fun e => e)⟩, o3.cell hR (fun e => e)⟩) (fun hHeld => ?_)
  clear hK K
  try simp only [Act.put, List.setIfInBounds_toArray, List.set_cons_zero, List.set_cons_succ, List.getElem_toArray, List.getElem_cons_succ, List.getElem_cons_zero]
  refine wpAnyH_take (i := 7) (v := ?v35) rfl (by kernel_rfl) (by kernel_rfl) (by kernel_rfl) (fun _ _ _ h => h) (Or.inl ⟨by rfl, ?hy35⟩) (by assumption) ?rest35
  case hy35 =>
    intro w hSw
    go_simp
    try with_reducible rfl
  try simp only [Act.put, List.setIfInBounds_toArray, List.set_cons_zero, List.set_cons_succ, List.getElem_toArray, List.getElem_cons_succ, List.getElem_cons_zero]
  refine wpAnyH_done (by kernel_rfl) ?_ _
  have HO3 := hide ((unhide HO).trans o3 (fun _ _ e => e))
  clear hHeld o3 o3d d0 d1 d2 d3 d4 hR HC
  go_wp2
  go_ret
  exact ⟨rfl, unhide HO3⟩

set_option maxHeartbeats 1000000 in
theorem fits_6 (t n : Int) (da : Option Addr) (dl dc : Nat) (ka : Option Addr) (kl kc : Nat) (B : Bool) (w : World) (ht : tagB t = true)
    (HC : Hid (∀ W, Only (fun _ => False) w W → Calls Tryd.prog 83 #[iv t 6 n da dl dc ka kl kc] W fun e w' => e = .returned (.bool B) ∧ Only (fun _ => False) W w')) :
    Calls Tryd.prog 67 #[iv t 6 n da dl dc ka kl kc] w fun e w' => e = .returned (.bool B) ∧ Only (fun _ => False) w w' := by
  obtain ⟨⟨c0, c1, c2, c3, c4⟩, oA⟩ := boxed w (.int .i64 t) (.int .i64 6) (.int .i64 n) (.slice da dl dc) (.slice ka kl kc)
  have HT := hide (fun W => isTag_any t W)
  have HY := hide (fun W => isType_any 6 W)
  rw [ht] at HT
  rw [show typB 6 = true by decide] at HY
  clear ht
  unfold iv at HC ⊢
  generalize hw1 : w.alloc (.cells #[.int .i64 t, .int .i64 6, .int .i64 n, .slice da dl dc, .slice ka kl kc] 25) = w1 at *
  have hsz : w1.heap.size = w.heap.size + 1 := by rw [← hw1]; simp
  have oR : Only (fun _ => False) w1 (w1.alloc (.cells #[Value.nilFunc, Value.func (Fn.func 89) #[] #[], Value.func (Fn.func 90) #[] #[], Value.func (Fn.func 91) #[] #[], Value.func (Fn.func 82) #[] #[], Value.func (Fn.func 92) #[] #[], Value.func (Fn.func 83) #[] #[], Value.func (Fn.func 84) #[] #[], Value.func (Fn.func 93) #[] #[], Value.func (Fn.func 91) #[] #[], Value.func (Fn.func 92) #[] #[]] 36)) := (Only.refl _ _).alloc _
  have hR : (w1.alloc (.cells #[Value.nilFunc, Value.func (Fn.func 89) #[] #[], Value.func (Fn.func 90) #[] #[], Value.func (Fn.func 91) #[] #[], Value.func (Fn.func 82) #[] #[], Value.func (Fn.func 92) #[] #[], Value.func (Fn.func 83) #[] #[], Value.func (Fn.func 84) #[] #[], Value.func (Fn.func 93) #[] #[], Value.func (Fn.func 91) #[] #[], Value.func (Fn.func 92) #[] #[]] 36)).cell? ⟨w.heap.size + 1, 6, none⟩ = some (Value.func (Fn.func 83) #[] #[]) := by
    have hb := heap_alloc_new w1 (.cells #[Value.nilFunc, Value.func (Fn.func 89) #[] #[], Value.func (Fn.func 90) #[] #[], Value.func (Fn.func 91) #[] #[], Value.func (Fn.func 82) #[] #[], Value.func (Fn.func 92) #[] #[], Value.func (Fn.func 83) #[] #[], Value.func (Fn.func 84) #[] #[], Value.func (Fn.func 93) #[] #[], Value.func (Fn.func 91) #[] #[], Value.func (Fn.func 92) #[] #[]] 36)
    rw [hsz] at hb
    simp [World.cell?, hb]
  subst hw1
  have d0 := oR.cell c0 (fun e => e)
  have d1 := oR.cell c1 (fun e => e)
  have d2 := oR.cell c2 (fun e => e)
  have d3 := oR.cell c3 (fun e => e)
  have d4 := oR.cell c4 (fun e => e)
  have HO := hide (oA.trans oR (fun _ _ e => e))
  clear oA oR hsz
  go_enter Tryd.func67, Tryd.ntmps67
  go_wp2_with fail
  refine (unhide HT _).mono ?_
  rintro e w1 ⟨rfl, rfl⟩
  go_wp2_with fail
  refine (unhide HY _).mono ?_
  rintro e w1 ⟨rfl, rfl⟩
  go_wp2_with fail
  clear c0 c1 c2 c3 c4 HT HY
  generalize (w.alloc (.cells #[.int .i64 t, .int .i64 6, .int .i64 n, .slice da dl dc, .slice ka kl kc] 25)).alloc (.cells #[Value.nilFunc, Value.func (Fn.func 89) #[] #[], Value.func (Fn.func 90) #[] #[], Value.func (Fn.func 91) #[] #[], Value.func (Fn.func 82) #[] #[], Value.func (Fn.func 92) #[] #[], Value.func (Fn.func 83) #[] #[], Value.func (Fn.func 84) #[] #[], Value.func (Fn.func 93) #[] #[], Value.func (Fn.func 91) #[] #[], Value.func (Fn.func 92) #[] #[]] 36) = wr at *
  refine wp_region_held_drew (S := (fun w' => (w'.cell? ⟨w.heap.size, 0, none⟩ = some (.int .i64 t) ∧ w'.cell? ⟨w.heap.size, 1, none⟩ = some (.int .i64 6) ∧ w'.cell? ⟨w.heap.size, 2, none⟩ = some (.int .i64 n) ∧ w'.cell? ⟨w.heap.size, 3, none⟩ = some (.slice da dl dc) ∧ w'.cell? ⟨w.heap.size, 4, none⟩ = some (.slice ka kl kc)) ∧ w'.cell? ⟨w.heap.size + 1, 6, none⟩ = some (Value.func (Fn.func 83) #[] #[]))) (by kernel_rfl) (⟨⟨d0, d1, d2, d3, d4⟩, hR⟩) (fun hHeld => ?_)
  refine wpAnyH_take (i := 0) (v := ?v36) rfl (by kernel_rfl) (by kernel_rfl) (by kernel_rfl) (fun _ _ _ h => h) (Or.inl ⟨by rfl, ?hy36⟩) (by assumption) ?rest36
  case hy36 =>
    intro w hSw
    go_simp
    try with_reducible rfl
  try simp only [Act.put, List.setIfInBounds_toArray, List.set_cons_zero, List.set_cons_succ, List.getElem_toArray, List.getElem_cons_succ, List.getElem_cons_zero]
  refine wpAnyH_take (i := 1) (v := ?v37) rfl (by kernel_rfl) (by kernel_rfl) (by kernel_rfl) (fun _ _ _ h => h) (Or.inl ⟨by rfl, ?hy37⟩) (by assumption) ?rest37
  case hy37 =>
    intro w hSw
    go_simp
    try with_reducible rfl
  try simp only [Act.put, List.setIfInBounds_toArray, List.set_cons_zero, List.set_cons_succ, List.getElem_toArray, List.getElem_cons_succ, List.getElem_cons_zero]
  refine wpAnyH_take (i := 2) (v := ?v38) rfl (by kernel_rfl) (by kernel_rfl) (by kernel_rfl) (fun _ _ _ h => h) (Or.inl ⟨by rfl, ?hy38⟩) (by assumption) ?rest38
  case hy38 =>
    intro w hSw
    (obtain ⟨⟨q0, q1, q2, q3, q4⟩, q5⟩ := hSw; go_simp; try with_reducible rfl)
  try simp only [Act.put, List.setIfInBounds_toArray, List.set_cons_zero, List.set_cons_succ, List.getElem_toArray, List.getElem_cons_succ, List.getElem_cons_zero]
  refine wpAnyH_take (i := 3) (v := ?v39) rfl (by kernel_rfl) (by kernel_rfl) (by kernel_rfl) (fun _ _ _ h => h) (Or.inl ⟨by rfl, ?hy39⟩) (by assumption) ?rest39
  case hy39 =>
    intro w hSw
    go_simp
    try with_reducible rfl
  try simp only [Act.put, List.setIfInBounds_toArray, List.set_cons_zero, List.set_cons_succ, List.getElem_toArray, List.getElem_cons_succ, List.getElem_cons_zero]
  refine wpAnyH_take (i := 4) (v := ?v40) rfl (by kernel_rfl) (by kernel_rfl) (by kernel_rfl) (fun _ _ _ h => h) (Or.inl ⟨by rfl, ?hy40⟩) (by assumption) ?rest40
  case hy40 =>
    intro w hSw
    (obtain ⟨⟨q0, q1, q2, q3, q4⟩, q5⟩ := hSw; go_simp; try with_reducible rfl)
  try simp only [Act.put, List.setIfInBounds_toArray, List.set_cons_zero, List.set_cons_succ, List.getElem_toArray, List.getElem_cons_succ, List.getElem_cons_zero]
  refine wpAnyH_take (i := 5) (v := ?v41) rfl (by kernel_rfl) (by kernel_rfl) (by kernel_rfl) (fun _ _ _ h => h) (Or.inl ⟨by rfl, ?hy41⟩) (by assumption) ?rest41
  case hy41 =>
    intro w hSw
    (obtain ⟨⟨q0, q1, q2, q3, q4⟩, q5⟩ := hSw; go_simp; try with_reducible rfl)
  try simp only [Act.put, List.setIfInBounds_toArray, List.set_cons_zero, List.set_cons_succ, List.getElem_toArray, List.getElem_cons_succ, List.getElem_cons_zero]
  refine wpAnyH_ready (rs := [6]) (by kernel_rfl) (by simp) ?_
  refine AllReadyH.cons rfl (fun K hK => ?_) AllReadyH.nil
  go_simp
  go_wp2_with fail; refine (unhide HC _ ((unhide HO).drew)).mono ?_; rintro e w3 ⟨rfl, o3d⟩; have o3 : Only (fun _ => False) wr w3 := ((Only.refl _ _).drew).trans o3d (fun _ _ e => e)
  refine hK.out _ _ (⟨⟨o3.cell d0 (fun e => e), o3.cell d1 (fun e => e), o3.cell d2 (fun e => e), o3.cell d3 (fun e => e), o3.cell d4 (fun e => e)⟩, o3.cell hR (fun e => e)⟩) (fun hHeld => ?_)
  clear hK K
  try simp only [Act.put, List.setIfInBounds_toArray, List.set_cons_zero, List.set_cons_succ, List.getElem_toArray, List.getElem_cons_succ, List.getElem_cons_zero]
  refine wpAnyH_take (i := 7) (v := ?v42) rfl (by kernel_rfl) (by kernel_rfl) (by kernel_rfl) (fun _ _ _ h => h) (Or.inl ⟨by rfl, ?hy42⟩) (by assumption) ?rest42
  case hy42 =>
    intro w hSw
    go_simp
    try with_reducible rfl
  try simp only [Act.put, List.setIfInBounds_toArray, List.set_cons_zero, List.set_cons_succ, List.getElem_toArray, List.getElem_cons_succ, List.getElem_cons_zero]
  refine wpAnyH_done (by kernel_rfl) ?_ _
  have HO3 := hide ((unhide HO).trans o3 (fun _ _ e => e))
  clear hHeld o3 o3d d0 d1 d2 d3 d4 hR HC
  go_wp2
  go_ret
  exact ⟨rfl, unhide HO3⟩

set_option maxHeartbeats 1000000 in
theorem fits_7 (t n : Int) (da : Option Addr) (dl dc : Nat) (ka : Option Addr) (kl kc : Nat) (B : Bool) (w : World) (ht : tagB t = true)
    (HC : Hid (∀ W, Only (fun _ => False) w W → Calls Tryd.prog 84 #[iv t 7 n da dl dc ka kl kc] W fun e w' => e = .returned (.bool B) ∧ Only (fun _ => False) W w')) :
    Calls Tryd.prog 67 #[iv t 7 n da dl dc ka kl kc] w fun e w' => e = .returned (.bool B) ∧ Only (fun _ => False) w w' := by
  obtain ⟨⟨c0, c1, c2, c3, c4⟩, oA⟩ := boxed w (.int .i64 t) (.int .i64 7) (.int .i64 n) (.slice da dl dc) (.slice ka kl kc)
  have HT := hide (fun W => isTag_any t W)
  have HY := hide (fun W => isType_any 7 W)
  rw [ht] at HT
  rw [show typB 7 = true by decide] at HY
  clear ht
  unfold iv at HC ⊢
  generalize hw1 : w.alloc (.cells #[.int .i64 t, .int .i64 7, .int .i64 n, .slice da dl dc, .slice ka kl kc] 25) = w1 at *
  have hsz : w1.heap.size = w.heap.size + 1 := by rw [← hw1]; simp
  have oR : Only (fun _ => False) w1 (w1.alloc (.cells #[Value.nilFunc, Value.func (Fn.func 89) #[] #[], Value.func (Fn.func 90) #[] #[], Value.func (Fn.func 91) #[] #[], Value.func (Fn.func 82) #[] #[], Value.func (Fn.func 92) #[] #[], Value.func (Fn.func 83) #[] #[], Value.func (Fn.func 84) #[] #[], Value.func (Fn.func 93) #[] #[], Value.func (Fn.func 91) #[] #[], Value.func (Fn.func 92) #[] #[]] 36)) := (Only.refl _ _).alloc _
  have hR : (w1.alloc (.cells #[Value.nilFunc, Value.func (Fn.func 89) #[] #[], Value.func (Fn.func 90) #[] #[], Value.func (Fn.func 91) #[] #[], Value.func (Fn.func 82) #[] #[], Value.func (Fn.func 92) #[] #[], Value.func (Fn.func 83) #[] #[], Value.func (Fn.func 84) #[] #[], Value.func (Fn.func 93) #[] #[], Value.func (Fn.func 91) #[] #[], Value.func (Fn.func 92) #[] #[]] 36)).cell? ⟨w.heap.size + 1, 7, none⟩ = some (Value.func (Fn.func 84) #[] #[]) := by
    have hb := heap_alloc_new w1 (.cells #[Value.nilFunc, Value.func (Fn.func 89) #[] #[], Value.func (Fn.func 90) #[] #[], Value.func (Fn.func 91) #[] #[], Value.func (Fn.func 82) #[] #[], Value.func (Fn.func 92) #[] #[], Value.func (Fn.func 83) #[] #[], Value.func (Fn.func 84) #[] #[], Value.func (Fn.func 93) #[] #[], Value.func (Fn.func 91) #[] #[], Value.func (Fn.func 92) #[] #[]] 36)
    rw [hsz] at hb
    simp [World.cell?, hb]
  subst hw1
  have d0 := oR.cell c0 (fun e => e)
  have d1 := oR.cell c1 (fun e => e)
  have d2 := oR.cell c2 (fun e => e)
  have d3 := oR.cell c3 (fun e => e)
  have d4 := oR.cell c4 (fun e => e)
  have HO := hide (oA.trans oR (fun _ _ e => e))
  clear oA oR hsz
  go_enter Tryd.func67, Tryd.ntmps67
  go_wp2_with fail
  refine (unhide HT _).mono ?_
  rintro e w1 ⟨rfl, rfl⟩
  go_wp2_with fail
  refine (unhide HY _).mono ?_
  rintro e w1 ⟨rfl, rfl⟩
  go_wp2_with fail
  clear c0 c1 c2 c3 c4 HT HY
  generalize (w.alloc (.cells #[.int .i64 t, .int .i64 7, .int .i64 n, .slice da dl dc, .slice ka kl kc] 25)).alloc (.cells #[Value.nilFunc, Value.func (Fn.func 89) #[] #[], Value.func (Fn.func 90) #[] #[], Value.func (Fn.func 91) #[] #[], Value.func (Fn.func 82) #[] #[], Value.func (Fn.func 92) #[] #[], Value.func (Fn.func 83) #[] #[], Value.func (Fn.func 84) #[] #[], Value.func (Fn.func 93) #[] #[], Value.func (Fn.func 91) #[] #[], Value.func (Fn.func 92) #[] #[]] 36) = wr at *
  refine wp_region_held_drew (S := (fun w' => (w'.cell? ⟨w.heap.size, 0, none⟩ = some (.int .i64 t) ∧ w'.cell? ⟨w.heap.size, 1, none⟩ = some (.int .i64 7) ∧ w'.cell? ⟨w.heap.size, 2, none⟩ = some (.int .i64 n) ∧ w'.cell? ⟨w.heap.size, 3, none⟩ = some (.slice da dl dc) ∧ w'.cell? ⟨w.heap.size, 4, none⟩ = some (.slice ka kl kc)) ∧ w'.cell? ⟨w.heap.size + 1, 7, none⟩ = some (Value.func (Fn.func 84) #[] #[]))) (by kernel_rfl) (⟨⟨d0, d1, d2, d3, d4⟩, hR⟩) (fun hHeld => ?_)
  refine wpAnyH_take (i := 0) (v := ?v43) rfl (by kernel_rfl) (by kernel_rfl) (by kernel_rfl) (fun _ _ _ h => h) (Or.inl ⟨by rfl, ?hy43⟩) (by assumption) ?rest43
  case hy43 =>
    intro w hSw
    go_simp
    try with_reducible rfl
  try simp only [Act.put, List.setIfInBounds_toArray, List.set_cons_zero, List.set_cons_succ, List.getElem_toArray, List.getElem_cons_succ, List.getElem_cons_zero]
  refine wpAnyH_take (i := 1) (v := ?v44) rfl (by kernel_rfl) (by kernel_rfl) (by kernel_rfl) (fun _ _ _ h => h) (Or.inl ⟨by rfl, ?hy44⟩) (by assumption) ?rest44
  case hy44 =>
    intro w hSw
    go_simp
    try with_reducible rfl
  try simp only [Act.put, List.setIfInBounds_toArray, List.set_cons_zero, List.set_cons_succ, List.getElem_toArray, List.getElem_cons_succ, List.getElem_cons_zero]
  refine wpAnyH_take (i := 2) (v := ?v45) rfl (by kernel_rfl) (by kernel_rfl) (by kernel_rfl) (fun _ _ _ h => h) (Or.inl ⟨by rfl, ?hy45⟩) (by assumption) ?rest45
  case hy45 =>
    intro w hSw
    (obtain ⟨⟨q0, q1, q2, q3, q4⟩, q5⟩ := hSw; go_simp; try with_reducible rfl)
  try simp only [Act.put, List.setIfInBounds_toArray, List.set_cons_zero, List.set_cons_succ, List.getElem_toArray, List.getElem_cons_succ, List.getElem_cons_zero]
  refine wpAnyH_take (i := 3) (v := ?v46) rfl (by kernel_rfl) (by kernel_rfl) (by kernel_rfl) (fun _ _ _ h => h) (Or.inl ⟨by rfl, ?hy46⟩) (by assumption) ?rest46
  case hy46 =>
    intro w hSw
    go_simp
    try with_reducible rfl
  try simp only [Act.put, List.setIfInBounds_toArray, List.set_cons_zero, List.set_cons_succ, List.getElem_toArray, List.getElem_cons_succ, List.getElem_cons_zero]
  refine wpAnyH_take (i := 4) (v := ?v47) rfl (by kernel_rfl) (by kernel_rfl) (by kernel_rfl) (fun _ _ _ h => h) (Or.inl ⟨by rfl, ?hy47⟩) (by assumption) ?rest47
  case hy47 =>
    intro w hSw
    (obtain ⟨⟨q0, q1, q2, q3, q4⟩, q5⟩ := hSw; go_simp; try with_reducible rfl)
  try simp only [Act.put, List.setIfInBounds_toArray, List.set_cons_zero, List.set_cons_succ, List.getElem_toArray, List.getElem_cons_succ, List.getElem_cons_zero]
  refine wpAnyH_take (i := 5) (v := ?v48) rfl (by kernel_rfl) (by kernel_rfl) (by kernel_rfl) (fun _ _ _ h => h) (Or.inl ⟨by rfl, ?hy48⟩) (by assumption) ?rest48
  case hy48 =>
    intro w hSw
    (obtain ⟨⟨q0, q1, q2, q3, q4⟩, q5⟩ := hSw; go_simp; try with_reducible rfl)
  try simp only [Act.put, List.setIfInBounds_toArray, List.set_cons_zero, List.set_cons_succ, List.getElem_toArray, List.getElem_cons_succ, List.getElem_cons_zero]
  refine wpAnyH_ready (rs := [6]) (by kernel_rfl) (by simp) ?_
  refine AllReadyH.cons rfl (fun K hK => ?_) AllReadyH.nil
  go_simp
  go_wp2_with fail; refine (unhide HC _ ((unhide HO).drew)).mono ?_; rintro e w3 ⟨rfl, o3d⟩; have o3 : Only (fun _ => False) wr w3 := ((Only.refl _ _).drew).trans o3d (fun _ _ e => e)
  refine hK.out _ _ (⟨⟨o3.cell d0 (fun e => e), o3.cell d1 (fun e => e), o3.cell d2 (fun e => e), o3.cell d3 (fun e => e), o3.cell d4 (fun e => e)⟩, o3.cell hR (fun e => e)⟩) (fun hHeld => ?_)
  clear hK K
  try simp only [Act.put, List.setIfInBounds_toArray, List.set_cons_zero, List.set_cons_succ, List.getElem_toArray, List.getElem_cons_succ, List.getElem_cons_zero]
  refine wpAnyH_take (i := 7) (v := ?v49) rfl (by kernel_rfl) (by kernel_rfl) (by kernel_rfl) (fun _ _ _ h => h) (Or.inl ⟨by rfl, ?hy49⟩) (by assumption) ?rest49
  case hy49 =>
    intro w hSw
    go_simp
    try with_reducible rfl
  try simp only [Act.put, List.setIfInBounds_toArray, List.set_cons_zero, List.set_cons_succ, List.getElem_toArray, List.getElem_cons_succ, List.getElem_cons_zero]
  refine wpAnyH_done (by kernel_rfl) ?_ _
  have HO3 := hide ((unhide HO).trans o3 (fun _ _ e => e))
  clear hHeld o3 o3d d0 d1 d2 d3 d4 hR HC
  go_wp2
  go_ret
  exact ⟨rfl, unhide HO3⟩

set_option maxHeartbeats 1000000 in
theorem fits_8 (t n : Int) (da : Option Addr) (dl dc : Nat) (ka : Option Addr) (kl kc : Nat) (B : Bool) (w : World) (ht : tagB t = true)
    (HC : Hid (∀ W, Only (fun _ => False) w W → Calls Tryd.prog 93 #[iv t 8 n da dl dc ka kl kc] W fun e w' => e = .returned (.bool B) ∧ Only (fun _ => False) W w')) :
    Calls Tryd.prog 67 #[iv t 8 n da dl dc ka kl kc] w fun e w' => e = .returned (.bool B) ∧ Only (fun _ => False) w w' := by
  obtain ⟨⟨c0, c1, c2, c3, c4⟩, oA⟩ := boxed w (.int .i64 t) (.int .i64 8) (.int .i64 n) (.slice da dl dc) (.slice ka kl kc)
  have HT := hide (fun W => isTag_any t W)
  have HY := hide (fun W => isType_any 8 W)
  rw [ht] at HT
  rw [show typB 8 = true by decide] at HY
  clear ht
  unfold iv at HC ⊢
  generalize hw1 : w.alloc (.cells #[.int .i64 t, .int .i64 8, .int .i64 n, .slice da dl dc, .slice ka kl kc] 25) = w1 at *
  have hsz : w1.heap.size = w.heap.size + 1 := by rw [← hw1]; simp
  have oR : Only (fun _ => False) w1 (w1.alloc (.cells #[Value.nilFunc, Value.func (Fn.func 89) #[] #[], Value.func (Fn.func 90) #[] #[], Value.func (Fn.func 91) #[] #[], Value.func (Fn.func 82) #[] #[], Value.func (Fn.func 92) #[] #[], Value.func (Fn.func 83) #[] #[], Value.func (Fn.func 84) #[] #[], Value.func (Fn.func 93) #[] #[], Value.func (Fn.func 91) #[] #[], Value.func (Fn.func 92) #[] #[]] 36)) := (Only.refl _ _).alloc _
  have hR : (w1.alloc (.cells #[Value.nilFunc, Value.func (Fn.func 89) #[] #[], Value.func (Fn.func 90) #[] #[], Value.func (Fn.func 91) #[] #[], Value.func (Fn.func 82) #[] #[], Value.func (Fn.func 92) #[] #[], Value.func (Fn.func 83) #[] #[], Value.func (Fn.func 84) #[] #[], Value.func (Fn.func 93) #[] #[], Value.func (Fn.func 91) #[] #[], Value.func (Fn.func 92) #[] #[]] 36)).cell? ⟨w.heap.size + 1, 8, none⟩ = some (Value.func (Fn.func 93) #[] #[]) := by
    have hb := heap_alloc_new w1 (.cells #[Value.nilFunc, Value.func (Fn.func 89) #[] #[], Value.func (Fn.func 90) #[] #[], Value.func (Fn.func 91) #[] #[], Value.func (Fn.func 82) #[] #[], Value.func (Fn.func 92) #[] #[], Value.func (Fn.func 83) #[] #[], Value.func (Fn.func 84) #[] #[], Value.func (Fn.func 93) #[] #[], Value.func (Fn.func 91) #[] #[], Value.func (Fn.func 92) #[] #[]] 36)
    rw [hsz] at hb
    simp [World.cell?, hb]
  subst hw1
  have d0 := oR.cell c0 (fun e => e)
  have d1 := oR.cell c1 (fun e => e)
  have d2 := oR.cell c2 (fun e => e)
  have d3 := oR.cell c3 (fun e => e)
  have d4 := oR.cell c4 (fun e => e)
  have HO := hide (oA.trans oR (fun _ _ e => e))
  clear oA oR hsz
  go_enter Tryd.func67, Tryd.ntmps67
  go_wp2_with fail
  refine (unhide HT _).mono ?_
  rintro e w1 ⟨rfl, rfl⟩
  go_wp2_with fail
  refine (unhide HY _).mono ?_
  rintro e w1 ⟨rfl, rfl⟩
  go_wp2_with fail
  clear c0 c1 c2 c3 c4 HT HY
  generalize (w.alloc (.cells #[.int .i64 t, .int .i64 8, .int .i64 n, .slice da dl dc, .slice ka kl kc] 25)).alloc (.cells #[Value.nilFunc, Value.func (Fn.func 89) #[] #[], Value.func (Fn.func 90) #[] #[], Value.func (Fn.func 91) #[] #[], Value.func (Fn.func 82) #[] #[], Value.func (Fn.func 92) #[] #[], Value.func (Fn.func 83) #[] #[], Value.func (Fn.func 84) #[] #[], Value.func (Fn.func 93) #[] #[], Value.func (Fn.func 91) #[] #[], Value.func (Fn.func 92) #[] #[]] 36) = wr at *
  refine wp_region_held_drew (S := (fun w' => (w'.cell? ⟨w.heap.size, 0, none⟩ = some (.int .i64 t) ∧ w'.cell? ⟨w.heap.size, 1, none⟩ = some (.int .i64 8) ∧ w'.cell? ⟨w.heap.size, 2, none⟩ = some (.int .i64 n) ∧ w'.cell? ⟨w.heap.size, 3, none⟩ = some (.slice da dl dc) ∧ w'.cell? ⟨w.heap.size, 4, none⟩ = some (.slice ka kl kc)) ∧ w'.cell? ⟨w.heap.size + 1, 8, none⟩ = some (Value.func (Fn.func 93) #[] #[]))) (by kernel_rfl) (⟨⟨d0, d1, d2, d3, d4⟩, hR⟩) (fun hHeld => ?_)
  refine wpAnyH_take (i := 0) (v := ?v50) rfl (by kernel_rfl) (by kernel_rfl) (by kernel_rfl) (fun _ _ _ h => h) (Or.inl ⟨by rfl, ?hy50⟩) (by assumption) ?rest50
  case hy50 =>
    intro w hSw
    go_simp
    try with_reducible rfl
  try simp only [Act.put, List.setIfInBounds_toArray, List.set_cons_zero, List.set_cons_succ, List.getElem_toArray, List.getElem_cons_succ, List.getElem_cons_zero]
  refine wpAnyH_take (i := 1) (v := ?v51) rfl (by kernel_rfl) (by kernel_rfl) (by kernel_rfl) (fun _ _ _ h => h) (Or.inl ⟨by rfl, ?hy51⟩) (by assumption) ?rest51
  case hy51 =>
    intro w hSw
    go_simp
    try with_reducible rfl
  try simp only [Act.put, List.setIfInBounds_toArray, List.set_cons_zero, List.set_cons_succ, List.getElem_toArray, List.getElem_cons_succ, List.getElem_cons_zero]
  refine wpAnyH_take (i := 2) (v := ?v52) rfl (by kernel_rfl) (by kernel_rfl) (by kernel_rfl) (fun _ _ _ h => h) (Or.inl ⟨by rfl, ?hy52⟩) (by assumption) ?rest52
  case hy52 =>
    intro w hSw
    (obtain ⟨⟨q0, q1, q2, q3, q4⟩, q5⟩ := hSw; go_simp; try with_reducible rfl)
  try simp only [Act.put, List.setIfInBounds_toArray, List.set_cons_zero, List.set_cons_succ, List.getElem_toArray, List.getElem_cons_succ, List.getElem_cons_zero]
  refine wpAnyH_take (i := 3) (v := ?v53) rfl (by kernel_rfl) (by kernel_rfl) (by kernel_rfl) (fun _ _ _ h => h) (Or.inl ⟨by rfl, ?hy53⟩) (by assumption) ?rest53
  case hy53 =>
    intro w hSw
    go_simp
    try with_reducible rfl
  try simp only [Act.put, List.setIfInBounds_toArray, List.set_cons_zero, List.set_cons_succ, List.getElem_toArray, List.getElem_cons_succ, List.getElem_cons_zero]
  refine wpAnyH_take (i := 4) (v := ?v54) rfl (by kernel_rfl) (by kernel_rfl) (by kernel_rfl) (fun _ _ _ h => h) (Or.inl ⟨by rfl, ?hy54⟩) (by assumption) ?rest54
  case hy54 =>
    intro w hSw
    (obtain ⟨⟨q0, q1, q2, q3, q4⟩, q5⟩ := hSw; go_simp; try with_reducible rfl)
  try simp only [Act.put, List.setIfInBounds_toArray, List.set_cons_zero, List.set_cons_succ, List.getElem_toArray, List.getElem_cons_succ, List.getElem_cons_zero]
  refine wpAnyH_take (i := 5) (v := ?v55) rfl (by kernel_rfl) (by kernel_rfl) (by kernel_rfl) (fun _ _ _ h => h) (Or.inl ⟨by rfl, ?hy55⟩) (by assumption) ?rest55
  case hy55 =>
    intro w hSw
    (obtain ⟨⟨q0, q1, q2, q3, q4⟩, q5⟩ := hSw; go_simp; try with_reducible rfl)
  try simp only [Act.put, List.setIfInBounds_toArray, List.set_cons_zero, List.set_cons_succ, List.getElem_toArray, List.getElem_cons_succ, List.getElem_cons_zero]
  refine wpAnyH_ready (rs := [6]) (by kernel_rfl) (by simp) ?_
  refine AllReadyH.cons rfl (fun K hK => ?_) AllReadyH.nil
  go_simp
  go_wp2_with fail; refine (unhide HC _ ((unhide HO).drew)).mono ?_; rintro e w3 ⟨rfl, o3d⟩; have o3 : Only (fun _ => False) wr w3 := ((Only.refl _ _).drew).trans o3d (fun _ _ e => e)
  refine hK.out _ _ (⟨⟨o3.cell d0 (fun e => e), o3.cell d1 (fun e => e), o3.cell d2 (fun e => e), o3.cell d3 (fun e => e), o3.cell d4 (fun e => e)⟩, o3.cell hR (fun e => e)⟩) (fun hHeld => ?_)
  clear hK K
  try simp only [Act.put, List.setIfInBounds_toArray, List.set_cons_zero, List.set_cons_succ, List.getElem_toArray, List.getElem_cons_succ, List.getElem_cons_zero]
  refine wpAnyH_take (i := 7) (v := ?v56) rfl (by kernel_rfl) (by kernel_rfl) (by kernel_rfl) (fun _ _ _ h => h) (Or.inl ⟨by rfl, ?hy56⟩) (by assumption) ?rest56
  case hy56 =>
    intro w hSw
    go_simp
    try with_reducible rfl
  try simp only [Act.put, List.setIfInBounds_toArray, List.set_cons_zero, List.set_cons_succ, List.getElem_toArray, List.getElem_cons_succ, List.getElem_cons_zero]
  refine wpAnyH_done (by kernel_rfl) ?_ _
  have HO3 := hide ((unhide HO).trans o3 (fun _ _ e => e))
  clear hHeld o3 o3d d0 d1 d2 d3 d4 hR HC
  go_wp2
  go_ret
  exact ⟨rfl, unhide HO3⟩

set_option maxHeartbeats 1000000 in
theorem fits_9 (t n : Int) (da : Option Addr) (dl dc : Nat) (ka : Option Addr) (kl kc : Nat) (B : Bool) (w : World) (ht : tagB t = true)
    (HC : Hid (∀ W, Only (fun _ => False) w W → Calls Tryd.prog 91 #[iv t 9 n da dl dc ka kl kc] W fun e w' => e = .returned (.bool B) ∧ Only (fun _ => False) W w')) :
    Calls Tryd.prog 67 #[iv t 9 n da dl dc ka kl kc] w fun e w' => e = .returned (.bool B) ∧ Only (fun _ => False) w w' := by
  obtain ⟨⟨c0, c1, c2, c3, c4⟩, oA⟩ := boxed w (.int .i64 t) (.int .i64 9) (.int .i64 n) (.slice da dl dc) (.slice ka kl kc)
  have HT := hide (fun W => isTag_any t W)
  have HY := hide (fun W => isType_any 9 W)
  rw [ht] at HT
  rw [show typB 9 = true by decide] at HY
  clear ht
  unfold iv at HC ⊢
  generalize hw1 : w.alloc (.cells #[.int .i64 t, .int .i64 9, .int .i64 n, .slice da dl dc, .slice ka kl kc] 25) = w1 at *
  have hsz : w1.heap.size = w.heap.size + 1 := by rw [← hw1]; simp
  have oR : Only (fun _ => False) w1 (w1.alloc (.cells #[Value.nilFunc, Value.func (Fn.func 89) #[] #[], Value.func (Fn.func 90) #[] #[], Value.func (Fn.func 91) #[] #[], Value.func (Fn.func 82) #[] #[], Value.func (Fn.func 92) #[] #[], Value.func (Fn.func 83) #[] #[], Value.func (Fn.func 84) #[] #[], Value.func (Fn.func 93) #[] #[], Value.func (Fn.func 91) #[] #[], Value.func (Fn.func 92) #[] #[]] 36)) := (Only.refl _ _).alloc _
  have hR : (w1.alloc (.cells #[Value.nilFunc, Value.func (Fn.func 89) #[] #[], Value.func (Fn.func 90) #[] #[], Value.func (Fn.func 91) #[] #[], Value.func (Fn.func 82) #[] #[], Value.func (Fn.func 92) #[] #[], Value.func (Fn.func 83) #[] #[], Value.func (Fn.func 84) #[] #[], Value.func (Fn.func 93) #[] #[], Value.func (Fn.func 91) #[] #[], Value.func (Fn.func 92) #[] #[]] 36)).cell? ⟨w.heap.size + 1, 9, none⟩ = some (Value.func (Fn.func 91) #[] #[]) := by
    have hb := heap_alloc_new w1 (.cells #[Value.nilFunc, Value.func (Fn.func 89) #[] #[], Value.func (Fn.func 90) #[] #[], Value.func (Fn.func 91) #[] #[], Value.func (Fn.func 82) #[] #[], Value.func (Fn.func 92) #[] #[], Value.func (Fn.func 83) #[] #[], Value.func (Fn.func 84) #[] #[], Value.func (Fn.func 93) #[] #[], Value.func (Fn.func 91) #[] #[], Value.func (Fn.func 92) #[] #[]] 36)
    rw [hsz] at hb
    simp [World.cell?, hb]
  subst hw1
  have d0 := oR.cell c0 (fun e => e)
  have d1 := oR.cell c1 (fun e => e)
  have d2 := oR.cell c2 (fun e => e)
  have d3 := oR.cell c3 (fun e => e)
  have d4 := oR.cell c4 (fun e => e)
  have HO := hide (oA.trans oR (fun _ _ e => e))
  clear oA oR hsz
  go_enter Tryd.func67, Tryd.ntmps67
  go_wp2_with fail
  refine (unhide HT _).mono ?_
  rintro e w1 ⟨rfl, rfl⟩
  go_wp2_with fail
  refine (unhide HY _).mono ?_
  rintro e w1 ⟨rfl, rfl⟩
  go_wp2_with fail
  clear c0 c1 c2 c3 c4 HT HY
  generalize (w.alloc (.cells #[.int .i64 t, .int .i64 9, .int .i64 n, .slice da dl dc, .slice ka kl kc] 25)).alloc (.cells #[Value.nilFunc, Value.func (Fn.func 89) #[] #[], Value.func (Fn.func 90) #[] #[], Value.func (Fn.func 91) #[] #[], Value.func (Fn.func 82) #[] #[], Value.func (Fn.func 92) #[] #[], Value.func (Fn.func 83) #[] #[], Value.func (Fn.func 84) #[] #[], Value.func (Fn.func 93) #[] #[], Value.func (Fn.func 91) #[] #[], Value.func (Fn.func 92) #[] #[]] 36) = wr at *
  refine wp_region_held_drew (S := (fun w' => (w'.cell? ⟨w.heap.size, 0, none⟩ = some (.int .i64 t) ∧ w'.cell? ⟨w.heap.size, 1, none⟩ = some (.int .i64 9) ∧ w'.cell? ⟨w.heap.size, 2, none⟩ = some (.int .i64 n) ∧ w'.cell? ⟨w.heap.size, 3, none⟩ = some (.slice da dl dc) ∧ w'.cell? ⟨w.heap.size, 4, none⟩ = some (.slice ka kl kc)) ∧ w'.cell? ⟨w.heap.size + 1, 9, none⟩ = some (Value.func (Fn.func 91) #[] #[]))) (by kernel_rfl) (⟨⟨d0, d1, d2, d3, d4⟩, hR⟩) (fun hHeld => ?_)
  refine wpAnyH_take (i := 0) (v := ?v57) rfl (by kernel_rfl) (by kernel_rfl) (by kernel_rfl) (fun _ _ _ h => h) (Or.inl ⟨by rfl, ?hy57⟩) (by assumption) ?rest57
  case hy57 =>
    intro w hSw
    go_simp
    try with_reducible rfl
  try simp only [Act.put, List.setIfInBounds_toArray, List.set_cons_zero, List.set_cons_succ, List.getElem_toArray, List.getElem_cons_succ, List.getElem_cons_zero]
  refine wpAnyH_take (i := 1) (v := ?v58) rfl (by kernel_rfl) (by kernel_rfl) (by kernel_rfl) (fun _ _ _ h => h) (Or.inl ⟨by rfl, ?hy58⟩) (by assumption) ?rest58
  case hy58 =>
    intro w hSw
    go_simp
    try with_reducible rfl
  try simp only [Act.put, List.setIfInBounds_toArray, List.set_cons_zero, List.set_cons_succ, List.getElem_toArray, List.getElem_cons_succ, List.getElem_cons_zero]
  refine wpAnyH_take (i := 2) (v := ?v59) rfl (by kernel_rfl) (by kernel_rfl) (by kernel_rfl) (fun _ _ _ h => h) (Or.inl ⟨by rfl, ?hy59⟩) (by assumption) ?rest59
  case hy59 =>
    intro w hSw
    (obtain ⟨⟨q0, q1, q2, q3, q4⟩, q5⟩ := hSw; go_simp; try with_reducible rfl)
  try simp only [Act.put, List.setIfInBounds_toArray, List.set_cons_zero, List.set_cons_succ, List.getElem_toArray, List.getElem_cons_succ, List.getElem_cons_zero]
  refine wpAnyH_take (i := 3) (v := ?v60) rfl (by kernel_rfl) (by kernel_rfl) (by kernel_rfl) (fun _ _ _ h => h) (Or.inl ⟨by rfl, ?hy60⟩) (by assumption) ?rest60
  case hy60 =>
    intro w hSw
    go_simp
    try with_reducible rfl
  try simp only [Act.put, List.setIfInBounds_toArray, List.set_cons_zero, List.set_cons_succ, List.getElem_toArray, List.getElem_cons_succ, List.getElem_cons_zero]
  refine wpAnyH_take (i := 4) (v := ?v61) rfl (by kernel_rfl) (by kernel_rfl) (by kernel_rfl) (fun _ _ _ h => h) (Or.inl ⟨by rfl, ?hy61⟩) (by assumption) ?rest61
  case hy61 =>
    intro w hSw
    (obtain ⟨⟨q0, q1, q2, q3, q4⟩, q5⟩ := hSw; go_simp; try with_reducible rfl)
  try simp only [Act.put, List.setIfInBounds_toArray, List.set_cons_zero, List.set_cons_succ, List.getElem_toArray, List.getElem_cons_succ, List.getElem_cons_zero]
  refine wpAnyH_take (i := 5) (v := ?v62) rfl (by kernel_rfl) (by kernel_rfl) (by kernel_rfl) (fun _ _ _ h => h) (Or.inl ⟨by rfl, ?hy62⟩) (by assumption) ?rest62
  case hy62 =>
    intro w hSw
    (obtain ⟨⟨q0, q1, q2, q3, q4⟩, q5⟩ := hSw; go_simp; try with_reducible rfl)
  try simp only [Act.put, List.setIfInBounds_toArray, List.set_cons_zero, List.set_cons_succ, List.getElem_toArray, List.getElem_cons_succ, List.getElem_cons_zero]
  refine wpAnyH_ready (rs := [6]) (by kernel_rfl) (by simp) ?_
  refine AllReadyH.cons rfl (fun K hK => ?_) AllReadyH.nil
  go_simp
  go_wp2_with fail; refine (unhide HC _ ((unhide HO).drew)).mono ?_; rintro e w3 ⟨rfl, o3d⟩; have o3 : Only (fun _ => False) wr w3 := ((Only.refl _ _).drew).trans o3d (fun _ _ e => e)
  refine hK.out _ _ (⟨⟨o3.cell d0 (fun e => e), o3.cell d1 (fun e => e), o3.cell d2 (fun e => e), o3.cell d3 (fun e => e), o3.cell d4 (fun e => e)⟩, o3.cell hR (fun e => e)⟩) (fun hHeld => ?_)
  clear hK K
  try simp only [Act.put, List.setIfInBounds_toArray, List.set_cons_zero, List.set_cons_succ, List.getElem_toArray, List.getElem_cons_succ, List.getElem_cons_zero]
  refine wpAnyH_take (i := 7) (v := ?v63) rfl (by kernel_rfl) (by kernel_rfl) (by kernel_rfl) (fun _ _ _ h => h) (Or.inl ⟨by rfl, ?hy63⟩) (by assumption) ?rest63
  case hy63 =>
    intro w hSw
    go_simp
    try with_reducible rfl
  try simp only [Act.put, List.setIfInBounds_toArray, List.set_cons_zero, List.set_cons_succ, List.getElem_toArray, List.getElem_cons_succ, List.getElem_cons_zero]
  refine wpAnyH_done (by kernel_rfl) ?_ _
  have HO3 := hide ((unhide HO).trans o3 (fun _ _ e => e))
  clear hHeld o3 o3d d0 d1 d2 d3 d4 hR HC
  go_wp2
  go_ret
  exact ⟨rfl, unhide HO3⟩

set_option maxHeartbeats 1000000 in
theorem fits_10 (t n : Int) (da : Option Addr) (dl dc : Nat) (ka : Option Addr) (kl kc : Nat) (B : Bool) (w : World) (ht : tagB t = true)
    (HC : Hid (∀ W, Only (fun _ => False) w W → Calls Tryd.prog 92 #[iv t 10 n da dl dc ka kl kc] W fun e w' => e = .returned (.bool B) ∧ Only (fun _ => False) W w')) :
    Calls Tryd.prog 67 #[iv t 10 n da dl dc ka kl kc] w fun e w' => e = .returned (.bool B) ∧ Only (fun _ => False) w w' := by
  obtain ⟨⟨c0, c1, c2, c3, c4⟩, oA⟩ := boxed w (.int .i64 t) (.int .i64 10) (.int .i64 n) (.slice da dl dc) (.slice ka kl kc)
  have HT := hide (fun W => isTag_any t W)
  have HY := hide (fun W => isType_any 10 W)
  rw [ht] at HT
  rw [show typB 10 = true by decide] at HY
  clear ht
  unfold iv at HC ⊢
  generalize hw1 : w.alloc (.cells #[.int .i64 t, .int .i64 10, .int .i64 n, .slice da dl dc, .slice ka kl kc] 25) = w1 at *
  have hsz : w1.heap.size = w.heap.size + 1 := by rw [← hw1]; simp
  have oR : Only (fun _ => False) w1 (w1.alloc (.cells #[Value.nilFunc, Value.func (Fn.func 89) #[] #[], Value.func (Fn.func 90) #[] #[], Value.func (Fn.func 91) #[] #[], Value.func (Fn.func 82) #[] #[], Value.func (Fn.func 92) #[] #[], Value.func (Fn.func 83) #[] #[], Value.func (Fn.func 84) #[] #[], Value.func (Fn.func 93) #[] #[], Value.func (Fn.func 91) #[] #[], Value.func (Fn.func 92) #[] #[]] 36)) := (Only.refl _ _).alloc _
  have hR : (w1.alloc (.cells #[Value.nilFunc, Value.func (Fn.func 89) #[] #[], Value.func (Fn.func 90) #[] #[], Value.func (Fn.func 91) #[] #[], Value.func (Fn.func 82) #[] #[], Value.func (Fn.func 92) #[] #[], Value.func (Fn.func 83) #[] #[], Value.func (Fn.func 84) #[] #[], Value.func (Fn.func 93) #[] #[], Value.func (Fn.func 91) #[] #[], Value.func (Fn.func 92) #[] #[]] 36)).cell? ⟨w.heap.size + 1, 10, none⟩ = some (Value.func (Fn.func 92) #[] #[]) := by
    have hb := heap_alloc_new w1 (.cells #[Value.nilFunc, Value.func (Fn.func 89) #[] #[], Value.func (Fn.func 90) #[] #[], Value.func (Fn.func 91) #[] #[], Value.func (Fn.func 82) #[] #[], Value.func (Fn.func 92) #[] #[], Value.func (Fn.func 83) #[] #[], Value.func (Fn.func 84) #[] #[], Value.func (Fn.func 93) #[] #[], Value.func (Fn.func 91) #[] #[], Value.func (Fn.func 92) #[] #[]] 36)
    rw [hsz] at hb
    simp [World.cell?, hb]
  subst hw1
  have d0 := oR.cell c0 (fun e => e)
  have d1 := oR.cell c1 (fun e => e)
  have d2 := oR.cell c2 (fun e => e)
  have d3 := oR.cell c3 (fun e => e)
  have d4 := oR.cell c4 (fun e => e)
  have HO := hide (oA.trans oR (fun _ _ e => e))
  clear oA oR hsz
  go_enter Tryd.func67, Tryd.ntmps67
  go_wp2_with fail
  refine (unhide HT _).mono ?_
  rintro e w1 ⟨rfl, rfl⟩
  go_wp2_with fail
  refine (unhide HY _).mono ?_
  rintro e w1 ⟨rfl, rfl⟩
  go_wp2_with fail
  clear c0 c1 c2 c3 c4 HT HY
  generalize (w.alloc (.cells #[.int .i64 t, .int .i64 10, .int .i64 n, .slice da dl dc, .slice ka kl kc] 25)).alloc (.cells #[Value.nilFunc, Value.func (Fn.func 89) #[] #[], Value.func (Fn.func 90) #[] #[], Value.func (Fn.func 91) #[] #[], Value.func (Fn.func 82) #[] #[], Value.func (Fn.func 92) #[] #[], Value.func (Fn.func 83) #[] #[], Value.func (Fn.func 84) #[] #[], Value.func (Fn.func 93) #[] #[], Value.func (Fn.func 91) #[] #[], Value.func (Fn.func 92) #[] #[]] 36) = wr at *
  refine wp_region_held_drew (S := (fun w' => (w'.cell? ⟨w.heap.size, 0, none⟩ = some (.int .i64 t) ∧ w'.cell? ⟨w.heap.size, 1, none⟩ = some (.int .i64 10) ∧ w'.cell? ⟨w.heap.size, 2, none⟩ = some (.int .i64 n) ∧ w'.cell? ⟨w.heap.size, 3, none⟩ = some (.slice da dl dc) ∧ w'.cell? ⟨w.heap.size, 4, none⟩ = some (.slice ka kl kc)) ∧ w'.cell? ⟨w.heap.size + 1, 10, none⟩ = some (Value.func (Fn.func 92) #[] #[]))) (by kernel_rfl) (⟨⟨d0, d1, d2, d3, d4⟩, hR⟩) (fun hHeld => ?_)
  refine wpAnyH_take (i := 0) (v := ?v64) rfl (by kernel_rfl) (by kernel_rfl) (by kernel_rfl) (fun _ _ _ h => h) (Or.inl ⟨by rfl, ?hy64⟩) (by assumption) ?rest64
  case hy64 =>
    intro w hSw
    go_simp
    try with_reducible rfl
  try simp only [Act.put, List.setIfInBounds_toArray, List.set_cons_zero, List.set_cons_succ, List.getElem_toArray, List.getElem_cons_succ, List.getElem_cons_zero]
  refine wpAnyH_take (i := 1) (v := ?v65) rfl (by kernel_rfl) (by kernel_rfl) (by kernel_rfl) (fun _ _ _ h => h) (Or.inl ⟨by rfl, ?hy65⟩) (by assumption) ?rest65
  case hy65 =>
    intro w hSw
    go_simp
    try with_reducible rfl
  try simp only [Act.put, List.setIfInBounds_toArray, List.set_cons_zero, List.set_cons_succ, List.getElem_toArray, List.getElem_cons_succ, List.getElem_cons_zero]
  refine wpAnyH_take (i := 2) (v := ?v66) rfl (by kernel_rfl) (by kernel_rfl) (by kernel_rfl) (fun _ _ _ h => h) (Or.inl ⟨by rfl, ?hy66⟩) (by assumption) ?rest66
  case hy66 =>
    intro w hSw
    (obtain ⟨⟨q0, q1, q2, q3, q4⟩, q5⟩ := hSw; go_simp; try with_reducible rfl)
  try simp only [Act.put, List.setIfInBounds_toArray, List.set_cons_zero, List.set_cons_succ, List.getElem_toArray, List.getElem_cons_succ, List.getElem_cons_zero]
  refine wpAnyH_take (i := 3) (v := ?v67) rfl (by kernel_rfl) (by kernel_rfl) (by kernel_rfl) (fun _ _ _ h => h) (Or.inl ⟨by rfl, ?hy67⟩) (by assumption) ?rest67
  case hy67 =>
    intro w hSw
    go_simp
    try with_reducible rfl
  try simp only [Act.put, List.setIfInBounds_toArray, List.set_cons_zero, List.set_cons_succ, List.getElem_toArray, List.getElem_cons_succ, List.getElem_cons_zero]
  refine wpAnyH_take (i := 4) (v := ?v68) rfl (by kernel_rfl) (by kernel_rfl) (by kernel_rfl) (fun _ _ _ h => h) (Or.inl ⟨by rfl, ?hy68⟩) (by assumption) ?rest68
  case hy68 =>
    intro w hSw
    (obtain ⟨⟨q0, q1, q2, q3, q4⟩, q5⟩ := hSw; go_simp; try with_reducible rfl)
  try simp only [Act.put, List.setIfInBounds_toArray, List.set_cons_zero, List.set_cons_succ, List.getElem_toArray, List.getElem_cons_succ, List.getElem_cons_zero]
  refine wpAnyH_take (i := 5) (v := ?v69) rfl (by kernel_rfl) (by kernel_rfl) (by kernel_rfl) (fun _ _ _ h => h) (Or.inl ⟨by rfl, ?hy69⟩) (by assumption) ?rest69
  case hy69 =>
    intro w hSw
    (obtain ⟨⟨q0, q1, q2, q3, q4⟩, q5⟩ := hSw; go_simp; try with_reducible rfl)
  try simp only [Act.put, List.setIfInBounds_toArray, List.set_cons_zero, List.set_cons_succ, List.getElem_toArray, List.getElem_cons_succ, List.getElem_cons_zero]
  refine wpAnyH_ready (rs := [6]) (by kernel_rfl) (by simp) ?_
  refine AllReadyH.cons rfl (fun K hK => ?_) AllReadyH.nil
  go_simp
  go_wp2_with fail; refine (unhide HC _ ((unhide HO).drew)).mono ?_; rintro e w3 ⟨rfl, o3d⟩; have o3 : Only (fun _ => False) wr w3 := ((Only.refl _ _).drew).trans o3d (fun _ _ e => e)
  refine hK.out _ _ (⟨⟨o3.cell d0 (fun e => e), o3.cell d1 (fun e => e), o3.cell d2 (fun e => e), o3.cell d3 (fun e => e), o3.cell d4 (fun e => e)⟩, o3.cell hR (fun e => e)⟩) (fun hHeld => ?_)
  clear hK K
  try simp only [Act.put, List.setIfInBounds_toArray, List.set_cons_zero, List.set_cons_succ, List.getElem_toArray, List.getElem_cons_succ, List.getElem_cons_zero]
  refine wpAnyH_take (i := 7) (v := ?v70) rfl (by kernel_rfl) (by kernel_rfl) (by kernel_rfl) (fun _ _ _ h => h) (Or.inl ⟨by rfl, ?hy70⟩) (by assumption) ?rest70
  case hy70 =>
    intro w hSw
    go_simp
    try with_reducible rfl
  try simp only [Act.put, List.setIfInBounds_toArray, List.set_cons_zero, List.set_cons_succ, List.getElem_toArray, List.getElem_cons_succ, List.getElem_cons_zero]
  refine wpAnyH_done (by kernel_rfl) ?_ _
  have HO3 := hide ((unhide HO).trans o3 (fun _ _ e => e))
  clear hHeld o3 o3d d0 d1 d2 d3 d4 hR HC
  go_wp2
  go_ret
  exact ⟨rfl, unhide HO3⟩

set_option maxHeartbeats 1000000 in
theorem fits_no (t y n : Int) (da : Option Addr) (dl dc : Nat) (ka : Option Addr) (kl kc : Nat) (w : World) (ht : (tagB t && typB y) = false) : Calls Tryd.prog 67 #[iv t y n da dl dc ka kl kc] w fun e w' => e = .returned (.bool false) ∧ Only (fun _ => False) w w' := by
  obtain ⟨⟨c0, c1, c2, c3, c4⟩, oA⟩ := boxed w (.int .i64 t) (.int .i64 y) (.int .i64 n) (.slice da dl dc) (.slice ka kl kc)
  have HT := hide (fun W => isTag_any t W)
  have HY := hide (fun W => isType_any y W)
  have HO := hide oA
  clear oA
  unfold iv
  cases htb : tagB t with
  | false =>
    rw [htb] at HT
    clear htb ht
    go_enter Tryd.func67, Tryd.ntmps67
    go_wp2_with fail
    refine (unhide HT _).mono ?_
    rintro e w1 ⟨rfl, rfl⟩
    go_wp2
    go_ret
    exact ⟨rfl, unhide HO⟩
  | true =>
    rw [htb] at HT ht
    rw [Bool.true_and] at ht
    rw [ht] at HY
    clear htb ht
    go_enter Tryd.func67, Tryd.ntmps67
    go_wp2_with fail
    refine (unhide HT _).mono ?_
    rintro e w1 ⟨rfl, rfl⟩
    go_wp2_with fail
    refine (unhide HY _).mono ?_
    rintro e w1 ⟨rfl, rfl⟩
    go_wp2
    go_ret
    exact ⟨rfl, unhide HO⟩

/-- the whole -/
theorem fits_any {Q : Nat → Prop} (k : Nat) (i : It) (dv kv : Value) (w : World) (h : ItAt Q w k i dv kv) (hT : Tabs w) : Calls Tryd.prog 67 #[ival i dv kv] w fun e w' => e = .returned (.bool (fitsB i)) ∧ Only (fun _ => False) w w' := by
  cases k with
  | zero => exact h.elim
  | succ k =>
  obtain ⟨hx, _, hk⟩ := h
  obtain ⟨da, dc, hds, _⟩ := hx.shape
  obtain ⟨ka, kc, hks, _⟩ := hk.shape
  obtain ⟨t, y, n, d, ks⟩ := i
  simp only [It.data, It.kids] at hx hk hds hks
  subst hds
  subst hks
  rw [fitsB]
  cases hty : (tagB t && typB y) with
  | false => exact fits_no t y n da d.length dc ka ks.length kc w hty
  | true =>
    rw [Bool.true_and]
    rw [Bool.and_eq_true] at hty
    obtain ⟨ht, hy⟩ := hty
    have hy' : 1 ≤ y ∧ y ≤ 10 := by unfold typB at hy; simpa using hy
    have hc : y = 1 ∨ y = 2 ∨ y = 3 ∨ y = 4 ∨ y = 5 ∨ y = 6 ∨ y = 7 ∨ y = 8 ∨ y = 9 ∨ y = 10 := by omega
    clear hy hy'
    rcases hc with rfl | rfl | rfl | rfl | rfl | rfl | rfl | rfl | rfl | rfl
    · rw [show bodyB 1 n d ks.length = (decide (n = 0) && decide (d.length = 0)) by simp [bodyB, isData]]
      exact fits_1 t n da d.length dc ka ks.length kc _ w ht (fun W o => onlyKids_any t 1 n da d.length dc ka ks.length kc W)
    · rw [show bodyB 2 n d ks.length = ((decide (d.length = 0) && decide (ks.length = 0)) && (decide (-2147483648 ≤ n) && decide (n ≤ 2147483647))) by simp [bodyB, isData]]
      exact fits_2 t n da d.length dc ka ks.length kc _ w ht (fun W o => isSigned_any t 2 n da d.length dc ka ks.length kc W)
    · rw [show bodyB 3 n d ks.length = (decide (d.length = 0) && decide (ks.length = 0)) by simp [bodyB, isData]]
      exact fits_3 t n da d.length dc ka ks.length kc _ w ht (fun W o => onlyInt_any t 3 n da d.length dc ka ks.length kc W)
    · rw [show bodyB 4 n d ks.length = ((decide (n = 0) && decide (ks.length = 0)) && (decide (0 < d.length) && decide (d.length % 8 = 0))) by simp [bodyB, isData]]
      exact fits_4 t n da d.length dc ka ks.length kc _ w ht (fun W o => isBlocks_any t 4 n da d.length dc ka ks.length kc W)
    · rw [show bodyB 5 n d ks.length = ((decide (d.length = 0) && decide (ks.length = 0)) && (decide (0 ≤ n) && decide (n ≤ 4294967295))) by simp [bodyB, isData]]
      exact fits_5 t n da d.length dc ka ks.length kc _ w ht (fun W o => isUnsigned_any t 5 n da d.length dc ka ks.length kc W)
    · rw [show bodyB 6 n d ks.length = ((decide (d.length = 0) && decide (ks.length = 0)) && (decide (n = 0) || decide (n = 1))) by simp [bodyB, isData]]
      exact fits_6 t n da d.length dc ka ks.length kc _ w ht (fun W o => isBoolean_any t 6 n da d.length dc ka ks.length kc W)
    · rw [show bodyB 7 n d ks.length = ((decide (n = 0) && decide (ks.length = 0)) && Lib.validD d) by simp [bodyB, isData]]
      exact fits_7 t n da d.length dc ka ks.length kc _ w ht (fun W o => isText_any t 7 n da d dc ka ks.length kc W (hx.only o (fun _ _ _ e => e)) (hT.same o))
    · rw [show bodyB 8 n d ks.length = (decide (n = 0) && decide (ks.length = 0)) by simp [bodyB, isData]]
      exact fits_8 t n da d.length dc ka ks.length kc _ w ht (fun W o => onlyData_any t 8 n da d.length dc ka ks.length kc W)
    · rw [show bodyB 9 n d ks.length = (decide (d.length = 0) && decide (ks.length = 0)) by simp [bodyB, isData]]
      exact fits_9 t n da d.length dc ka ks.length kc _ w ht (fun W o => onlyInt_any t 9 n da d.length dc ka ks.length kc W)
    · rw [show bodyB 10 n d ks.length = ((decide (d.length = 0) && decide (ks.length = 0)) && (decide (0 ≤ n) && decide (n ≤ 4294967295))) by simp [bodyB, isData]]
      exact fits_10 t n da d.length dc ka ks.length kc _ w ht (fun W o => isUnsigned_any t 10 n da d.length dc ka ks.length kc W)
end Tt
end Go.Proofs.YtedmfjnmclbkpaaDoor
