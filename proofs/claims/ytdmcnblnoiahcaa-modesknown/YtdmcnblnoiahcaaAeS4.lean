/-
  The rounds of a state.
-/
import Derived.Test.YtdmcnblnoiahcaaAeS3
namespace Go.Proofs.Ytdmcnblnoiahcaa
open Go.RowKit
set_option linter.unusedSimpArgs false
set_option linter.unusedVariables false
namespace Ae

theorem any {S : Nat → Prop} {a b : World} (h : Only (fun _ => False) a b) : Only S a b := h.mono (fun _ _ e => False.elim e)
theorem after {S : Nat → Prop} {a b c : World} (h : Only S a b) (k : Only (fun _ => False) b c) : Only S a c := h.trans k (fun _ _ e => False.elim e)

theorem exec_load_mid {P : Program} {o : Oper} {a : Act} {w : World} (ty : TypeId) (x : Operand) (ho : o.op = .load ty x)
    (b o' : Nat) (hx : a.eval x = .pointer (some ⟨b, o', none⟩)) (cs : List Value) (d : TypeDesc) (hc : w.rangeAt b o' cs)
    (hu : P.underlying ty = some d) (hd : d.isRow = true) (hi : (P.info? ty).map (·.size) = some cs.length) : (execOp a.eval o).run P w = .ok (.value (.agg cs.toArray)) w := by
  unfold execOp
  simp only [ho, hx, Instr.loadAt, Instr.sureAddr, Sem.run_bind, Sem.run_pure, Result.andThen_ok, run_loadVar_mid w b o' ty cs d hc hu hd hi]

theorem step_store_mid {P : Program} {ops : Array Oper} {o : Oper} {a : Act} {w : World} {K : Act → World → Prop} {Q : Exit → Act → World → Prop} {E : Prop} (hgd : o.guard = none) (ty : TypeId) (x y : Operand) (ho : o.op = .store ty x y)
    (b o' : Nat) (cells : Array Value) (hx : a.eval x = .pointer (some ⟨b, o', none⟩)) (hy : a.eval y = .agg cells)
    (ht : w.there b o' cells.size) (hi : (P.info? ty).map (·.size) = some cells.size) (h1 : cells.all (·.oneCell') = true)
    (h : K (a.put o.dst undef) (w.setCells b o' cells.toList)) : if Region.wanted o (yielded ops a.tmps) = true then Oper.wp P o a w K Q else E := by
  have hw : Region.wanted o (yielded ops a.tmps) = true := by simp [Region.wanted, hgd]
  rw [if_pos hw]
  exact wp_store_mid ty x y ho b o' cells hx hy ht hi h1 h

theorem range_only {S : Nat → Prop} {w w' : World} {b o : Nat} {cs : List Value} (h : w.rangeAt b o cs) (ho : Only S w w') (hS : ¬ S b) : w'.rangeAt b o cs := fun j v hv => ho.cell (h j v hv) hS
theorem there_only {S : Nat → Prop} {w w' : World} {b o n : Nat} {t : TypeId} {s : List UInt8} (h : Arr w b t s) (ho : Only S w w') (hS : ¬ S b) (hn : n = s.length) : w'.there b 0 n := (h.only ho hS).there n hn

def middle (s k : List UInt8) : List UInt8 := added (mixed (shifted (s.map box))) k
def last (s k : List UInt8) : List UInt8 := added (shifted (s.map box)) k
def middleBack (s k : List UInt8) : List UInt8 := (unshifted (unmixed (added s k))).map unbox
def lastBack (s k : List UInt8) : List UInt8 := (unshifted (added s k)).map unbox

theorem mixed_length (s : List UInt8) : (mixed s).length = 16 := times_length _ _
theorem unmixed_length (s : List UInt8) : (unmixed s).length = 16 := times_length _ _
theorem unshifted_length (s : List UInt8) : (unshifted s).length = 16 := unshK_length _ _

set_option maxRecDepth 100000 in
set_option maxHeartbeats 2000000 in
theorem middle_any (s k : List UInt8) (w : World) (hs : s.length = 16) (hk : k.length = 16) :
    Calls Try.prog 37 #[.agg (s.map bv).toArray, .agg (k.map bv).toArray] w fun e w' => e = .returned (.agg ((middle s k).map bv).toArray) ∧ Only (fun _ => False) w w' := by
  have hal : (middle s k).length = 16 := added_length (mixed_length _) hk
  have H1 := hide (fun W => each_box s W hs)
  have H2 := hide (fun W => shifted_any (s.map box) W (by simp [hs]))
  have H3 := hide (fun W => mixed_any (shifted (s.map box)) W (shifted_length _))
  have H4 : Hid (∀ W : World, Calls Try.prog 39 #[.agg ((mixed (shifted (s.map box))).map bv).toArray, .agg (k.map bv).toArray] W fun e w' => e = .returned (.agg ((middle s k).map bv).toArray) ∧ Only (fun _ => False) W w') := fun W => added_any _ k W (mixed_length _) hk
  generalize mixed (shifted (s.map box)) = s3 at *
  generalize shifted (s.map box) = s2 at *
  generalize s.map box = s1 at *
  generalize hl : middle s k = l at *
  have HLE := hide hl
  clear hl
  obtain ⟨w3, b1, b2, b3, e3, eb3, eb2, eb1, a1, a2, a3, o3, n12, n13, n23, hb⟩ := three w s k zero16 64 36 64
  go_enter Try.func37, Try.ntmps37
  go_upto_region 1 with fail
  rw [zeros_eq, ← e3, ← eb3, ← eb2, ← eb1]
  clear e3 eb3 eb2 eb1
  have R1 := hide a1.range
  have R2 := hide a2.range
  have A3 := hide a3
  have O3 := hide o3
  have HB := hide hb
  clear a1 a2 a3 o3 hb
  refine wp_region_held_drew (S := (fun w' => Only (fun j => j = b3) w3 w')) (by kernel_rfl) ((Only.refl _ _).drew) (fun hHeld => ?_)
  refine wpAnyH_take (i := 0) (v := ?v16) rfl (by kernel_rfl) (by kernel_rfl) (by kernel_rfl) (fun _ _ _ h => h) (Or.inl ⟨by rfl, ?hy16⟩) (by assumption) ?rest16
  case hy16 =>
    intro w hSw
    (refine exec_load_mid 64 (.tmp 2) ?_ b1 0 ?_ (s.map bv) _ (range_only (unhide R1) hSw n13) Try.underSt rfl (by rw [Try.sizeState]; simp [hs]) <;> rfl)
  try simp only [Act.put, List.setIfInBounds_toArray, List.set_cons_zero, List.set_cons_succ, List.getElem_toArray, List.getElem_cons_succ, List.getElem_cons_zero]
  refine wpAnyH_take (i := 4) (v := ?v17) rfl (by kernel_rfl) (by kernel_rfl) (by kernel_rfl) (fun _ _ _ h => h) (Or.inl ⟨by rfl, ?hy17⟩) (by assumption) ?rest17
  case hy17 =>
    intro w hSw
    (refine exec_load_mid 36 (.tmp 3) ?_ b2 0 ?_ (k.map bv) _ (range_only (unhide R2) hSw n23) Try.under16 rfl (by rw [Try.size16]; simp [hk]) <;> rfl)
  try simp only [Act.put, List.setIfInBounds_toArray, List.set_cons_zero, List.set_cons_succ, List.getElem_toArray, List.getElem_cons_succ, List.getElem_cons_zero]
  refine wpAnyH_ready (rs := [1]) (by kernel_rfl) (by simp) ?_
  refine AllReadyH.cons rfl (fun K hK => ?_) AllReadyH.nil
  go_simp
  go_wp2_with fail; refine (unhide H1 _).mono ?_; rintro e x1 ⟨rfl, y1⟩; have Q1 : Hid (Only (fun _ => False) w3 x1) := after ((Only.refl _ w3).drew) y1; clear y1
  refine hK.out _ _ ((any (unhide Q1))) (fun hHeld => ?_)
  clear hK K
  try simp only [Act.put, List.setIfInBounds_toArray, List.set_cons_zero, List.set_cons_succ, List.getElem_toArray, List.getElem_cons_succ, List.getElem_cons_zero]
  refine wpAnyH_ready (rs := [2]) (by kernel_rfl) (by simp) ?_
  refine AllReadyH.cons rfl (fun K hK => ?_) AllReadyH.nil
  go_simp
  go_wp2_with fail; refine (unhide H2 _).mono ?_; rintro e x2 ⟨rfl, y2⟩; have Q2 : Hid (Only (fun _ => False) w3 x2) := after (unhide Q1) y2; clear y2
  refine hK.out _ _ ((any (unhide Q2))) (fun hHeld => ?_)
  clear hK K
  try simp only [Act.put, List.setIfInBounds_toArray, List.set_cons_zero, List.set_cons_succ, List.getElem_toArray, List.getElem_cons_succ, List.getElem_cons_zero]
  refine wpAnyH_ready (rs := [3]) (by kernel_rfl) (by simp) ?_
  refine AllReadyH.cons rfl (fun K hK => ?_) AllReadyH.nil
  go_simp
  go_wp2_with fail; refine (unhide H3 _).mono ?_; rintro e x3 ⟨rfl, y3⟩; have Q3 : Hid (Only (fun _ => False) w3 x3) := after (unhide Q2) y3; clear y3
  refine hK.out _ _ ((any (unhide Q3))) (fun hHeld => ?_)
  clear hK K
  try simp only [Act.put, List.setIfInBounds_toArray, List.set_cons_zero, List.set_cons_succ, List.getElem_toArray, List.getElem_cons_succ, List.getElem_cons_zero]
  refine wpAnyH_ready (rs := [5]) (by kernel_rfl) (by simp) ?_
  refine AllReadyH.cons rfl (fun K hK => ?_) AllReadyH.nil
  go_simp
  go_wp2_with fail; refine (unhide H4 _).mono ?_; rintro e x4 ⟨rfl, y4⟩; have Q4 : Hid (Only (fun _ => False) w3 x4) := after (unhide Q3) y4; clear y4
  refine hK.out _ _ ((any (unhide Q4))) (fun hHeld => ?_)
  clear hK K
  try simp only [Act.put, List.setIfInBounds_toArray, List.set_cons_zero, List.set_cons_succ, List.getElem_toArray, List.getElem_cons_succ, List.getElem_cons_zero]
  have HA3 := hide ((unhide A3).only (unhide Q4) (fun e => e))
  have ht3 := (unhide HA3).there 16 rfl
  refine wpAnyH_ready (rs := [6]) (by kernel_rfl) (by simp) ?_
  refine AllReadyH.cons rfl (fun K hK => ?_) AllReadyH.nil
  refine step_store_mid rfl 64 (.tmp 4) (.tmp 10) rfl b3 0 (l.map bv).toArray rfl rfl (by simpa [hal] using ht3) (by rw [Try.sizeState]; simp [hal]) (ag_one _) ?_
  refine hK.out _ _ ((Only.setCells (S := fun j => j = b3) (a := w3) (b := b3) (fun _ => rfl) (l.map bv) x4 0 (any (unhide Q4)))) (fun hHeld => ?_)
  clear hK K
  try simp only [Act.put, List.setIfInBounds_toArray, List.set_cons_zero, List.set_cons_succ, List.getElem_toArray, List.getElem_cons_succ, List.getElem_cons_zero]
  refine wpAnyH_done (by kernel_rfl) ?_ _
  go_wp2
  refine bodyPost_ret (results_cell_row rfl _ _ b3 64 _ _ _ rfl ((unhide HA3).stored l (by rw [hal]; rfl)).out Try.underSt rfl (by rw [Try.sizeState]; simp [hal])) rfl ?_
  exact ⟨by rw [← unhide HLE], done13 (b1 := b3) (unhide O3) (any (unhide Q4)) (fun j hj => ⟨((unhide HB) j hj).2.2, ((unhide HB) j hj).2.2⟩)⟩

set_option maxRecDepth 100000 in
set_option maxHeartbeats 2000000 in
theorem last_any (s k : List UInt8) (w : World) (hs : s.length = 16) (hk : k.length = 16) :
    Calls Try.prog 40 #[.agg (s.map bv).toArray, .agg (k.map bv).toArray] w fun e w' => e = .returned (.agg ((last s k).map bv).toArray) ∧ Only (fun _ => False) w w' := by
  have hal : (last s k).length = 16 := added_length (shifted_length _) hk
  have H1 := hide (fun W => each_box s W hs)
  have H2 := hide (fun W => shifted_any (s.map box) W (by simp [hs]))
  have H3 : Hid (∀ W : World, Calls Try.prog 39 #[.agg ((shifted (s.map box)).map bv).toArray, .agg (k.map bv).toArray] W fun e w' => e = .returned (.agg ((last s k).map bv).toArray) ∧ Only (fun _ => False) W w') := fun W => added_any _ k W (shifted_length _) hk
  generalize shifted (s.map box) = s2 at *
  generalize s.map box = s1 at *
  generalize hl : last s k = l at *
  have HLE := hide hl
  clear hl
  obtain ⟨w3, b1, b2, b3, e3, eb3, eb2, eb1, a1, a2, a3, o3, n12, n13, n23, hb⟩ := three w s k zero16 64 36 64
  go_enter Try.func40, Try.ntmps40
  go_upto_region 1 with fail
  rw [zeros_eq, ← e3, ← eb3, ← eb2, ← eb1]
  clear e3 eb3 eb2 eb1
  have R1 := hide a1.range
  have R2 := hide a2.range
  have A3 := hide a3
  have O3 := hide o3
  have HB := hide hb
  clear a1 a2 a3 o3 hb
  refine wp_region_held_drew (S := (fun w' => Only (fun j => j = b3) w3 w')) (by kernel_rfl) ((Only.refl _ _).drew) (fun hHeld => ?_)
  refine wpAnyH_take (i := 0) (v := ?v18) rfl (by kernel_rfl) (by kernel_rfl) (by kernel_rfl) (fun _ _ _ h => h) (Or.inl ⟨by rfl, ?hy18⟩) (by assumption) ?rest18
  case hy18 =>
    intro w hSw
    (refine exec_load_mid 64 (.tmp 2) ?_ b1 0 ?_ (s.map bv) _ (range_only (unhide R1) hSw n13) Try.underSt rfl (by rw [Try.sizeState]; simp [hs]) <;> rfl)
  try simp only [Act.put, List.setIfInBounds_toArray, List.set_cons_zero, List.set_cons_succ, List.getElem_toArray, List.getElem_cons_succ, List.getElem_cons_zero]
  refine wpAnyH_take (i := 3) (v := ?v19) rfl (by kernel_rfl) (by kernel_rfl) (by kernel_rfl) (fun _ _ _ h => h) (Or.inl ⟨by rfl, ?hy19⟩) (by assumption) ?rest19
  case hy19 =>
    intro w hSw
    (refine exec_load_mid 36 (.tmp 3) ?_ b2 0 ?_ (k.map bv) _ (range_only (unhide R2) hSw n23) Try.under16 rfl (by rw [Try.size16]; simp [hk]) <;> rfl)
  try simp only [Act.put, List.setIfInBounds_toArray, List.set_cons_zero, List.set_cons_succ, List.getElem_toArray, List.getElem_cons_succ, List.getElem_cons_zero]
  refine wpAnyH_ready (rs := [1]) (by kernel_rfl) (by simp) ?_
  refine AllReadyH.cons rfl (fun K hK => ?_) AllReadyH.nil
  go_simp
  go_wp2_with fail; refine (unhide H1 _).mono ?_; rintro e x1 ⟨rfl, y1⟩; have Q1 : Hid (Only (fun _ => False) w3 x1) := after ((Only.refl _ w3).drew) y1; clear y1
  refine hK.out _ _ ((any (unhide Q1))) (fun hHeld => ?_)
  clear hK K
  try simp only [Act.put, List.setIfInBounds_toArray, List.set_cons_zero, List.set_cons_succ, List.getElem_toArray, List.getElem_cons_succ, List.getElem_cons_zero]
  refine wpAnyH_ready (rs := [2]) (by kernel_rfl) (by simp) ?_
  refine AllReadyH.cons rfl (fun K hK => ?_) AllReadyH.nil
  go_simp
  go_wp2_with fail; refine (unhide H2 _).mono ?_; rintro e x2 ⟨rfl, y2⟩; have Q2 : Hid (Only (fun _ => False) w3 x2) := after (unhide Q1) y2; clear y2
  refine hK.out _ _ ((any (unhide Q2))) (fun hHeld => ?_)
  clear hK K
  try simp only [Act.put, List.setIfInBounds_toArray, List.set_cons_zero, List.set_cons_succ, List.getElem_toArray, List.getElem_cons_succ, List.getElem_cons_zero]
  refine wpAnyH_ready (rs := [4]) (by kernel_rfl) (by simp) ?_
  refine AllReadyH.cons rfl (fun K hK => ?_) AllReadyH.nil
  go_simp
  go_wp2_with fail; refine (unhide H3 _).mono ?_; rintro e x3 ⟨rfl, y3⟩; have Q3 : Hid (Only (fun _ => False) w3 x3) := after (unhide Q2) y3; clear y3
  refine hK.out _ _ ((any (unhide Q3))) (fun hHeld => ?_)
  clear hK K
  try simp only [Act.put, List.setIfInBounds_toArray, List.set_cons_zero, List.set_cons_succ, List.getElem_toArray, List.getElem_cons_succ, List.getElem_cons_zero]
  have HA3 := hide ((unhide A3).only (unhide Q3) (fun e => e))
  have ht3 := (unhide HA3).there 16 rfl
  refine wpAnyH_ready (rs := [5]) (by kernel_rfl) (by simp) ?_
  refine AllReadyH.cons rfl (fun K hK => ?_) AllReadyH.nil
  refine step_store_mid rfl 64 (.tmp 4) (.tmp 9) rfl b3 0 (l.map bv).toArray rfl rfl (by simpa [hal] using ht3) (by rw [Try.sizeState]; simp [hal]) (ag_one _) ?_
  refine hK.out _ _ ((Only.setCells (S := fun j => j = b3) (a := w3) (b := b3) (fun _ => rfl) (l.map bv) x3 0 (any (unhide Q3)))) (fun hHeld => ?_)
  clear hK K
  try simp only [Act.put, List.setIfInBounds_toArray, List.set_cons_zero, List.set_cons_succ, List.getElem_toArray, List.getElem_cons_succ, List.getElem_cons_zero]
  refine wpAnyH_done (by kernel_rfl) ?_ _
  go_wp2
  refine bodyPost_ret (results_cell_row rfl _ _ b3 64 _ _ _ rfl ((unhide HA3).stored l (by rw [hal]; rfl)).out Try.underSt rfl (by rw [Try.sizeState]; simp [hal])) rfl ?_
  exact ⟨by rw [← unhide HLE], done13 (b1 := b3) (unhide O3) (any (unhide Q3)) (fun j hj => ⟨((unhide HB) j hj).2.2, ((unhide HB) j hj).2.2⟩)⟩

set_option maxRecDepth 100000 in
set_option maxHeartbeats 2000000 in
theorem middleBack_any (s k : List UInt8) (w : World) (hs : s.length = 16) (hk : k.length = 16) :
    Calls Try.prog 44 #[.agg (s.map bv).toArray, .agg (k.map bv).toArray] w fun e w' => e = .returned (.agg ((middleBack s k).map bv).toArray) ∧ Only (fun _ => False) w w' := by
  have hal : (middleBack s k).length = 16 := by unfold middleBack; rw [List.length_map]; exact unshifted_length _
  have H1 := hide (fun W => added_any s k W hs hk)
  have H2 := hide (fun W => unmixed_any (added s k) W (added_length hs hk))
  have H3 := hide (fun W => unshifted_any (unmixed (added s k)) W (unmixed_length _))
  have H4 : Hid (∀ W : World, Calls Try.prog 57 #[.agg ((unshifted (unmixed (added s k))).map bv).toArray, .func (.func 66) #[] #[]] W fun e w' => e = .returned (.agg ((middleBack s k).map bv).toArray) ∧ Only (fun _ => False) W w') := fun W => each_unbox _ W (unshifted_length _)
  generalize unshifted (unmixed (added s k)) = s3 at *
  generalize unmixed (added s k) = s2 at *
  generalize added s k = s1 at *
  generalize hl : middleBack s k = l at *
  have HLE := hide hl
  clear hl
  obtain ⟨w3, b1, b2, b3, e3, eb3, eb2, eb1, a1, a2, a3, o3, n12, n13, n23, hb⟩ := three w s k zero16 64 36 64
  go_enter Try.func44, Try.ntmps44
  go_upto_region 1 with fail
  rw [zeros_eq, ← e3, ← eb3, ← eb2, ← eb1]
  clear e3 eb3 eb2 eb1
  have R1 := hide a1.range
  have R2 := hide a2.range
  have A3 := hide a3
  have O3 := hide o3
  have HB := hide hb
  clear a1 a2 a3 o3 hb
  have r1 := unhide R1
  have r2 := unhide R2
  go_wp2_with (first
    | (refine wpList_load_mid rfl 64 (.tmp 2) rfl b1 0 rfl (s.map bv) _ r1 Try.underSt rfl (by rw [Try.sizeState]; simp [hs]) ?_)
    | (refine wpList_load_mid rfl 36 (.tmp 3) rfl b2 0 rfl (k.map bv) _ r2 Try.under16 rfl (by rw [Try.size16]; simp [hk]) ?_))
  clear r1 r2
  refine (unhide H1 _).mono ?_
  rintro e x1 ⟨rfl, y1⟩
  have Q1 : Hid (Only (fun _ => False) w3 x1) := y1
  clear y1
  go_wp2_with fail
  refine (unhide H2 _).mono ?_
  rintro e x2 ⟨rfl, y2⟩
  have Q2 : Hid (Only (fun _ => False) w3 x2) := after (unhide Q1) y2
  clear y2
  go_wp2_with fail
  refine (unhide H3 _).mono ?_
  rintro e x3 ⟨rfl, y3⟩
  have Q3 : Hid (Only (fun _ => False) w3 x3) := after (unhide Q2) y3
  clear y3
  go_wp2_with fail
  refine (unhide H4 _).mono ?_
  rintro e x4 ⟨rfl, y4⟩
  have Q4 : Hid (Only (fun _ => False) w3 x4) := after (unhide Q3) y4
  clear y4
  have HA3 := hide ((unhide A3).only (unhide Q4) (fun e => e))
  have ht3 := (unhide HA3).there 16 rfl
  go_wp2_with (refine wpList_store_mid rfl 64 (.tmp 4) (.tmp 10) rfl b3 0 (l.map bv).toArray rfl rfl (by simpa [hal] using ht3) (by rw [Try.sizeState]; simp [hal]) (ag_one _) ?_)
  refine bodyPost_ret (results_cell_row rfl _ _ b3 64 _ _ _ rfl ((unhide HA3).stored l (by rw [hal]; rfl)).out Try.underSt rfl (by rw [Try.sizeState]; simp [hal])) rfl ?_
  exact ⟨by rw [← unhide HLE], done13 (b1 := b3) (unhide O3) (any (unhide Q4)) (fun j hj => ⟨((unhide HB) j hj).2.2, ((unhide HB) j hj).2.2⟩)⟩

set_option maxRecDepth 100000 in
set_option maxHeartbeats 2000000 in
theorem lastBack_any (s k : List UInt8) (w : World) (hs : s.length = 16) (hk : k.length = 16) :
    Calls Try.prog 45 #[.agg (s.map bv).toArray, .agg (k.map bv).toArray] w fun e w' => e = .returned (.agg ((lastBack s k).map bv).toArray) ∧ Only (fun _ => False) w w' := by
  have hal : (lastBack s k).length = 16 := by unfold lastBack; rw [List.length_map]; exact unshifted_length _
  have H1 := hide (fun W => added_any s k W hs hk)
  have H2 := hide (fun W => unshifted_any (added s k) W (added_length hs hk))
  have H3 : Hid (∀ W : World, Calls Try.prog 57 #[.agg ((unshifted (added s k)).map bv).toArray, .func (.func 66) #[] #[]] W fun e w' => e = .returned (.agg ((lastBack s k).map bv).toArray) ∧ Only (fun _ => False) W w') := fun W => each_unbox _ W (unshifted_length _)
  generalize unshifted (added s k) = s2 at *
  generalize added s k = s1 at *
  generalize hl : lastBack s k = l at *
  have HLE := hide hl
  clear hl
  obtain ⟨w3, b1, b2, b3, e3, eb3, eb2, eb1, a1, a2, a3, o3, n12, n13, n23, hb⟩ := three w s k zero16 64 36 64
  go_enter Try.func45, Try.ntmps45
  go_upto_region 1 with fail
  rw [zeros_eq, ← e3, ← eb3, ← eb2, ← eb1]
  clear e3 eb3 eb2 eb1
  have R1 := hide a1.range
  have R2 := hide a2.range
  have A3 := hide a3
  have O3 := hide o3
  have HB := hide hb
  clear a1 a2 a3 o3 hb
  have r1 := unhide R1
  have r2 := unhide R2
  go_wp2_with (first
    | (refine wpList_load_mid rfl 64 (.tmp 2) rfl b1 0 rfl (s.map bv) _ r1 Try.underSt rfl (by rw [Try.sizeState]; simp [hs]) ?_)
    | (refine wpList_load_mid rfl 36 (.tmp 3) rfl b2 0 rfl (k.map bv) _ r2 Try.under16 rfl (by rw [Try.size16]; simp [hk]) ?_))
  clear r1 r2
  refine (unhide H1 _).mono ?_
  rintro e x1 ⟨rfl, y1⟩
  have Q1 : Hid (Only (fun _ => False) w3 x1) := y1
  clear y1
  go_wp2_with fail
  refine (unhide H2 _).mono ?_
  rintro e x2 ⟨rfl, y2⟩
  have Q2 : Hid (Only (fun _ => False) w3 x2) := after (unhide Q1) y2
  clear y2
  go_wp2_with fail
  refine (unhide H3 _).mono ?_
  rintro e x3 ⟨rfl, y3⟩
  have Q3 : Hid (Only (fun _ => False) w3 x3) := after (unhide Q2) y3
  clear y3
  have HA3 := hide ((unhide A3).only (unhide Q3) (fun e => e))
  have ht3 := (unhide HA3).there 16 rfl
  go_wp2_with (refine wpList_store_mid rfl 64 (.tmp 4) (.tmp 9) rfl b3 0 (l.map bv).toArray rfl rfl (by simpa [hal] using ht3) (by rw [Try.sizeState]; simp [hal]) (ag_one _) ?_)
  refine bodyPost_ret (results_cell_row rfl _ _ b3 64 _ _ _ rfl ((unhide HA3).stored l (by rw [hal]; rfl)).out Try.underSt rfl (by rw [Try.sizeState]; simp [hal])) rfl ?_
  exact ⟨by rw [← unhide HLE], done13 (b1 := b3) (unhide O3) (any (unhide Q3)) (fun j hj => ⟨((unhide HB) j hj).2.2, ((unhide HB) j hj).2.2⟩)⟩

end Ae
end Go.Proofs.Ytdmcnblnoiahcaa
