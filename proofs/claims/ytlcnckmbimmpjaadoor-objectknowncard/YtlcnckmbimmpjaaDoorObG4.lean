/-
  object: all parts, taken one behind the other.
-/
import Derived.Test.YtlcnckmbimmpjaaDoorObG3
import Derived.Test.YtlcnckmbimmpjaaDoorObRight
namespace Go.Proofs.YtlcnckmbimmpjaaDoor
open Go.RowKit
set_option linter.unusedSimpArgs false
set_option linter.unusedVariables false
namespace Ob

/-- the cells of an object that has nothing -/
def Zo : List Value := [.string ⟨#[]⟩, .int .i64 0, .int .i64 0, .int .i64 0, .int .i64 0, .slice none 0 0, .int .i64 0, .bool false, .int .i64 0, .bool false, .int .i64 0, .bool false, .int .i64 0, .bool false, .int .i64 0, .bool false, .int .i64 0, .bool false, .int .i64 0, .bool false, .int .i64 0, .bool false, .int .i64 0, .bool false, .int .i64 0, .bool false, .int .i64 0, .int .i64 0, .string ⟨#[]⟩, .slice none 0 0, .slice none 0 0, .slice none 0 0, .bool false, .int .i64 0, .int .i64 0, .int .i64 0, .bool false]
theorem Zo_len : Zo.length = 37 := rfl
theorem zo_eq : List.toArray (Value.string ⟨#[]⟩ :: Value.int IntKind.i64 0 :: Value.int IntKind.i64 0 :: Value.int IntKind.i64 0 :: Value.int IntKind.i64 0 :: Value.slice none 0 0 :: Value.int IntKind.i64 0 :: Value.bool false :: Value.int IntKind.i64 0 :: Value.bool false :: Value.int IntKind.i64 0 :: Value.bool false :: Value.int IntKind.i64 0 :: Value.bool false :: Value.int IntKind.i64 0 :: Value.bool false :: Value.int IntKind.i64 0 :: Value.bool false :: Value.int IntKind.i64 0 :: Value.bool false :: Value.int IntKind.i64 0 :: Value.bool false :: Value.int IntKind.i64 0 :: Value.bool false :: Value.int IntKind.i64 0 :: Value.bool false :: Value.int IntKind.i64 0 :: Value.int IntKind.i64 0 :: Value.string ⟨#[]⟩ :: Value.slice none 0 0 :: Value.slice none 0 0 :: Value.slice none 0 0 :: Value.bool false :: Value.int IntKind.i64 0 :: Value.int IntKind.i64 0 :: Value.int IntKind.i64 0 :: Value.bool false :: []) = Zo.toArray := rfl
/-- so many cells are laid, the others are as they were -/
def part (pre : List Value) : List Value := pre ++ Zo.drop pre.length
theorem part_set (pre : List Value) (v : Value) (h : pre.length < 37) : (part pre).set pre.length v = part (pre ++ [v]) := by
  unfold part
  rw [List.set_append_right _ _ (Nat.le_refl _), Nat.sub_self]
  have h2 : pre.length < Zo.length := h
  rw [List.drop_eq_getElem_cons h2, List.set_cons_zero, List.length_append, List.length_singleton, List.append_assoc, List.singleton_append]
theorem part_at (pre : List Value) (i : Nat) (h : pre.length ≤ i) : (part pre)[i]? = Zo[i]? := by
  unfold part
  rw [List.getElem?_append_right h, List.getElem?_drop]
  congr 1
  omega
theorem part_all (pre : List Value) (h : pre.length = 37) : part pre = pre := by
  unfold part
  rw [h, show Zo.drop 37 = [] from rfl, List.append_nil]
theorem bx_set {w : World} {b : Nat} {t : TypeId} {pre : List Value} (h : Bx w b t (part pre)) (n : Nat) (hn : pre.length = n) (hl : n < 37) (v : Value) : Bx (w.setCell ⟨b, n, none⟩ v) b t (part (pre ++ [v])) := by
  subst hn
  rw [← part_set pre v hl]
  exact h.set _ _
theorem bx_at {w : World} {b : Nat} {t : TypeId} {pre : List Value} (h : Bx w b t (part pre)) (n : Nat) (hn : pre.length ≤ n) (v : Value) (hv : Zo[n]? = some v) : w.cell? ⟨b, n, none⟩ = some v := h.cell n v ((part_at pre n hn).trans hv)

/-- zeros by twos: where the dates lie -/
theorem zo_date (k : Nat) (hk : k < 10) : Zo[7 + k * 2]? = some (.bool false) ∧ Zo[7 + k * 2 + 1]? = some (.int .i64 0) := by
  match k, hk with
  | 0, _ => exact ⟨rfl, rfl⟩
  | 1, _ => exact ⟨rfl, rfl⟩
  | 2, _ => exact ⟨rfl, rfl⟩
  | 3, _ => exact ⟨rfl, rfl⟩
  | 4, _ => exact ⟨rfl, rfl⟩
  | 5, _ => exact ⟨rfl, rfl⟩
  | 6, _ => exact ⟨rfl, rfl⟩
  | 7, _ => exact ⟨rfl, rfl⟩
  | 8, _ => exact ⟨rfl, rfl⟩
  | 9, _ => exact ⟨rfl, rfl⟩
  | k + 10, h => exact absurd h (by omega)

theorem rLim_le (s : Rs) : (rLim s).2.2.length ≤ s.2.length := by
  unfold rLim
  split
  · exact Nat.le_trans (rU_le 1 _) (Nat.le_trans (rU_le 8 _) (Nat.le_trans (rU_le 8 _) (rFlag_le s)))
  · exact rFlag_le s
theorem W64_nat (n : Nat) (h : n < 4294967296) : W64 (n : Int) := by unfold W64; omega
theorem W64_i64 (n : Nat) : W64 (i64 n) := by unfold W64 i64; rw [IntKind.wrap_i64]; omega
theorem many_all {α : Type} (f : Rs → α × Rs) (P : α → Prop) (hf : ∀ s, P (f s).1) (n : Nat) : ∀ s, ∀ x ∈ (rMany f n s).1, P x := by
  induction n with
  | zero => intro s x hx; cases hx
  | succ n ih =>
    intro s x hx
    rcases List.mem_cons.1 hx with rfl | hx
    · exact hf s
    · exact ih _ x hx
theorem all_all {α : Type} (f : Rs → α × Rs) (P : α → Prop) (hf : ∀ s, P (f s).1) (s : Rs) : ∀ x ∈ (rAll f s).1, P x := many_all f P hf _ _
theorem date_w64 (s : Rs) : W64 (rDate s).1.2 := by
  unfold rDate
  split
  · exact W64_i64 _
  · exact (⟨by decide, by decide⟩ : W64 0)
theorem lim_w64 (s : Rs) : W64 (rLim s).1.t ∧ W64 (rLim s).1.c ∧ W64 (rLim s).1.u := by
  have z : W64 0 := ⟨by decide, by decide⟩
  unfold rLim
  split
  · exact ⟨W64_i64 _, W64_i64 _, W64_nat _ (Nat.lt_trans (rU1_lt _) (by decide))⟩
  · exact ⟨z, z, z⟩
theorem Tryd.rowObjM : (Tryd.prog.underlying 35).map (fun d => match d with | .struct _ | .array _ _ => true | _ => false) = some true := by kernel_rfl
theorem cells_one (o : Ob) (mv nv lv cv : Value) (h1 : mv.oneCell' = true) (h2 : nv.oneCell' = true) (h3 : lv.oneCell' = true) (h4 : cv.oneCell' = true) : ∀ u ∈ cells o mv nv lv cv, u.oneCell' = true := by
  intro u hu
  unfold cells at hu
  rcases List.mem_append.1 hu with hu | hu
  · unfold front at hu
    simp only [List.mem_cons, List.not_mem_nil, or_false] at hu
    rcases hu with rfl | rfl | rfl | rfl | rfl | rfl | rfl <;> first | rfl | assumption
  · rcases List.mem_append.1 hu with hu | hu
    · obtain ⟨d, _, hd⟩ := List.mem_flatMap.1 hu
      unfold dcells at hd
      simp only [List.mem_cons, List.not_mem_nil, or_false] at hd
      rcases hd with rfl | rfl <;> rfl
    · unfold back at hu
      simp only [List.mem_cons, List.not_mem_nil, or_false] at hu
      rcases hu with rfl | rfl | rfl | rfl | rfl | rfl | rfl | rfl | rfl | rfl <;> first | rfl | assumption
theorem setCells_blk {b : Nat} {t : TypeId} (vs : List Value) : ∀ (w : World) (o : Nat) (cs : List Value), Bx w b t cs → Bx (w.setCells b o vs) b t (setMany cs o vs) := by
  induction vs with
  | nil => intro w o cs h; exact h
  | cons v r ih => intro w o cs h; exact ih _ _ _ (h.set o v)
theorem setCells_bx {w : World} {b : Nat} {t : TypeId} {cs : List Value} (h : Bx w b t cs) (vs : List Value) (hl : vs.length = cs.length) : Bx (w.setCells b 0 vs) b t vs := by
  have := setCells_blk vs w 0 cs h
  rw [setMany_eq vs cs 0 (by omega), List.take_zero, List.nil_append, Nat.zero_add, List.drop_of_length_le (by omega), List.append_nil] at this
  exact this
theorem To.setCells {w x : World} {b : Nat} {v v' : Value} {s : Rs} (q : To w b v x v' s) {k : Nat} (hk : w.heap.size ≤ k) (hb : b < w.heap.size) (hv : ∀ j, blk v = some j → j < w.heap.size) (i : Nat) (vs : List Value) : To w b v (x.setCells k i vs) v' s := by
  have o : Only (fun j => j = k) x (x.setCells k i vs) := Only.setCells (S := fun j => j = k) (fun _ => rfl) _ _ _ (Only.refl _ x)
  exact ⟨q.now.only o (by show ¬ b = k; omega) (fun j hj e => by have := hv j (q.vblk j hj); omega), q.only.trans o (fun j hj e => by omega), q.vblk⟩
theorem blk_own (ao : Option Addr) (n c : Nat) : blk (.slice ao n c) = Value.ownBlock (.slice ao n c) := by cases ao <;> rfl
/-- all four lie in blocks from 'base' on -/
def Fresh4 (base : Nat) (mv nv lv cv : Value) : Prop := ∀ j, (blk mv = some j ∨ blk nv = some j ∨ blk lv = some j ∨ blk cv = some j) → base ≤ j
theorem In.off {S : Nat → Prop} {w w' : World} {o : Ob} {mv nv lv cv : Value} (h : In w o mv nv lv cv) (ho : Only S w w') (hS : ∀ j, (blk mv = some j ∨ blk nv = some j ∨ blk lv = some j ∨ blk cv = some j) → ¬ S j) : In w' o mv nv lv cv :=
  ⟨h.mat.only ho (fun _ j hj => hS j (Or.inl hj)), h.names.only ho (fun _ j hj => hS j (Or.inr (Or.inl hj))), h.links.only ho (fun _ j hj => hS j (Or.inr (Or.inr (Or.inl hj)))), h.custom.only ho (fun _ j hj => hS j (Or.inr (Or.inr (Or.inr hj)))), h.ten, h.ints, h.dats, h.lks, h.strs⟩
theorem rU4_lt (s : Rs) : (rU 4 s).1 < 4294967296 := rU_lt 4 s 4294967296 (by decide)

set_option maxRecDepth 100000 in
set_option maxHeartbeats 4000000 in
theorem robject_any {b : Nat} {v : Value} {s : Rs} {w : World} (h : At w b v s) (hv : ∀ j, blk v = some j → j < w.heap.size) (hr : s.2.length ≤ 140737488355328) :
    Calls Tryd.prog 28 #[rv b] w fun e w' => ∃ mv nv lv cv, e = .returned (val (rOb s).1 mv nv lv cv) ∧ In w' (rOb s).1 mv nv lv cv ∧ Fresh4 w.heap.size mv nv lv cv ∧ ∃ v', To w b v w' v' (rOb s).2 := by
  unfold rv
  obtain ⟨w1, k1, e1, ek1, hb1, o1, hs1⟩ := boxed w #[.pointer (some ⟨b, 0, none⟩)] 66
  obtain ⟨w2, k2, e2, ek2, hb2, o2, hs2⟩ := boxed w1 Zo.toArray 35
  obtain ⟨w3, k3, e3, ek3, hb3, o3, hs3⟩ := boxed w2 Zo.toArray 35
  have O3 := hide ((o1.trans o2 (fun _ _ e => e)).trans o3 (fun _ _ e => e))
  have hbl := h.lt
  have HB1 := hide ((hb1.same o2).same o3)
  have HB2 := hide (hb2.same o3)
  have HX0 : Hid (Bx w3 k3 35 (part [])) := hb3
  have hk1b : k1 ≠ b := by omega
  have hk2b : k2 ≠ b := by omega
  have hk3b : k3 ≠ b := by omega
  have hk13 : k1 ≠ k3 := by omega
  have hk23 : k2 ≠ k3 := by omega
  have HK2 : Hid (w.heap.size ≤ k2) := by show _ ≤ _; omega
  have HK3 : Hid (w.heap.size ≤ k3) := by show _ ≤ _; omega
  have HK23 : Hid (k2 < k3) := by show _ < _; omega
  have HW3 : Hid (k3 < w3.heap.size ∧ b < w3.heap.size) := ⟨by omega, by omega⟩
  have HE2 := hide e2
  have HEK2 : Hid (k2 = k1 + 1) := by show _ = _; omega
  have HE3 := hide e3
  have HEK3 := hide ek3
  have HBL := hide hbl
  have HV := hide hv
  obtain ⟨x0, hx0⟩ : ∃ x, x = w3 := ⟨_, rfl⟩
  have Q0 : Hid (To w b v x0 v s) := by rw [hx0]; exact ⟨h.same (unhide O3), (unhide O3).mono (fun _ _ e => e.elim), fun _ e => e⟩
  have HR0 := hide hr
  have HSZ0 : Hid (k3 < x0.heap.size ∧ b < x0.heap.size) := by rw [hx0]; exact HW3
  obtain ⟨a0, ha0⟩ : ∃ a : Unit × Rs, a.2 = s := ⟨((), s), rfl⟩
  rw [← ha0] at Q0 HR0
  have HA0 := hide ha0
  obtain ⟨p0, hp0⟩ : ∃ p : List Value, p = [] := ⟨_, rfl⟩
  rw [← hp0, ← hx0] at HX0
  have HP0 := hide hp0
  have HPL0 : Hid (p0.length = 0) := by rw [hp0]; rfl
  have HB1x0 : Hid (Bx x0 k1 66 [.pointer (some ⟨b, 0, none⟩)]) := by rw [hx0]; exact HB1
  have HB2x0 : Hid (Bx x0 k2 35 Zo) := by rw [hx0]; exact HB2
  rw [← hx0] at HE3
  clear hb1 hb2 hb3 o1 o2 o3 hs1 hs2 hs3 hr h e2 ek2 e3 ek3 hbl hv hx0 ha0 hp0 HB1 HB2 HW3
  go_enter Tryd.func28, Tryd.ntmps28
  go_upto_region 1 with fail
  rw [zo_eq, ← e1, ← ek1, ← unhide HE2, ← unhide HEK2]
  clear e1 ek1 HE2
  go_upto_region 2 with fail
  rw [zo_eq, ← unhide HE3, ← unhide HEK3]
  clear HE3 HEK3 HEK2
  obtain ⟨v0, hv0⟩ : ∃ y, y = v := ⟨_, rfl⟩
  have Q0 : Hid (To w b v x0 v0 a0.2) := by rw [hv0]; exact Q0
  clear hv0
  obtain ⟨a1, ha1⟩ : ∃ a, a = rS a0.2 := ⟨_, rfl⟩
  have HR1 : Hid (a1.2.2.length ≤ 140737488355328) := by rw [ha1]; exact Nat.le_trans (rS_le _) (unhide HR0)
  have HA1 := hide ha1
  have d0 := (unhide HB1x0).cell 0 _ rfl
  have C0 := hide (rtext_any (unhide Q0).now (unhide HR0))
  unfold rv at C0
  rw [← ha1] at C0
  clear ha1
  go_wp2_with fail
  refine (unhide C0).mono ?_
  rintro e y1 ⟨rfl, v1, q0⟩
  have hx1 := Bx.off hk3b q0 (unhide HX0)
  have c1_0 := bx_at hx1 0 (by rw [unhide HPL0]; omega) _ rfl
  have f1_0 := hx1.free 0
  have hy1 := (bx_set hx1 0 (unhide HPL0) (by omega) (.string (str a1.1)))
  have os1 : Only (fun j => j = k3) y1 (y1.setCell ⟨k3, 0, none⟩ (.string (str a1.1))) := ((Only.refl _ y1).here _ _)
  have HB1x1 := hide ((Bx.off hk1b q0 (unhide HB1x0)).only os1 hk13)
  have HB2x1 := hide ((Bx.off hk2b q0 (unhide HB2x0)).only os1 hk23)
  obtain ⟨p1, hp1⟩ : ∃ p : List Value, p = p0 ++ [Value.string (str a1.1)] := ⟨_, rfl⟩
  rw [← hp1] at hy1
  have HP1 := hide hp1
  have HPL1 : Hid (p1.length = 1) := by rw [hp1]; simp only [List.length_append, unhide HPL0]; rfl
  have HX1 := hide hy1
  have Q1 := hide (To.set ((unhide Q0).trans q0) (unhide HK3) (unhide HBL) (unhide HV) (i := 0) (.string (str a1.1)))
  have hst1 : Only (fun j => j = b ∨ j = k3) x0 (y1.setCell ⟨k3, 0, none⟩ (.string (str a1.1))) := (q0.only.mono (T := fun j => j = b ∨ j = k3) (fun _ _ e => Or.inl e)).trans (os1.mono (T := fun j => j = b ∨ j = k3) (fun _ _ e => Or.inr e)) (fun _ _ e => e)
  have HSZ1 : Hid (k3 < (y1.setCell ⟨k3, 0, none⟩ (.string (str a1.1))).heap.size ∧ b < (y1.setCell ⟨k3, 0, none⟩ (.string (str a1.1))).heap.size) := by have h1 := unhide HSZ0; have h2 := hst1.size; exact ⟨by omega, by omega⟩
  clear hx1 hy1 os1 hp1 q0 d0 hst1 C0 Q0 HX0 HB1x0 HB2x0
  go_upto_region 3 with fail
  generalize (y1.setCell ⟨k3, 0, none⟩ (.string (str a1.1))) = x1 at *
  clear c1_0 f1_0
  obtain ⟨a2, ha2⟩ : ∃ a, a = rU 1 a1.2 := ⟨_, rfl⟩
  have HR2 : Hid (a2.2.2.length ≤ 140737488355328) := by rw [ha2]; exact Nat.le_trans (rU_le 1 _) (unhide HR1)
  have HA2 := hide ha2
  have d1 := (unhide HB1x1).cell 0 _ rfl
  have C1 := hide (gu1 (unhide Q1).now (unhide HR1))
  rw [← ha2] at C1
  clear ha2
  go_wp2_with fail
  refine (unhide C1).mono ?_
  rintro e y2 ⟨rfl, v2, q1⟩
  have hx2 := Bx.off hk3b q1 (unhide HX1)
  have c2_0 := bx_at hx2 1 (by rw [unhide HPL1]; omega) _ rfl
  have f2_0 := hx2.free 1
  have hy2 := (bx_set hx2 1 (unhide HPL1) (by omega) (.int .i64 (a2.1 : Int)))
  have os2 : Only (fun j => j = k3) y2 (y2.setCell ⟨k3, 1, none⟩ (.int .i64 (a2.1 : Int))) := ((Only.refl _ y2).here _ _)
  have HB1x2 := hide ((Bx.off hk1b q1 (unhide HB1x1)).only os2 hk13)
  have HB2x2 := hide ((Bx.off hk2b q1 (unhide HB2x1)).only os2 hk23)
  obtain ⟨p2, hp2⟩ : ∃ p : List Value, p = p1 ++ [Value.int .i64 (a2.1 : Int)] := ⟨_, rfl⟩
  rw [← hp2] at hy2
  have HP2 := hide hp2
  have HPL2 : Hid (p2.length = 2) := by rw [hp2]; simp only [List.length_append, unhide HPL1]; rfl
  have HX2 := hide hy2
  have Q2 := hide (To.set ((unhide Q1).trans q1) (unhide HK3) (unhide HBL) (unhide HV) (i := 1) (.int .i64 (a2.1 : Int)))
  have hst2 : Only (fun j => j = b ∨ j = k3) x1 (y2.setCell ⟨k3, 1, none⟩ (.int .i64 (a2.1 : Int))) := (q1.only.mono (T := fun j => j = b ∨ j = k3) (fun _ _ e => Or.inl e)).trans (os2.mono (T := fun j => j = b ∨ j = k3) (fun _ _ e => Or.inr e)) (fun _ _ e => e)
  have HSZ2 : Hid (k3 < (y2.setCell ⟨k3, 1, none⟩ (.int .i64 (a2.1 : Int))).heap.size ∧ b < (y2.setCell ⟨k3, 1, none⟩ (.int .i64 (a2.1 : Int))).heap.size) := by have h1 := unhide HSZ1; have h2 := hst2.size; exact ⟨by omega, by omega⟩
  clear hx2 hy2 os2 hp2 q1 d1 hst2 C1 Q1 HX1 HB1x1 HB2x1
  go_upto_region 4 with fail
  generalize (y2.setCell ⟨k3, 1, none⟩ (.int .i64 (a2.1 : Int))) = x2 at *
  clear c2_0 f2_0
  obtain ⟨a3, ha3⟩ : ∃ a, a = rU 1 a2.2 := ⟨_, rfl⟩
  have HR3 : Hid (a3.2.2.length ≤ 140737488355328) := by rw [ha3]; exact Nat.le_trans (rU_le 1 _) (unhide HR2)
  have HA3 := hide ha3
  have d2 := (unhide HB1x2).cell 0 _ rfl
  have C2 := hide (gu1 (unhide Q2).now (unhide HR2))
  rw [← ha3] at C2
  clear ha3
  go_wp2_with fail
  refine (unhide C2).mono ?_
  rintro e y3 ⟨rfl, v3, q2⟩
  have hx3 := Bx.off hk3b q2 (unhide HX2)
  have c3_0 := bx_at hx3 2 (by rw [unhide HPL2]; omega) _ rfl
  have f3_0 := hx3.free 2
  have hy3 := (bx_set hx3 2 (unhide HPL2) (by omega) (.int .i64 (a3.1 : Int)))
  have os3 : Only (fun j => j = k3) y3 (y3.setCell ⟨k3, 2, none⟩ (.int .i64 (a3.1 : Int))) := ((Only.refl _ y3).here _ _)
  have HB1x3 := hide ((Bx.off hk1b q2 (unhide HB1x2)).only os3 hk13)
  have HB2x3 := hide ((Bx.off hk2b q2 (unhide HB2x2)).only os3 hk23)
  obtain ⟨p3, hp3⟩ : ∃ p : List Value, p = p2 ++ [Value.int .i64 (a3.1 : Int)] := ⟨_, rfl⟩
  rw [← hp3] at hy3
  have HP3 := hide hp3
  have HPL3 : Hid (p3.length = 3) := by rw [hp3]; simp only [List.length_append, unhide HPL2]; rfl
  have HX3 := hide hy3
  have Q3 := hide (To.set ((unhide Q2).trans q2) (unhide HK3) (unhide HBL) (unhide HV) (i := 2) (.int .i64 (a3.1 : Int)))
  have hst3 : Only (fun j => j = b ∨ j = k3) x2 (y3.setCell ⟨k3, 2, none⟩ (.int .i64 (a3.1 : Int))) := (q2.only.mono (T := fun j => j = b ∨ j = k3) (fun _ _ e => Or.inl e)).trans (os3.mono (T := fun j => j = b ∨ j = k3) (fun _ _ e => Or.inr e)) (fun _ _ e => e)
  have HSZ3 : Hid (k3 < (y3.setCell ⟨k3, 2, none⟩ (.int .i64 (a3.1 : Int))).heap.size ∧ b < (y3.setCell ⟨k3, 2, none⟩ (.int .i64 (a3.1 : Int))).heap.size) := by have h1 := unhide HSZ2; have h2 := hst3.size; exact ⟨by omega, by omega⟩
  clear hx3 hy3 os3 hp3 q2 d2 hst3 C2 Q2 HX2 HB1x2 HB2x2
  go_upto_region 5 with fail
  generalize (y3.setCell ⟨k3, 2, none⟩ (.int .i64 (a3.1 : Int))) = x3 at *
  clear c3_0 f3_0
  obtain ⟨a4, ha4⟩ : ∃ a, a = rU 4 a3.2 := ⟨_, rfl⟩
  have HR4 : Hid (a4.2.2.length ≤ 140737488355328) := by rw [ha4]; exact Nat.le_trans (rU_le 4 _) (unhide HR3)
  have HA4 := hide ha4
  have d3 := (unhide HB1x3).cell 0 _ rfl
  have C3 := hide (gu4 (unhide Q3).now (unhide HR3))
  rw [← ha4] at C3
  clear ha4
  go_wp2_with fail
  refine (unhide C3).mono ?_
  rintro e y4 ⟨rfl, v4, q3⟩
  have hx4 := Bx.off hk3b q3 (unhide HX3)
  have c4_0 := bx_at hx4 3 (by rw [unhide HPL3]; omega) _ rfl
  have f4_0 := hx4.free 3
  have hy4 := (bx_set hx4 3 (unhide HPL3) (by omega) (.int .i64 (a4.1 : Int)))
  have os4 : Only (fun j => j = k3) y4 (y4.setCell ⟨k3, 3, none⟩ (.int .i64 (a4.1 : Int))) := ((Only.refl _ y4).here _ _)
  have HB1x4 := hide ((Bx.off hk1b q3 (unhide HB1x3)).only os4 hk13)
  have HB2x4 := hide ((Bx.off hk2b q3 (unhide HB2x3)).only os4 hk23)
  obtain ⟨p4, hp4⟩ : ∃ p : List Value, p = p3 ++ [Value.int .i64 (a4.1 : Int)] := ⟨_, rfl⟩
  rw [← hp4] at hy4
  have HP4 := hide hp4
  have HPL4 : Hid (p4.length = 4) := by rw [hp4]; simp only [List.length_append, unhide HPL3]; rfl
  have HX4 := hide hy4
  have Q4 := hide (To.set ((unhide Q3).trans q3) (unhide HK3) (unhide HBL) (unhide HV) (i := 3) (.int .i64 (a4.1 : Int)))
  have hst4 : Only (fun j => j = b ∨ j = k3) x3 (y4.setCell ⟨k3, 3, none⟩ (.int .i64 (a4.1 : Int))) := (q3.only.mono (T := fun j => j = b ∨ j = k3) (fun _ _ e => Or.inl e)).trans (os4.mono (T := fun j => j = b ∨ j = k3) (fun _ _ e => Or.inr e)) (fun _ _ e => e)
  have HSZ4 : Hid (k3 < (y4.setCell ⟨k3, 3, none⟩ (.int .i64 (a4.1 : Int))).heap.size ∧ b < (y4.setCell ⟨k3, 3, none⟩ (.int .i64 (a4.1 : Int))).heap.size) := by have h1 := unhide HSZ3; have h2 := hst4.size; exact ⟨by omega, by omega⟩
  clear hx4 hy4 os4 hp4 q3 d3 hst4 C3 Q3 HX3 HB1x3 HB2x3
  go_upto_region 6 with fail
  generalize (y4.setCell ⟨k3, 3, none⟩ (.int .i64 (a4.1 : Int))) = x4 at *
  clear c4_0 f4_0
  obtain ⟨a5, ha5⟩ : ∃ a, a = rU 4 a4.2 := ⟨_, rfl⟩
  have HR5 : Hid (a5.2.2.length ≤ 140737488355328) := by rw [ha5]; exact Nat.le_trans (rU_le 4 _) (unhide HR4)
  have HA5 := hide ha5
  have d4 := (unhide HB1x4).cell 0 _ rfl
  have C4 := hide (gu4 (unhide Q4).now (unhide HR4))
  rw [← ha5] at C4
  clear ha5
  go_wp2_with fail
  refine (unhide C4).mono ?_
  rintro e y5 ⟨rfl, v5, q4⟩
  have hx5 := Bx.off hk3b q4 (unhide HX4)
  have c5_0 := bx_at hx5 4 (by rw [unhide HPL4]; omega) _ rfl
  have f5_0 := hx5.free 4
  have hy5 := (bx_set hx5 4 (unhide HPL4) (by omega) (.int .i64 (a5.1 : Int)))
  have os5 : Only (fun j => j = k3) y5 (y5.setCell ⟨k3, 4, none⟩ (.int .i64 (a5.1 : Int))) := ((Only.refl _ y5).here _ _)
  have HB1x5 := hide ((Bx.off hk1b q4 (unhide HB1x4)).only os5 hk13)
  have HB2x5 := hide ((Bx.off hk2b q4 (unhide HB2x4)).only os5 hk23)
  obtain ⟨p5, hp5⟩ : ∃ p : List Value, p = p4 ++ [Value.int .i64 (a5.1 : Int)] := ⟨_, rfl⟩
  rw [← hp5] at hy5
  have HP5 := hide hp5
  have HPL5 : Hid (p5.length = 5) := by rw [hp5]; simp only [List.length_append, unhide HPL4]; rfl
  have HX5 := hide hy5
  have Q5 := hide (To.set ((unhide Q4).trans q4) (unhide HK3) (unhide HBL) (unhide HV) (i := 4) (.int .i64 (a5.1 : Int)))
  have hst5 : Only (fun j => j = b ∨ j = k3) x4 (y5.setCell ⟨k3, 4, none⟩ (.int .i64 (a5.1 : Int))) := (q4.only.mono (T := fun j => j = b ∨ j = k3) (fun _ _ e => Or.inl e)).trans (os5.mono (T := fun j => j = b ∨ j = k3) (fun _ _ e => Or.inr e)) (fun _ _ e => e)
  have HSZ5 : Hid (k3 < (y5.setCell ⟨k3, 4, none⟩ (.int .i64 (a5.1 : Int))).heap.size ∧ b < (y5.setCell ⟨k3, 4, none⟩ (.int .i64 (a5.1 : Int))).heap.size) := by have h1 := unhide HSZ4; have h2 := hst5.size; exact ⟨by omega, by omega⟩
  clear hx5 hy5 os5 hp5 q4 d4 hst5 C4 Q4 HX4 HB1x4 HB2x4
  go_upto_region 7 with fail
  generalize (y5.setCell ⟨k3, 4, none⟩ (.int .i64 (a5.1 : Int))) = x5 at *
  clear c5_0 f5_0
  obtain ⟨a6, ha6⟩ : ∃ a, a = rS a5.2 := ⟨_, rfl⟩
  have HR6 : Hid (a6.2.2.length ≤ 140737488355328) := by rw [ha6]; exact Nat.le_trans (rS_le _) (unhide HR5)
  have HA6 := hide ha6
  have d5 := (unhide HB1x5).cell 0 _ rfl
  have C5 := hide (gsh (unhide Q5).now (unhide HR5))
  rw [← ha6] at C5
  clear ha6
  go_wp2_with fail
  refine (unhide C5).mono ?_
  rintro e y6 ⟨m6, rfl, ho6, v6, q5⟩
  obtain ⟨g6, z6, hm6⟩ := ownsRow_shape ho6.out
  subst hm6
  have hx6 := Bx.off hk3b q5 (unhide HX5)
  have c6_0 := bx_at hx6 5 (by rw [unhide HPL5]; omega) _ rfl
  have f6_0 := hx6.free 5
  have hy6 := (bx_set hx6 5 (unhide HPL5) (by omega) (.slice g6 a6.1.length z6))
  have os6 : Only (fun j => j = k3) y6 (y6.setCell ⟨k3, 5, none⟩ (.slice g6 a6.1.length z6)) := ((Only.refl _ y6).here _ _)
  have HB1x6 := hide ((Bx.off hk1b q5 (unhide HB1x5)).only os6 hk13)
  have HB2x6 := hide ((Bx.off hk2b q5 (unhide HB2x5)).only os6 hk23)
  obtain ⟨p6, hp6⟩ : ∃ p : List Value, p = p5 ++ [Value.slice g6 a6.1.length z6] := ⟨_, rfl⟩
  rw [← hp6] at hy6
  have HP6 := hide hp6
  have HPL6 : Hid (p6.length = 6) := by rw [hp6]; simp only [List.length_append, unhide HPL5]; rfl
  have HX6 := hide hy6
  have Q6 := hide (To.set ((unhide Q5).trans q5) (unhide HK3) (unhide HBL) (unhide HV) (i := 5) (.slice g6 a6.1.length z6))
  have hst6 : Only (fun j => j = b ∨ j = k3) x5 (y6.setCell ⟨k3, 5, none⟩ (.slice g6 a6.1.length z6)) := (q5.only.mono (T := fun j => j = b ∨ j = k3) (fun _ _ e => Or.inl e)).trans (os6.mono (T := fun j => j = b ∨ j = k3) (fun _ _ e => Or.inr e)) (fun _ _ e => e)
  have HSZ6 : Hid (k3 < (y6.setCell ⟨k3, 5, none⟩ (.slice g6 a6.1.length z6)).heap.size ∧ b < (y6.setCell ⟨k3, 5, none⟩ (.slice g6 a6.1.length z6)).heap.size) := by have h1 := unhide HSZ5; have h2 := hst6.size; exact ⟨by omega, by omega⟩
  have OM := hide (os6.owns ho6.out (fun j hj e => by have h1 := (ho6.out.lt j hj).1; have h2 := unhide HSZ5; omega))
  have HBM : Hid (k3 < x5.heap.size ∧ b < x5.heap.size) := HSZ5
  clear hx6 hy6 os6 hp6 q5 d5 hst6 C5 Q5 HX5 HB1x5 HB2x5 ho6
  go_upto_region 8 with fail
  generalize (y6.setCell ⟨k3, 5, none⟩ (.slice g6 a6.1.length z6)) = x6 at *
  clear c6_0 f6_0
  obtain ⟨a7, ha7⟩ : ∃ a, a = rU 1 a6.2 := ⟨_, rfl⟩
  have HR7 : Hid (a7.2.2.length ≤ 140737488355328) := by rw [ha7]; exact Nat.le_trans (rU_le 1 _) (unhide HR6)
  have HA7 := hide ha7
  have d6 := (unhide HB1x6).cell 0 _ rfl
  have C6 := hide (gu1 (unhide Q6).now (unhide HR6))
  rw [← ha7] at C6
  clear ha7
  go_wp2_with fail
  refine (unhide C6).mono ?_
  rintro e y7 ⟨rfl, v7, q6⟩
  have hx7 := Bx.off hk3b q6 (unhide HX6)
  have c7_0 := bx_at hx7 6 (by rw [unhide HPL6]; omega) _ rfl
  have f7_0 := hx7.free 6
  have hy7 := (bx_set hx7 6 (unhide HPL6) (by omega) (.int .i64 (a7.1 : Int)))
  have os7 : Only (fun j => j = k3) y7 (y7.setCell ⟨k3, 6, none⟩ (.int .i64 (a7.1 : Int))) := ((Only.refl _ y7).here _ _)
  have HB1x7 := hide ((Bx.off hk1b q6 (unhide HB1x6)).only os7 hk13)
  have HB2x7 := hide ((Bx.off hk2b q6 (unhide HB2x6)).only os7 hk23)
  obtain ⟨p7, hp7⟩ : ∃ p : List Value, p = p6 ++ [Value.int .i64 (a7.1 : Int)] := ⟨_, rfl⟩
  rw [← hp7] at hy7
  have HP7 := hide hp7
  have HPL7 : Hid (p7.length = 7) := by rw [hp7]; simp only [List.length_append, unhide HPL6]; rfl
  have HX7 := hide hy7
  have Q7 := hide (To.set ((unhide Q6).trans q6) (unhide HK3) (unhide HBL) (unhide HV) (i := 6) (.int .i64 (a7.1 : Int)))
  have hst7 : Only (fun j => j = b ∨ j = k3) x6 (y7.setCell ⟨k3, 6, none⟩ (.int .i64 (a7.1 : Int))) := (q6.only.mono (T := fun j => j = b ∨ j = k3) (fun _ _ e => Or.inl e)).trans (os7.mono (T := fun j => j = b ∨ j = k3) (fun _ _ e => Or.inr e)) (fun _ _ e => e)
  have HSZ7 : Hid (k3 < (y7.setCell ⟨k3, 6, none⟩ (.int .i64 (a7.1 : Int))).heap.size ∧ b < (y7.setCell ⟨k3, 6, none⟩ (.int .i64 (a7.1 : Int))).heap.size) := by have h1 := unhide HSZ6; have h2 := hst7.size; exact ⟨by omega, by omega⟩
  have OM := hide (hst7.owns (unhide OM) (fun j hj e => by have h1 := ((unhide OM).lt j hj).1; have h2 := unhide HBM; rcases e with e | e <;> omega))
  clear hx7 hy7 os7 hp7 q6 d6 hst7 C6 Q6 HX6 HB1x6 HB2x6
  go_upto_region 9 with fail
  generalize (y7.setCell ⟨k3, 6, none⟩ (.int .i64 (a7.1 : Int))) = x7 at *
  clear c7_0 f7_0
  obtain ⟨a8, ha8⟩ : ∃ a, a = rMany rDate 10 a7.2 := ⟨_, rfl⟩
  have HR8 : Hid (a8.2.2.length ≤ 140737488355328) := by rw [ha8]; exact Nat.le_trans (many_le rDate rDate_le 10 _) (unhide HR7)
  have HA8 := hide ha8
  have d7 := (unhide HB1x7).cell 0 _ rfl
  have hml10 : a8.1.length = 10 := by rw [ha8]; exact many_len _ _ _
  have HML10 := hide hml10
  clear ha8 d7 hml10
  go_wp2
  go_loopw [32] (fun i wr => ∃ k : Nat, k ≤ 10 ∧ i = .int .i64 k ∧ Hid (∃ v2, To w b v wr v2 (rMany rDate k a7.2).2) ∧ Hid (Bx wr k3 35 (part (p7 ++ (rMany rDate k a7.2).1.flatMap dcells))) ∧ Hid (Bx wr k1 66 [.pointer (some ⟨b, 0, none⟩)]) ∧ Hid (Bx wr k2 35 Zo) ∧ Hid (Only (fun j => j = b ∨ j = k3) x7 wr)) (fun i _ => 10 - (intOf i).toNat)
  case atStart => exact ⟨0, Nat.zero_le _, rfl, ⟨v7, unhide Q7⟩, by rw [show (rMany rDate 0 a7.2).1 = [] from rfl, List.flatMap_nil, List.append_nil]; exact HX7, HB1x7, HB2x7, Only.refl _ _⟩
  case round =>
  rename World => wr
  obtain ⟨k, hk, rfl, hq0, hbx, hb1x, hb2x, hor⟩ := hrel
  obtain ⟨vr, hq1⟩ := unhide hq0
  have hq := hide hq1
  clear hq0 hq1
  by_cases hlt : k < 10
  case pos =>
    have HS : Hid (rMany rDate (k + 1) a7.2 = ((rMany rDate k a7.2).1 ++ [(rDate (rMany rDate k a7.2).2).1], (rDate (rMany rDate k a7.2).2).2)) := many_snoc rDate k a7.2
    have HRk : Hid ((rMany rDate k a7.2).2.2.length ≤ 140737488355328) := Nat.le_trans (many_le rDate rDate_le k _) (unhide HR7)
    have hml : (rMany rDate k a7.2).1.length = k := many_len _ _ _
    generalize (rMany rDate k a7.2).1 = L at *
    generalize (rMany rDate k a7.2).2 = sk at *
    obtain ⟨y, hy⟩ : ∃ y, y = (rDate sk).1 := ⟨_, rfl⟩
    obtain ⟨sl, hsl⟩ : ∃ y, y = (rDate sk).2 := ⟨_, rfl⟩
    have HC := hide (rdate_any (unhide hq).now (fun j hj => by have := unhide HV j ((unhide hq).vblk j hj); have := (unhide hq).only.size; omega) (unhide HRk))
    rw [← hy, ← hsl] at HC HS
    have hpl : (p7 ++ L.flatMap dcells).length = 7 + k * 2 := by rw [List.length_append, dcells_len, hml, unhide HPL7]; omega
    have hpl2 : (p7 ++ L.flatMap dcells ++ [Value.bool y.1]).length = 7 + k * 2 + 1 := by rw [List.length_append, hpl]; rfl
    have d9 := (unhide hb1x).cell 0 _ rfl
    have hzo := zo_date k hlt
    have hkz : (k : Int) < 10 := by omega
    have hkn : (0 : Int) ≤ (k : Int) := by omega
    unfold rv at HC
    clear hy hsl hml
    go_wp2_with fail
    refine (unhide HC).mono ?_
    rintro e x ⟨rfl, v3, q3⟩
    have hx := Bx.off hk3b q3 (unhide hbx)
    have c0 := bx_at hx (7 + k * 2) (by omega) _ hzo.1
    have c1 := bx_at hx (7 + k * 2 + 1) (by omega) _ hzo.2
    have f0 := hx.free (7 + k * 2)
    have f1 := hx.free (7 + k * 2 + 1)
    have hy := bx_set (bx_set hx (7 + k * 2) hpl (by omega) (.bool y.1)) (7 + k * 2 + 1) hpl2 (by omega) (.int .i64 y.2)
    have os : Only (fun j => j = k3) x ((x.setCell ⟨k3, 7 + k * 2, none⟩ (.bool y.1)).setCell ⟨k3, 7 + k * 2 + 1, none⟩ (.int .i64 y.2)) := ((Only.refl _ x).here _ _).here _ _
    have hqq := To.set (To.set ((unhide hq).trans q3) (unhide HK3) (unhide HBL) (unhide HV) (i := 7 + k * 2) (.bool y.1)) (unhide HK3) (unhide HBL) (unhide HV) (i := 7 + k * 2 + 1) (.int .i64 y.2)
    have HY := hide hy
    have QQ := hide hqq
    have HB1z := hide ((Bx.off hk1b q3 (unhide hb1x)).only os hk13)
    have HB2z := hide ((Bx.off hk2b q3 (unhide hb2x)).only os hk23)
    have HOR := hide (((unhide hor).trans (q3.only.mono (T := fun j => j = b ∨ j = k3) (fun _ _ e => Or.inl e)) (fun _ _ e => e)).trans (os.mono (T := fun j => j = b ∨ j = k3) (fun _ _ e => Or.inr e)) (fun _ _ e => e))
    have hcast : (7 : Int) + (k : Int) * 2 = ((7 + k * 2 : Nat) : Int) := by omega
    clear hx hy os hqq q3 d9 hzo hpl hpl2 hq hbx hb1x hb2x hor HC
    obtain ⟨q, hq7⟩ : ∃ q, q = 7 + k * 2 := ⟨_, rfl⟩
    go_upto_region 13 with fail
    generalize (x.setCell ⟨k3, 7 + k * 2, none⟩ (.bool y.1)).setCell ⟨k3, 7 + k * 2 + 1, none⟩ (.int .i64 y.2) = xn at *
    go_wp2
    go_roundw
    case rel =>
      refine ⟨k + 1, by omega, by go_num, ⟨v3, ?_⟩, ?_, HB1z, HB2z, HOR⟩
      · rw [unhide HS]
        exact unhide QQ
      · show Bx _ _ _ _
        rw [unhide HS, List.flatMap_append, ← List.append_assoc]
        have := unhide HY
        rw [List.append_assoc] at this
        exact this
    case measure => simp [intOf]; omega
  case neg =>
  obtain rfl : k = 10 := by omega
  obtain ⟨x8, hxx⟩ : ∃ x, x = wr := ⟨_, rfl⟩
  obtain ⟨v8, hvv⟩ : ∃ x, x = vr := ⟨_, rfl⟩
  obtain ⟨p8, hp8⟩ : ∃ p, p = p7 ++ a8.1.flatMap dcells := ⟨_, rfl⟩
  rw [← unhide HA8, ← hxx, ← hvv] at hq
  rw [← unhide HA8, ← hp8, ← hxx] at hbx
  rw [← hxx] at hb1x hb2x hor
  rw [← hxx]
  have HP8 := hide hp8
  have HPL8 : Hid (p8.length = 27) := by rw [hp8]; show _ = _; rw [List.length_append, dcells_len, unhide HPL7, unhide HML10]
  have HX8 := hbx
  have Q8 := hq
  have HB1x8 := hb1x
  have HB2x8 := hb2x
  have HSZ8 : Hid (k3 < x8.heap.size ∧ b < x8.heap.size) := by have h1 := unhide HSZ7; have h2 := (unhide hor).size; exact ⟨by omega, by omega⟩
  have hst8 := unhide hor
  have OM := hide (hst8.owns (unhide OM) (fun j hj e => by have h1 := ((unhide OM).lt j hj).1; have h2 := unhide HBM; rcases e with e | e <;> omega))
  clear hq hbx hb1x hb2x hor hxx hvv hp8 hlt hk hst8 Q7 HX7 HB1x7 HB2x7
  obtain ⟨a9, ha9⟩ : ∃ a, a = rU 1 a8.2 := ⟨_, rfl⟩
  have HR9 : Hid (a9.2.2.length ≤ 140737488355328) := by rw [ha9]; exact Nat.le_trans (rU_le 1 _) (unhide HR8)
  have HA9 := hide ha9
  have d8 := (unhide HB1x8).cell 0 _ rfl
  have C8 := hide (gu1 (unhide Q8).now (unhide HR8))
  rw [← ha9] at C8
  clear ha9
  go_wp2_with fail
  refine (unhide C8).mono ?_
  rintro e y9 ⟨rfl, v9, q8⟩
  have hx9 := Bx.off hk3b q8 (unhide HX8)
  have c9_0 := bx_at hx9 27 (by rw [unhide HPL8]; omega) _ rfl
  have f9_0 := hx9.free 27
  have hy9 := (bx_set hx9 27 (unhide HPL8) (by omega) (.int .i64 (a9.1 : Int)))
  have os9 : Only (fun j => j = k3) y9 (y9.setCell ⟨k3, 27, none⟩ (.int .i64 (a9.1 : Int))) := ((Only.refl _ y9).here _ _)
  have HB1x9 := hide ((Bx.off hk1b q8 (unhide HB1x8)).only os9 hk13)
  have HB2x9 := hide ((Bx.off hk2b q8 (unhide HB2x8)).only os9 hk23)
  obtain ⟨p9, hp9⟩ : ∃ p : List Value, p = p8 ++ [Value.int .i64 (a9.1 : Int)] := ⟨_, rfl⟩
  rw [← hp9] at hy9
  have HP9 := hide hp9
  have HPL9 : Hid (p9.length = 28) := by rw [hp9]; simp only [List.length_append, unhide HPL8]; rfl
  have HX9 := hide hy9
  have Q9 := hide (To.set ((unhide Q8).trans q8) (unhide HK3) (unhide HBL) (unhide HV) (i := 27) (.int .i64 (a9.1 : Int)))
  have hst9 : Only (fun j => j = b ∨ j = k3) x8 (y9.setCell ⟨k3, 27, none⟩ (.int .i64 (a9.1 : Int))) := (q8.only.mono (T := fun j => j = b ∨ j = k3) (fun _ _ e => Or.inl e)).trans (os9.mono (T := fun j => j = b ∨ j = k3) (fun _ _ e => Or.inr e)) (fun _ _ e => e)
  have HSZ9 : Hid (k3 < (y9.setCell ⟨k3, 27, none⟩ (.int .i64 (a9.1 : Int))).heap.size ∧ b < (y9.setCell ⟨k3, 27, none⟩ (.int .i64 (a9.1 : Int))).heap.size) := by have h1 := unhide HSZ8; have h2 := hst9.size; exact ⟨by omega, by omega⟩
  have OM := hide (hst9.owns (unhide OM) (fun j hj e => by have h1 := ((unhide OM).lt j hj).1; have h2 := unhide HBM; rcases e with e | e <;> omega))
  clear hx9 hy9 os9 hp9 q8 d8 hst9 C8 Q8 HX8 HB1x8 HB2x8
  go_upto_region 15 with fail
  generalize (y9.setCell ⟨k3, 27, none⟩ (.int .i64 (a9.1 : Int))) = x9 at *
  clear c9_0 f9_0
  obtain ⟨a10, ha10⟩ : ∃ a, a = rS a9.2 := ⟨_, rfl⟩
  have HR10 : Hid (a10.2.2.length ≤ 140737488355328) := by rw [ha10]; exact Nat.le_trans (rS_le _) (unhide HR9)
  have HA10 := hide ha10
  have d9 := (unhide HB1x9).cell 0 _ rfl
  have C9 := hide (rtext_any (unhide Q9).now (unhide HR9))
  unfold rv at C9
  rw [← ha10] at C9
  clear ha10
  go_wp2_with fail
  refine (unhide C9).mono ?_
  rintro e y10 ⟨rfl, v10, q9⟩
  have hx10 := Bx.off hk3b q9 (unhide HX9)
  have c10_0 := bx_at hx10 28 (by rw [unhide HPL9]; omega) _ rfl
  have f10_0 := hx10.free 28
  have hy10 := (bx_set hx10 28 (unhide HPL9) (by omega) (.string (str a10.1)))
  have os10 : Only (fun j => j = k3) y10 (y10.setCell ⟨k3, 28, none⟩ (.string (str a10.1))) := ((Only.refl _ y10).here _ _)
  have HB1x10 := hide ((Bx.off hk1b q9 (unhide HB1x9)).only os10 hk13)
  have HB2x10 := hide ((Bx.off hk2b q9 (unhide HB2x9)).only os10 hk23)
  obtain ⟨p10, hp10⟩ : ∃ p : List Value, p = p9 ++ [Value.string (str a10.1)] := ⟨_, rfl⟩
  rw [← hp10] at hy10
  have HP10 := hide hp10
  have HPL10 : Hid (p10.length = 29) := by rw [hp10]; simp only [List.length_append, unhide HPL9]; rfl
  have HX10 := hide hy10
  have Q10 := hide (To.set ((unhide Q9).trans q9) (unhide HK3) (unhide HBL) (unhide HV) (i := 28) (.string (str a10.1)))
  have hst10 : Only (fun j => j = b ∨ j = k3) x9 (y10.setCell ⟨k3, 28, none⟩ (.string (str a10.1))) := (q9.only.mono (T := fun j => j = b ∨ j = k3) (fun _ _ e => Or.inl e)).trans (os10.mono (T := fun j => j = b ∨ j = k3) (fun _ _ e => Or.inr e)) (fun _ _ e => e)
  have HSZ10 : Hid (k3 < (y10.setCell ⟨k3, 28, none⟩ (.string (str a10.1))).heap.size ∧ b < (y10.setCell ⟨k3, 28, none⟩ (.string (str a10.1))).heap.size) := by have h1 := unhide HSZ9; have h2 := hst10.size; exact ⟨by omega, by omega⟩
  have OM := hide (hst10.owns (unhide OM) (fun j hj e => by have h1 := ((unhide OM).lt j hj).1; have h2 := unhide HBM; rcases e with e | e <;> omega))
  clear hx10 hy10 os10 hp10 q9 d9 hst10 C9 Q9 HX9 HB1x9 HB2x9
  go_upto_region 16 with fail
  generalize (y10.setCell ⟨k3, 28, none⟩ (.string (str a10.1))) = x10 at *
  clear c10_0 f10_0
  obtain ⟨a11, ha11⟩ : ∃ a, a = rAll rS a10.2 := ⟨_, rfl⟩
  have HR11 : Hid (a11.2.2.length ≤ 140737488355328) := by rw [ha11]; exact Nat.le_trans (Nat.le_trans (many_le rS rS_le _ _) (rU_le 1 _)) (unhide HR10)
  have HA11 := hide ha11
  have d10 := (unhide HB1x10).cell 0 _ rfl
  have C10 := hide (take_s (unhide Q10).now (fun j hj => by have := unhide HV j ((unhide Q10).vblk j hj); have := (unhide Q10).only.size; omega) (unhide HR10))
  unfold rv at C10
  rw [← ha11] at C10
  clear ha11
  go_wp2_with fail
  refine (unhide C10).mono ?_
  rintro e y11 ⟨m11, rfl, ho11, v11, q10⟩
  obtain ⟨g11, z11, hm11⟩ := ownsRow_shape ho11
  subst hm11
  have hx11 := Bx.off hk3b q10 (unhide HX10)
  have c11_0 := bx_at hx11 29 (by rw [unhide HPL10]; omega) _ rfl
  have f11_0 := hx11.free 29
  have hy11 := (bx_set hx11 29 (unhide HPL10) (by omega) (.slice g11 a11.1.length z11))
  have os11 : Only (fun j => j = k3) y11 (y11.setCell ⟨k3, 29, none⟩ (.slice g11 a11.1.length z11)) := ((Only.refl _ y11).here _ _)
  have HB1x11 := hide ((Bx.off hk1b q10 (unhide HB1x10)).only os11 hk13)
  have HB2x11 := hide ((Bx.off hk2b q10 (unhide HB2x10)).only os11 hk23)
  obtain ⟨p11, hp11⟩ : ∃ p : List Value, p = p10 ++ [Value.slice g11 a11.1.length z11] := ⟨_, rfl⟩
  rw [← hp11] at hy11
  have HP11 := hide hp11
  have HPL11 : Hid (p11.length = 30) := by rw [hp11]; simp only [List.length_append, unhide HPL10]; rfl
  have HX11 := hide hy11
  have Q11 := hide (To.set ((unhide Q10).trans q10) (unhide HK3) (unhide HBL) (unhide HV) (i := 29) (.slice g11 a11.1.length z11))
  have hst11 : Only (fun j => j = b ∨ j = k3) x10 (y11.setCell ⟨k3, 29, none⟩ (.slice g11 a11.1.length z11)) := (q10.only.mono (T := fun j => j = b ∨ j = k3) (fun _ _ e => Or.inl e)).trans (os11.mono (T := fun j => j = b ∨ j = k3) (fun _ _ e => Or.inr e)) (fun _ _ e => e)
  have HSZ11 : Hid (k3 < (y11.setCell ⟨k3, 29, none⟩ (.slice g11 a11.1.length z11)).heap.size ∧ b < (y11.setCell ⟨k3, 29, none⟩ (.slice g11 a11.1.length z11)).heap.size) := by have h1 := unhide HSZ10; have h2 := hst11.size; exact ⟨by omega, by omega⟩
  have OM := hide (hst11.owns (unhide OM) (fun j hj e => by have h1 := ((unhide OM).lt j hj).1; have h2 := unhide HBM; rcases e with e | e <;> omega))
  have ON := hide (os11.owns ho11 (fun j hj e => by have h1 := (ho11.lt j hj).1; have h2 := unhide HSZ10; omega))
  have HBN : Hid (k3 < x10.heap.size ∧ b < x10.heap.size) := HSZ10
  clear hx11 hy11 os11 hp11 q10 d10 hst11 C10 Q10 HX10 HB1x10 HB2x10 ho11
  go_upto_region 17 with fail
  generalize (y11.setCell ⟨k3, 29, none⟩ (.slice g11 a11.1.length z11)) = x11 at *
  clear c11_0 f11_0
  obtain ⟨a12, ha12⟩ : ∃ a, a = rAll rLink a11.2 := ⟨_, rfl⟩
  have HR12 : Hid (a12.2.2.length ≤ 140737488355328) := by rw [ha12]; exact Nat.le_trans (Nat.le_trans (many_le rLink rLink_le _ _) (rU_le 1 _)) (unhide HR11)
  have HA12 := hide ha12
  have d11 := (unhide HB1x11).cell 0 _ rfl
  have C11 := hide (take_k (unhide Q11).now (fun j hj => by have := unhide HV j ((unhide Q11).vblk j hj); have := (unhide Q11).only.size; omega) (unhide HR11))
  unfold rv at C11
  rw [← ha12] at C11
  clear ha12
  go_wp2_with fail
  refine (unhide C11).mono ?_
  rintro e y12 ⟨m12, rfl, ho12, v12, q11⟩
  obtain ⟨g12, z12, hm12⟩ := ownsRow_shape ho12
  subst hm12
  have hx12 := Bx.off hk3b q11 (unhide HX11)
  have c12_0 := bx_at hx12 30 (by rw [unhide HPL11]; omega) _ rfl
  have f12_0 := hx12.free 30
  have hy12 := (bx_set hx12 30 (unhide HPL11) (by omega) (.slice g12 a12.1.length z12))
  have os12 : Only (fun j => j = k3) y12 (y12.setCell ⟨k3, 30, none⟩ (.slice g12 a12.1.length z12)) := ((Only.refl _ y12).here _ _)
  have HB1x12 := hide ((Bx.off hk1b q11 (unhide HB1x11)).only os12 hk13)
  have HB2x12 := hide ((Bx.off hk2b q11 (unhide HB2x11)).only os12 hk23)
  obtain ⟨p12, hp12⟩ : ∃ p : List Value, p = p11 ++ [Value.slice g12 a12.1.length z12] := ⟨_, rfl⟩
  rw [← hp12] at hy12
  have HP12 := hide hp12
  have HPL12 : Hid (p12.length = 31) := by rw [hp12]; simp only [List.length_append, unhide HPL11]; rfl
  have HX12 := hide hy12
  have Q12 := hide (To.set ((unhide Q11).trans q11) (unhide HK3) (unhide HBL) (unhide HV) (i := 30) (.slice g12 a12.1.length z12))
  have hst12 : Only (fun j => j = b ∨ j = k3) x11 (y12.setCell ⟨k3, 30, none⟩ (.slice g12 a12.1.length z12)) := (q11.only.mono (T := fun j => j = b ∨ j = k3) (fun _ _ e => Or.inl e)).trans (os12.mono (T := fun j => j = b ∨ j = k3) (fun _ _ e => Or.inr e)) (fun _ _ e => e)
  have HSZ12 : Hid (k3 < (y12.setCell ⟨k3, 30, none⟩ (.slice g12 a12.1.length z12)).heap.size ∧ b < (y12.setCell ⟨k3, 30, none⟩ (.slice g12 a12.1.length z12)).heap.size) := by have h1 := unhide HSZ11; have h2 := hst12.size; exact ⟨by omega, by omega⟩
  have OM := hide (hst12.owns (unhide OM) (fun j hj e => by have h1 := ((unhide OM).lt j hj).1; have h2 := unhide HBM; rcases e with e | e <;> omega))
  have ON := hide (hst12.owns (unhide ON) (fun j hj e => by have h1 := ((unhide ON).lt j hj).1; have h2 := unhide HBN; rcases e with e | e <;> omega))
  have OL := hide (os12.owns ho12 (fun j hj e => by have h1 := (ho12.lt j hj).1; have h2 := unhide HSZ11; omega))
  have HBL2 : Hid (k3 < x11.heap.size ∧ b < x11.heap.size) := HSZ11
  clear hx12 hy12 os12 hp12 q11 d11 hst12 C11 Q11 HX11 HB1x11 HB2x11 ho12
  go_upto_region 18 with fail
  generalize (y12.setCell ⟨k3, 30, none⟩ (.slice g12 a12.1.length z12)) = x12 at *
  clear c12_0 f12_0
  obtain ⟨a13, ha13⟩ : ∃ a, a = rAll rCust a12.2 := ⟨_, rfl⟩
  have HR13 : Hid (a13.2.2.length ≤ 140737488355328) := by rw [ha13]; exact Nat.le_trans (Nat.le_trans (many_le rCust rCust_le _ _) (rU_le 1 _)) (unhide HR12)
  have HA13 := hide ha13
  have d12 := (unhide HB1x12).cell 0 _ rfl
  have C12 := hide (take_c (unhide Q12).now (fun j hj => by have := unhide HV j ((unhide Q12).vblk j hj); have := (unhide Q12).only.size; omega) (unhide HR12))
  unfold rv at C12
  rw [← ha13] at C12
  clear ha13
  go_wp2_with fail
  refine (unhide C12).mono ?_
  rintro e y13 ⟨m13, rfl, ho13, v13, q12⟩
  obtain ⟨g13, z13, hm13⟩ := ownsRow_shape ho13
  subst hm13
  have hx13 := Bx.off hk3b q12 (unhide HX12)
  have c13_0 := bx_at hx13 31 (by rw [unhide HPL12]; omega) _ rfl
  have f13_0 := hx13.free 31
  have hy13 := (bx_set hx13 31 (unhide HPL12) (by omega) (.slice g13 a13.1.length z13))
  have os13 : Only (fun j => j = k3) y13 (y13.setCell ⟨k3, 31, none⟩ (.slice g13 a13.1.length z13)) := ((Only.refl _ y13).here _ _)
  have HB1x13 := hide ((Bx.off hk1b q12 (unhide HB1x12)).only os13 hk13)
  have HB2x13 := hide ((Bx.off hk2b q12 (unhide HB2x12)).only os13 hk23)
  obtain ⟨p13, hp13⟩ : ∃ p : List Value, p = p12 ++ [Value.slice g13 a13.1.length z13] := ⟨_, rfl⟩
  rw [← hp13] at hy13
  have HP13 := hide hp13
  have HPL13 : Hid (p13.length = 32) := by rw [hp13]; simp only [List.length_append, unhide HPL12]; rfl
  have HX13 := hide hy13
  have Q13 := hide (To.set ((unhide Q12).trans q12) (unhide HK3) (unhide HBL) (unhide HV) (i := 31) (.slice g13 a13.1.length z13))
  have hst13 : Only (fun j => j = b ∨ j = k3) x12 (y13.setCell ⟨k3, 31, none⟩ (.slice g13 a13.1.length z13)) := (q12.only.mono (T := fun j => j = b ∨ j = k3) (fun _ _ e => Or.inl e)).trans (os13.mono (T := fun j => j = b ∨ j = k3) (fun _ _ e => Or.inr e)) (fun _ _ e => e)
  have HSZ13 : Hid (k3 < (y13.setCell ⟨k3, 31, none⟩ (.slice g13 a13.1.length z13)).heap.size ∧ b < (y13.setCell ⟨k3, 31, none⟩ (.slice g13 a13.1.length z13)).heap.size) := by have h1 := unhide HSZ12; have h2 := hst13.size; exact ⟨by omega, by omega⟩
  have OM := hide (hst13.owns (unhide OM) (fun j hj e => by have h1 := ((unhide OM).lt j hj).1; have h2 := unhide HBM; rcases e with e | e <;> omega))
  have ON := hide (hst13.owns (unhide ON) (fun j hj e => by have h1 := ((unhide ON).lt j hj).1; have h2 := unhide HBN; rcases e with e | e <;> omega))
  have OL := hide (hst13.owns (unhide OL) (fun j hj e => by have h1 := ((unhide OL).lt j hj).1; have h2 := unhide HBL2; rcases e with e | e <;> omega))
  have OC := hide (os13.owns ho13 (fun j hj e => by have h1 := (ho13.lt j hj).1; have h2 := unhide HSZ12; omega))
  have HBC : Hid (k3 < x12.heap.size ∧ b < x12.heap.size) := HSZ12
  clear hx13 hy13 os13 hp13 q12 d12 hst13 C12 Q12 HX12 HB1x12 HB2x12 ho13
  go_upto_region 19 with fail
  generalize (y13.setCell ⟨k3, 31, none⟩ (.slice g13 a13.1.length z13)) = x13 at *
  clear c13_0 f13_0
  obtain ⟨a14, ha14⟩ : ∃ a, a = rLim a13.2 := ⟨_, rfl⟩
  have HR14 : Hid (a14.2.2.length ≤ 140737488355328) := by rw [ha14]; exact Nat.le_trans (rLim_le _) (unhide HR13)
  have HA14 := hide ha14
  have d13 := (unhide HB1x13).cell 0 _ rfl
  have C13 := hide (rlimits_any' (unhide Q13).now (fun j hj => by have := unhide HV j ((unhide Q13).vblk j hj); have := (unhide Q13).only.size; omega) (unhide HR13))
  unfold rv at C13
  rw [← ha14] at C13
  clear ha14
  go_wp2_with fail
  refine (unhide C13).mono ?_
  rintro e y14 ⟨rfl, v14, q13⟩
  have hx14 := Bx.off hk3b q13 (unhide HX13)
  have c14_0 := bx_at hx14 32 (by rw [unhide HPL13]; omega) _ rfl
  have f14_0 := hx14.free 32
  have c14_1 := bx_at hx14 33 (by rw [unhide HPL13]; omega) _ rfl
  have f14_1 := hx14.free 33
  have c14_2 := bx_at hx14 34 (by rw [unhide HPL13]; omega) _ rfl
  have f14_2 := hx14.free 34
  have c14_3 := bx_at hx14 35 (by rw [unhide HPL13]; omega) _ rfl
  have f14_3 := hx14.free 35
  have hy14 := (bx_set (bx_set (bx_set (bx_set hx14 32 (unhide HPL13) (by omega) (.bool a14.1.h)) 33 (by simp only [List.length_append, unhide HPL13]; rfl) (by omega) (.int .i64 a14.1.t)) 34 (by simp only [List.length_append, unhide HPL13]; rfl) (by omega) (.int .i64 a14.1.c)) 35 (by simp only [List.length_append, unhide HPL13]; rfl) (by omega) (.int .i64 a14.1.u))
  have os14 : Only (fun j => j = k3) y14 ((((y14.setCell ⟨k3, 32, none⟩ (.bool a14.1.h)).setCell ⟨k3, 33, none⟩ (.int .i64 a14.1.t)).setCell ⟨k3, 34, none⟩ (.int .i64 a14.1.c)).setCell ⟨k3, 35, none⟩ (.int .i64 a14.1.u)) := (((((Only.refl _ y14).here _ _).here _ _).here _ _).here _ _)
  have HB1x14 := hide ((Bx.off hk1b q13 (unhide HB1x13)).only os14 hk13)
  have HB2x14 := hide ((Bx.off hk2b q13 (unhide HB2x13)).only os14 hk23)
  obtain ⟨p14, hp14⟩ : ∃ p : List Value, p = p13 ++ [Value.bool a14.1.h] ++ [Value.int .i64 a14.1.t] ++ [Value.int .i64 a14.1.c] ++ [Value.int .i64 a14.1.u] := ⟨_, rfl⟩
  rw [← hp14] at hy14
  have HP14 := hide hp14
  have HPL14 : Hid (p14.length = 36) := by rw [hp14]; simp only [List.length_append, unhide HPL13]; rfl
  have HX14 := hide hy14
  have Q14 := hide (To.set (To.set (To.set (To.set ((unhide Q13).trans q13) (unhide HK3) (unhide HBL) (unhide HV) (i := 32) (.bool a14.1.h)) (unhide HK3) (unhide HBL) (unhide HV) (i := 33) (.int .i64 a14.1.t)) (unhide HK3) (unhide HBL) (unhide HV) (i := 34) (.int .i64 a14.1.c)) (unhide HK3) (unhide HBL) (unhide HV) (i := 35) (.int .i64 a14.1.u))
  have hst14 : Only (fun j => j = b ∨ j = k3) x13 ((((y14.setCell ⟨k3, 32, none⟩ (.bool a14.1.h)).setCell ⟨k3, 33, none⟩ (.int .i64 a14.1.t)).setCell ⟨k3, 34, none⟩ (.int .i64 a14.1.c)).setCell ⟨k3, 35, none⟩ (.int .i64 a14.1.u)) := (q13.only.mono (T := fun j => j = b ∨ j = k3) (fun _ _ e => Or.inl e)).trans (os14.mono (T := fun j => j = b ∨ j = k3) (fun _ _ e => Or.inr e)) (fun _ _ e => e)
  have HSZ14 : Hid (k3 < ((((y14.setCell ⟨k3, 32, none⟩ (.bool a14.1.h)).setCell ⟨k3, 33, none⟩ (.int .i64 a14.1.t)).setCell ⟨k3, 34, none⟩ (.int .i64 a14.1.c)).setCell ⟨k3, 35, none⟩ (.int .i64 a14.1.u)).heap.size ∧ b < ((((y14.setCell ⟨k3, 32, none⟩ (.bool a14.1.h)).setCell ⟨k3, 33, none⟩ (.int .i64 a14.1.t)).setCell ⟨k3, 34, none⟩ (.int .i64 a14.1.c)).setCell ⟨k3, 35, none⟩ (.int .i64 a14.1.u)).heap.size) := by have h1 := unhide HSZ13; have h2 := hst14.size; exact ⟨by omega, by omega⟩
  have OM := hide (hst14.owns (unhide OM) (fun j hj e => by have h1 := ((unhide OM).lt j hj).1; have h2 := unhide HBM; rcases e with e | e <;> omega))
  have ON := hide (hst14.owns (unhide ON) (fun j hj e => by have h1 := ((unhide ON).lt j hj).1; have h2 := unhide HBN; rcases e with e | e <;> omega))
  have OL := hide (hst14.owns (unhide OL) (fun j hj e => by have h1 := ((unhide OL).lt j hj).1; have h2 := unhide HBL2; rcases e with e | e <;> omega))
  have OC := hide (hst14.owns (unhide OC) (fun j hj e => by have h1 := ((unhide OC).lt j hj).1; have h2 := unhide HBC; rcases e with e | e <;> omega))
  clear hx14 hy14 os14 hp14 q13 d13 hst14 C13 Q13 HX13 HB1x13 HB2x13
  go_upto_region 20 with fail
  generalize ((((y14.setCell ⟨k3, 32, none⟩ (.bool a14.1.h)).setCell ⟨k3, 33, none⟩ (.int .i64 a14.1.t)).setCell ⟨k3, 34, none⟩ (.int .i64 a14.1.c)).setCell ⟨k3, 35, none⟩ (.int .i64 a14.1.u)) = x14 at *
  clear c14_0 f14_0 c14_1 f14_1 c14_2 f14_2 c14_3 f14_3
  obtain ⟨a15, ha15⟩ : ∃ a, a = rFlag a14.2 := ⟨_, rfl⟩
  have HR15 : Hid (a15.2.2.length ≤ 140737488355328) := by rw [ha15]; exact Nat.le_trans (rFlag_le _) (unhide HR14)
  have HA15 := hide ha15
  have d14 := (unhide HB1x14).cell 0 _ rfl
  have C14 := hide (rflag_any (unhide Q14).now (unhide HR14))
  unfold rv at C14
  rw [← ha15] at C14
  clear ha15
  go_wp2_with fail
  refine (unhide C14).mono ?_
  rintro e y15 ⟨rfl, v15, q14⟩
  have hx15 := Bx.off hk3b q14 (unhide HX14)
  have c15_0 := bx_at hx15 36 (by rw [unhide HPL14]; omega) _ rfl
  have f15_0 := hx15.free 36
  have hy15 := (bx_set hx15 36 (unhide HPL14) (by omega) (.bool a15.1))
  have os15 : Only (fun j => j = k3) y15 (y15.setCell ⟨k3, 36, none⟩ (.bool a15.1)) := ((Only.refl _ y15).here _ _)
  have HB1x15 := hide ((Bx.off hk1b q14 (unhide HB1x14)).only os15 hk13)
  have HB2x15 := hide ((Bx.off hk2b q14 (unhide HB2x14)).only os15 hk23)
  obtain ⟨p15, hp15⟩ : ∃ p : List Value, p = p14 ++ [Value.bool a15.1] := ⟨_, rfl⟩
  rw [← hp15] at hy15
  have HP15 := hide hp15
  have HPL15 : Hid (p15.length = 37) := by rw [hp15]; simp only [List.length_append, unhide HPL14]; rfl
  have HX15 := hide hy15
  have Q15 := hide (To.set ((unhide Q14).trans q14) (unhide HK3) (unhide HBL) (unhide HV) (i := 36) (.bool a15.1))
  have hst15 : Only (fun j => j = b ∨ j = k3) x14 (y15.setCell ⟨k3, 36, none⟩ (.bool a15.1)) := (q14.only.mono (T := fun j => j = b ∨ j = k3) (fun _ _ e => Or.inl e)).trans (os15.mono (T := fun j => j = b ∨ j = k3) (fun _ _ e => Or.inr e)) (fun _ _ e => e)
  have HSZ15 : Hid (k3 < (y15.setCell ⟨k3, 36, none⟩ (.bool a15.1)).heap.size ∧ b < (y15.setCell ⟨k3, 36, none⟩ (.bool a15.1)).heap.size) := by have h1 := unhide HSZ14; have h2 := hst15.size; exact ⟨by omega, by omega⟩
  have OM := hide (hst15.owns (unhide OM) (fun j hj e => by have h1 := ((unhide OM).lt j hj).1; have h2 := unhide HBM; rcases e with e | e <;> omega))
  have ON := hide (hst15.owns (unhide ON) (fun j hj e => by have h1 := ((unhide ON).lt j hj).1; have h2 := unhide HBN; rcases e with e | e <;> omega))
  have OL := hide (hst15.owns (unhide OL) (fun j hj e => by have h1 := ((unhide OL).lt j hj).1; have h2 := unhide HBL2; rcases e with e | e <;> omega))
  have OC := hide (hst15.owns (unhide OC) (fun j hj e => by have h1 := ((unhide OC).lt j hj).1; have h2 := unhide HBC; rcases e with e | e <;> omega))
  clear hx15 hy15 os15 hp15 q14 d14 hst15 C14 Q14 HX14 HB1x14 HB2x14
  go_upto_region 21 with fail
  generalize (y15.setCell ⟨k3, 36, none⟩ (.bool a15.1)) = x15 at *
  clear c15_0 f15_0
  have hrf := (unhide HX15).range 0 37
  rw [List.drop_zero, List.take_of_length_le (by rw [part_all _ (unhide HPL15), unhide HPL15]; omega), part_all _ (unhide HPL15)] at hrf
  obtain ⟨dsc, hdu, hdr⟩ := row_desc Tryd.rowObj
  have hth : x15.there k2 0 p15.toArray.size := by
    intro j hj
    rw [List.size_toArray, unhide HPL15] at hj
    rw [Nat.zero_add]
    refine ⟨?_, (unhide HB2x15).free j⟩
    have hjl : j < Zo.length := hj
    rw [(unhide HB2x15).cell j _ (List.getElem?_eq_getElem hjl)]
    rfl
  have HTH := hide hth
  have HE : Hid (rOb s = (⟨a1.1, a2.1, a3.1, a4.1, a5.1, a6.1, a7.1, a8.1, a9.1, a10.1, a11.1, a12.1, a13.1, a14.1.h, a14.1.t, a14.1.c, a14.1.u, a15.1⟩, a15.2)) := by
    show _ = _
    rw [unhide HA15, unhide HA14, unhide HA13, unhide HA12, unhide HA11, unhide HA10, unhide HA9, unhide HA8, unhide HA7, unhide HA6, unhide HA5, unhide HA4, unhide HA3, unhide HA2, unhide HA1, unhide HA0]
    rfl
  have HPE : Hid (p15 = cells (rOb s).1 (.slice g6 a6.1.length z6) (.slice g11 a11.1.length z11) (.slice g12 a12.1.length z12) (.slice g13 a13.1.length z13)) := by
    show _ = _
    rw [unhide HE, unhide HP15, unhide HP14, unhide HP13, unhide HP12, unhide HP11, unhide HP10, unhide HP9, unhide HP8, unhide HP7, unhide HP6, unhide HP5, unhide HP4, unhide HP3, unhide HP2, unhide HP1, unhide HP0]
    unfold cells front back
    simp only [List.append_assoc, List.nil_append, List.cons_append]
  have hone : p15.toArray.all (·.oneCell') = true := by
    apply all_oneCell_toArray
    rw [unhide HPE]
    exact cells_one _ _ _ _ _ rfl rfl rfl rfl
  have HFB := hide (setCells_bx (unhide HB2x15) p15 (by rw [unhide HPL15]; rfl))
  have hof : Only (fun j => j = k2) x15 (x15.setCells k2 0 p15) := Only.setCells (S := fun j => j = k2) (fun _ => rfl) _ _ _ (Only.refl _ x15)
  have QF := hide (To.setCells (unhide Q15) (unhide HK2) (unhide HBL) (unhide HV) 0 p15)
  have hkk := unhide HK23
  have OMF := hide (hof.owns (unhide OM) (fun j hj e => by have h1 := ((unhide OM).lt j hj).1; have h2 := (unhide HBM).1; omega))
  have ONF := hide (hof.owns (unhide ON) (fun j hj e => by have h1 := ((unhide ON).lt j hj).1; have h2 := (unhide HBN).1; omega))
  have OLF := hide (hof.owns (unhide OL) (fun j hj e => by have h1 := ((unhide OL).lt j hj).1; have h2 := (unhide HBL2).1; omega))
  have OCF := hide (hof.owns (unhide OC) (fun j hj e => by have h1 := ((unhide OC).lt j hj).1; have h2 := (unhide HBC).1; omega))
  have HPE2 := HPE
  clear hth hof OM ON OL OC hkk
  have hsz37 : (Tryd.prog.info? 35).map (·.size) = some p15.length := by rw [unhide HPL15]; exact Tryd.sizeObj
  have hsz37a : (Tryd.prog.info? 35).map (·.size) = some p15.toArray.size := by rw [List.size_toArray]; exact hsz37
  go_wp2_with (first
    | (refine wpList_load_mid rfl 35 (.tmp 3) rfl k3 0 rfl p15 dsc hrf hdu hdr hsz37 ?_)
    | (refine wpList_store_mid rfl 35 (.tmp 2) (.tmp 69) rfl k2 0 p15.toArray rfl rfl (unhide HTH) hsz37a hone ?_))
  have hfw : (x15.setCells k2 0 p15.toArray.toList) = x15.setCells k2 0 p15 := by rw [List.toList_toArray]
  refine bodyPost_ret (results_st rfl _ _ k2 35 p15.toArray (0, 0) rfl (unhide HFB) Tryd.rowObjM (by rw [List.size_toArray]; exact hsz37)) rfl ?_
  have hfr : Fresh4 w.heap.size (.slice g6 a6.1.length z6) (.slice g11 a11.1.length z11) (.slice g12 a12.1.length z12) (.slice g13 a13.1.length z13) := by
    have hk3 := unhide HK3
    intro j hj
    rcases hj with hj | hj | hj | hj
    · rw [blk_own] at hj; have h1 := ((unhide OMF).lt j hj).1; have h2 := (unhide HBM).1; omega
    · rw [blk_own] at hj; have h1 := ((unhide ONF).lt j hj).1; have h2 := (unhide HBN).1; omega
    · rw [blk_own] at hj; have h1 := ((unhide OLF).lt j hj).1; have h2 := (unhide HBL2).1; omega
    · rw [blk_own] at hj; have h1 := ((unhide OCF).lt j hj).1; have h2 := (unhide HBC).1; omega
  refine ⟨_, _, _, _, by rw [unhide HPE2]; rfl, ?_, hfr, v15, by rw [unhide HE]; exact unhide QF⟩
  rw [unhide HE]
  have e2 := unhide HA2
  have e3 := unhide HA3
  have e4 := unhide HA4
  have e5 := unhide HA5
  have e7 := unhide HA7
  have e9 := unhide HA9
  have hs : ∀ s, (rS s).1.length ≤ maxLen := fun s => Nat.le_trans (rS_len s) (by unfold maxLen; decide)
  have hw1 : ∀ s, W64 ((rU 1 s).1 : Int) := fun s => W64_nat _ (Nat.lt_trans (rU1_lt s) (by decide))
  have hw4 : ∀ s, W64 ((rU 4 s).1 : Int) := fun s => W64_nat _ (rU4_lt s)
  have hlim : W64 a14.1.t ∧ W64 a14.1.c ∧ W64 a14.1.u := by rw [unhide HA14]; exact lim_w64 _
  refine ⟨Has.ofOwns (unhide OMF), hasF_own (unhide ONF) (fun x _ => rfl) rfl, hasF_own (unhide OLF) (fun x _ => rfl) rfl, hasF_own (unhide OCF) (fun x _ => rfl) rfl, unhide HML10, ⟨by show W64 (a2.1 : Int); rw [e2]; exact hw1 _, by show W64 (a3.1 : Int); rw [e3]; exact hw1 _, by show W64 (a4.1 : Int); rw [e4]; exact hw4 _, by show W64 (a5.1 : Int); rw [e5]; exact hw4 _, by show W64 (a7.1 : Int); rw [e7]; exact hw1 _, by show W64 (a9.1 : Int); rw [e9]; exact hw1 _, hlim.1, hlim.2.1, hlim.2.2⟩, ?_, ?_, ?_⟩
  · show ∀ d ∈ a8.1, W64 d.2
    rw [unhide HA8]
    exact many_all rDate _ date_w64 10 _
  · show ∀ k ∈ a12.1, W64 k.1
    rw [unhide HA12]
    exact all_all rLink (fun k => W64 k.1) (fun s => hw1 s) _
  · refine ⟨by show a1.1.length ≤ maxLen; rw [unhide HA1]; exact hs _, by show a10.1.length ≤ maxLen; rw [unhide HA10]; exact hs _, ?_, ?_, ?_⟩
    · show ∀ x ∈ a11.1, x.length ≤ maxLen
      rw [unhide HA11]
      exact all_all rS (fun x => x.length ≤ maxLen) hs _
    · show ∀ k ∈ a12.1, k.2.length ≤ maxLen
      rw [unhide HA12]
      exact all_all rLink (fun k => k.2.length ≤ maxLen) (fun s => hs _) _
    · show ∀ c ∈ a13.1, c.1.length ≤ maxLen ∧ c.2.length ≤ maxLen
      rw [unhide HA13]
      exact all_all rCust (fun c => c.1.length ≤ maxLen ∧ c.2.length ≤ maxLen) (fun s => ⟨hs _, hs _⟩) _
end Ob
end Go.Proofs.YtlcnckmbimmpjaaDoor
