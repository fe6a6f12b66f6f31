/-
  object: the parts that are taken.
-/
import Derived.Test.YtlcnckmbimmpjaaDoorObMem
import Derived.Test.YtlcnckmbimmpjaaDoorStr
import Derived.Test.YtlcnckmbimmpjaaDoorRdCallsO
namespace Go.Proofs.YtlcnckmbimmpjaaDoor
open Go.RowKit
set_option linter.unusedSimpArgs false
set_option linter.unusedVariables false
namespace Ob

/-- a reader's value -/
def rv (b : Nat) : Value := .agg #[.pointer (some ⟨b, 0, none⟩)]
abbrev OR := 110
abbrev At (w : World) (b : Nat) (v : Value) (s : Rs) : Prop := Rdr OR w b v s.1 s.2
abbrev To (w : World) (b : Nat) (v : Value) (w' : World) (v' : Value) (s : Rs) : Prop := ReadTo OR w b v w' v' s.1 s.2
/-- what a call that takes leaves -/
def Gets (w : World) (b : Nat) (v x : Value) (s' : Rs) (e : Ending) (w' : World) : Prop := e = .returned x ∧ ∃ v', To w b v w' v' s'

theorem To.back {w w1 x : World} {b : Nat} {v v' : Value} {s : Rs} (o : Only (fun _ => False) w w1) (q : To w1 b v x v' s) : To w b v x v' s :=
  ⟨q.now, (o.mono (T := fun k => k = b) (fun _ _ e => e.elim)).trans q.only (fun _ _ e => e), q.vblk⟩
theorem To.same {w w1 x : World} {b : Nat} {v v' : Value} {s : Rs} (h : b < w.heap.size) (q : To w b v x v' s) (o : Only (fun _ => False) x w1) : To w b v w1 v' s :=
  ⟨q.now.only o (fun e => e) (fun _ _ e => e), q.only.trans (o.mono (T := fun k => k = b) (fun _ _ e => e.elim)) (fun _ _ e => e), q.vblk⟩
theorem At.lt {w : World} {b : Nat} {v : Value} {s : Rs} (h : At w b v s) : b < w.heap.size := lt_of_block h.blk
theorem At.same {w w' : World} {b : Nat} {v : Value} {s : Rs} (h : At w b v s) (o : Only (fun _ => False) w w') : At w' b v s := h.only o (fun e => e) (fun _ _ e => e)
theorem Bx.off {w w1 : World} {b k : Nat} {v v' : Value} {s : Rs} {t : TypeId} {cs : List Value} (hk : k ≠ b) (q : To w b v w1 v' s) (h : Bx w k t cs) : Bx w1 k t cs := h.only q.only hk

theorem rdRest_len (l : Bool) (r : List UInt8) (n : Int) : (rdRest l r n).length ≤ r.length := rdRest_le l r n
theorem rU_le (n : Nat) (s : Rs) : (rU n s).2.2.length ≤ s.2.length := rdRest_le _ _ _
theorem rS_le (s : Rs) : (rS s).2.2.length ≤ s.2.length := Nat.le_trans (rdRest_le _ _ _) (rdRest_le _ _ _)
theorem rU_lt (n : Nat) (s : Rs) (m : Nat) (h : 256 ^ n ≤ m) : (rU n s).1 < m := de_rd s.1 s.2 n m h
theorem rU1_lt (s : Rs) : (rU 1 s).1 < 256 := rU_lt 1 s 256 (by decide)
theorem rdBytes_le (l : Bool) (r : List UInt8) (n : Nat) : (rdBytes l r (n : Int)).length ≤ n := by
  unfold rdBytes
  split
  · rw [Int.toNat_natCast]; exact List.length_take_le _ _
  · simp
theorem rS_len (s : Rs) : (rS s).1.length ≤ 65535 := by
  have h := rU_lt 2 s 65536 (by decide)
  exact Nat.le_trans (rdBytes_le _ _ _) (Nat.le_of_lt_succ h)
theorem rFlag_le (s : Rs) : (rFlag s).2.2.length ≤ s.2.length := rU_le 1 s

theorem gu1 {b : Nat} {v : Value} {s : Rs} {w : World} (h : At w b v s) (hr : s.2.length ≤ 140737488355328) :
    Calls Tryd.prog 69 #[.pointer (some ⟨b, 0, none⟩)] w (Gets w b v (.int .i64 ((rU 1 s).1 : Int)) (rU 1 s).2) := RO.u8_any b v s.1 s.2 w h hr
theorem gu4 {b : Nat} {v : Value} {s : Rs} {w : World} (h : At w b v s) (hr : s.2.length ≤ 140737488355328) :
    Calls Tryd.prog 70 #[.pointer (some ⟨b, 0, none⟩)] w (Gets w b v (.int .i64 ((rU 4 s).1 : Int)) (rU 4 s).2) := RO.u32_any b v s.1 s.2 w h hr
theorem gu8 {b : Nat} {v : Value} {s : Rs} {w : World} (h : At w b v s) (hr : s.2.length ≤ 140737488355328) :
    Calls Tryd.prog 101 #[.pointer (some ⟨b, 0, none⟩)] w (Gets w b v (.int .u64 ((rU 8 s).1 : Int)) (rU 8 s).2) := RO.u64_any b v s.1 s.2 w h hr
theorem gsh {b : Nat} {v : Value} {s : Rs} {w : World} (h : At w b v s) (hr : s.2.length ≤ 140737488355328) :
    Calls Tryd.prog 71 #[.pointer (some ⟨b, 0, none⟩)] w fun e w' => ∃ u, e = .returned u ∧ Owns w.heap.size w' u (rS s).1 ∧ ∃ v', To w b v w' v' (rS s).2 := RO.short_any b v s.1 s.2 w h hr

theorem i64_w (n : Nat) : i64 n = wrap64 (n : Int) := by
  first
    | rfl
    | (unfold i64 wrap64; rw [IntKind.wrap_i64])
    | (unfold i64 wrap64; rw [IntKind.wrap_i64]; omega)
set_option maxRecDepth 100000 in
theorem rflag_any {b : Nat} {v : Value} {s : Rs} {w : World} (h : At w b v s) (hr : s.2.length ≤ 140737488355328) :
    Calls Tryd.prog 79 #[rv b] w (Gets w b v (.bool (rFlag s).1) (rFlag s).2) := by
  unfold rv
  obtain ⟨w1, k1, e1, ek1, hb1, o1, hs1⟩ := boxed w #[.pointer (some ⟨b, 0, none⟩)] 66
  have p0 := hb1.cell 0 _ rfl
  have H1 := hide (gu1 (h.same o1) hr)
  have O1 := hide o1
  have HF : Hid (rFlag s = (decide ((rU 1 s).1 = 1), (rU 1 s).2)) := rfl
  have HN : Hid (((rU 1 s).1 : Int) = 1 ↔ (rU 1 s).1 = 1) := by show _ ↔ _; omega
  clear hb1 o1 hs1 hr h
  rw [unhide HF]
  clear HF
  generalize (rU 1 s).2 = s1 at *
  generalize (rU 1 s).1 = n at *
  by_cases hn : n = 1
  · subst hn
    go_enter Tryd.func79, Tryd.ntmps79
    go_upto_region 1 with fail
    rw [← e1, ← ek1]
    clear e1 ek1
    go_wp2_with (refine (unhide H1).mono ?_; rintro e x1 ⟨rfl, v1, q1⟩)
    go_ret
    exact ⟨rfl, v1, To.back (unhide O1) q1⟩
  · have hz : ((n : Int) == 1) = false := by rw [beq_eq_false_iff_ne]; omega
    have HD : Hid (decide (n = 1) = false) := decide_eq_false hn
    clear hn
    go_enter Tryd.func79, Tryd.ntmps79
    go_upto_region 1 with fail
    rw [← e1, ← ek1]
    clear e1 ek1
    go_wp2_with (refine (unhide H1).mono ?_; rintro e x1 ⟨rfl, v1, q1⟩)
    go_ret
    exact ⟨by rw [unhide HD]; first | done | rfl, v1, To.back (unhide O1) q1⟩

set_option maxRecDepth 100000 in
theorem rtext_any {b : Nat} {v : Value} {s : Rs} {w : World} (h : At w b v s) (hr : s.2.length ≤ 140737488355328) :
    Calls Tryd.prog 68 #[rv b] w (Gets w b v (.string (str (rS s).1)) (rS s).2) := by
  unfold rv
  obtain ⟨w1, k1, e1, ek1, hb1, o1, hs1⟩ := boxed w #[.pointer (some ⟨b, 0, none⟩)] 66
  have p0 := hb1.cell 0 _ rfl
  have H1 := hide (gsh (h.same o1) hr)
  have O1 := hide o1
  clear hb1 o1 hs1 hr h
  generalize (rS s).2 = s1 at *
  generalize (rS s).1 = t at *
  go_enter Tryd.func68, Tryd.ntmps68
  go_upto_region 1 with fail
  rw [← e1, ← ek1]
  clear e1 ek1
  go_wp2_with fail
  refine (unhide H1).mono ?_
  rintro e x1 ⟨u, rfl, hu, v1, q1⟩
  have hcv := str_conv (Has.ofOwns hu)
  have Q1 := hide (To.back (unhide O1) q1)
  clear hu q1
  go_wp2
  go_ret
  exact ⟨rfl, v1, unhide Q1⟩

theorem Tryd.rowDate : (Tryd.prog.underlying 27).map (fun d => match d with | .struct _ | .array _ _ => true | _ => false) = some true := by kernel_rfl
theorem Tryd.rowLink : (Tryd.prog.underlying 51).map (fun d => match d with | .struct _ | .array _ _ => true | _ => false) = some true := by kernel_rfl
theorem Tryd.rowCustom : (Tryd.prog.underlying 53).map (fun d => match d with | .struct _ | .array _ _ => true | _ => false) = some true := by kernel_rfl
theorem Tryd.rowLimits : (Tryd.prog.underlying 33).map (fun d => match d with | .struct _ | .array _ _ => true | _ => false) = some true := by kernel_rfl
theorem Tryd.sizeDate : (Tryd.prog.info? 27).map (·.size) = some 2 := by kernel_rfl
theorem Tryd.sizeLink : (Tryd.prog.info? 51).map (·.size) = some 2 := by kernel_rfl
theorem Tryd.sizeCustom : (Tryd.prog.info? 53).map (·.size) = some 2 := by kernel_rfl
theorem Tryd.sizeLimits : (Tryd.prog.info? 33).map (·.size) = some 4 := by kernel_rfl
theorem results_st {fn : Func} {p : Tmp} {ty : TypeId} (h : fn.results = #[.cell p ty]) (tmps : Array Value) (w : World) (g : Nat) (t : TypeId) (cs : Array Value) (fr : Nat × Nat)
    (hp : tmps.getD p undef = .pointer (some ⟨g, 0, none⟩)) (hg : w.heap[g]? = some (.cells cs t fr))
    (hu : (Tryd.prog.underlying ty).map (fun d => match d with | .struct _ | .array _ _ => true | _ => false) = some true) (hi : (Tryd.prog.info? ty).map (·.size) = some cs.size) :
    (results fn tmps).run Tryd.prog w = .ok (.agg cs) w := by
  cases hd : Tryd.prog.underlying ty with
  | none => rw [hd] at hu; cases hu
  | some d =>
    rw [hd] at hu
    cases d <;> first | exact results_cell_row h tmps w g t cs fr _ hp hg hd rfl hi | (simp at hu)
theorem To.set {w x : World} {b : Nat} {v v' : Value} {s : Rs} (q : To w b v x v' s) {k i : Nat} (hk : w.heap.size ≤ k) (hb : b < w.heap.size) (hv : ∀ j, blk v = some j → j < w.heap.size) (u : Value) : To w b v (x.setCell ⟨k, i, none⟩ u) v' s := by
  have o : Only (fun j => j = k) x (x.setCell ⟨k, i, none⟩ u) := (Only.refl _ x).here i u
  exact ⟨q.now.only o (by show ¬ b = k; omega) (fun j hj e => by have := hv j (q.vblk j hj); omega), q.only.trans o (fun j hj e => by omega), q.vblk⟩

set_option maxRecDepth 100000 in
theorem rdate_any {b : Nat} {v : Value} {s : Rs} {w : World} (h : At w b v s) (hv : ∀ j, blk v = some j → j < w.heap.size) (hr : s.2.length ≤ 140737488355328) :
    Calls Tryd.prog 72 #[rv b] w (Gets w b v (.agg #[.bool (rDate s).1.1, .int .i64 (rDate s).1.2]) (rDate s).2) := by
  unfold rv
  obtain ⟨w1, k1, e1, ek1, hb1, o1, hs1⟩ := boxed w #[.pointer (some ⟨b, 0, none⟩)] 66
  obtain ⟨w2, k2, e2, ek2, hb2, o2, hs2⟩ := boxed w1 #[.bool false, .int .i64 0] 27
  have p0 := (hb1.same o2).cell 0 _ rfl
  have H1 := hide (rflag_any (h.same (o1.trans o2 (fun _ _ e => e))) hr)
  have O2 := hide (o1.trans o2 (fun _ _ e => e))
  have hbl := h.lt
  have HB2 := hide hb2
  have HB1 := hide (hb1.same o2)
  have hk1b : k1 ≠ b := by omega
  have hk2b : k2 ≠ b := by omega
  have HK2 : Hid (w.heap.size ≤ k2) := by show _ ≤ _; omega
  have HE2 := hide e2
  have HEK2 : Hid (k2 = k1 + 1) := by show _ = _; omega
  have HF : Hid (rDate s = if (rFlag s).1 then ((true, i64 (rU 8 (rFlag s).2).1), (rU 8 (rFlag s).2).2) else ((false, 0), (rFlag s).2)) := rfl
  have hr2 := Nat.le_trans (rFlag_le s) hr
  have HBL := hide hbl
  have HV := hide hv
  clear hb1 hb2 o1 o2 hs1 hs2 hr h e2 ek2 hbl hv
  unfold rv at H1
  generalize (rFlag s).2 = s1 at *
  cases hf : (rFlag s).1 with
  | false =>
    rw [hf] at HF H1
    have HF2 := unhide HF
    rw [if_neg (by decide)] at HF2
    rw [HF2]
    clear hf HF HF2
    go_enter Tryd.func72, Tryd.ntmps72
    go_upto_region 1 with fail
    rw [← e1, ← ek1, ← unhide HE2, ← unhide HEK2]
    clear e1 ek1 HE2 HEK2
    go_wp2_with fail
    refine (unhide H1).mono ?_
    rintro e x1 ⟨rfl, v1, q1⟩
    have hx := Bx.off hk2b q1 (unhide HB2)
    have c0 := hx.cell 0 _ rfl
    have c1 := hx.cell 1 _ rfl
    have f0 := hx.free 0
    have f1 := hx.free 1
    have HX := hide ((hx.set 0 (.bool false)).set 1 (.int .i64 0))
    have Q1 := hide (((To.back (unhide O2) q1).set (unhide HK2) (unhide HBL) (unhide HV) (i := 0) (.bool false)).set (unhide HK2) (unhide HBL) (unhide HV) (i := 1) (.int .i64 0))
    clear hx q1 H1
    go_wp2
    refine bodyPost_ret (results_st rfl _ _ k2 27 _ _ rfl (unhide HX).out Tryd.rowDate (by rw [Tryd.sizeDate]; simp)) rfl ?_
    exact ⟨rfl, v1, unhide Q1⟩
  | true =>
    rw [hf] at HF H1
    have HF2 := unhide HF
    rw [if_pos rfl] at HF2
    rw [HF2]
    clear hf HF HF2
    go_enter Tryd.func72, Tryd.ntmps72
    go_upto_region 1 with fail
    rw [← e1, ← ek1, ← unhide HE2, ← unhide HEK2]
    clear e1 ek1 HE2 HEK2
    go_wp2_with fail
    refine (unhide H1).mono ?_
    rintro e x1 ⟨rfl, v1, q1⟩
    have d0 := (Bx.off hk1b q1 (unhide HB1)).cell 0 _ rfl
    have HX1 := hide (Bx.off hk2b q1 (unhide HB2))
    have H2 := hide (gu8 q1.now hr2)
    have Q1 := hide (To.back (unhide O2) q1)
    clear q1 H1
    generalize (rU 8 s1).2 = s2 at *
    generalize (rU 8 s1).1 = n at *
    go_wp2_with fail
    refine (unhide H2).mono ?_
    rintro e x2 ⟨rfl, v2, q2⟩
    have hx := Bx.off hk2b q2 (unhide HX1)
    have c0 := hx.cell 0 _ rfl
    have c1 := hx.cell 1 _ rfl
    have f0 := hx.free 0
    have f1 := hx.free 1
    have HX := hide ((hx.set 0 (.bool true)).set 1 (.int .i64 (wrap64 (n : Int))))
    have Q2 := hide (To.set (To.set ((unhide Q1).trans q2) (unhide HK2) (unhide HBL) (unhide HV) (i := 0) (.bool true)) (unhide HK2) (unhide HBL) (unhide HV) (i := 1) (.int .i64 (wrap64 (n : Int))))
    clear hx q2 H2
    go_wp2
    refine bodyPost_ret (results_st rfl _ _ k2 27 _ _ rfl (unhide HX).out Tryd.rowDate (by rw [Tryd.sizeDate]; simp)) rfl ?_
    exact ⟨by rw [i64_w]; rfl, v2, unhide Q2⟩

set_option maxRecDepth 100000 in
theorem rlink_any {b : Nat} {v : Value} {s : Rs} {w : World} (h : At w b v s) (hv : ∀ j, blk v = some j → j < w.heap.size) (hr : s.2.length ≤ 140737488355328) :
    Calls Tryd.prog 75 #[rv b] w (Gets w b v (.agg #[.int .i64 (rLink s).1.1, .string (str (rLink s).1.2)]) (rLink s).2) := by
  unfold rv
  obtain ⟨w1, k1, e1, ek1, hb1, o1, hs1⟩ := boxed w #[.pointer (some ⟨b, 0, none⟩)] 66
  obtain ⟨w2, k2, e2, ek2, hb2, o2, hs2⟩ := boxed w1 #[.int .i64 0, .string ⟨#[]⟩] 51
  obtain ⟨w3, k3, e3, ek3, hb3, o3, hs3⟩ := boxed w2 #[.int .i64 0, .string ⟨#[]⟩] 51
  have O3 := hide ((o1.trans o2 (fun _ _ e => e)).trans o3 (fun _ _ e => e))
  have H1 := hide (gu1 (h.same (unhide O3)) hr)
  have hbl := h.lt
  have p0 := ((hb1.same o2).same o3).cell 0 _ rfl
  have HB1 := hide ((hb1.same o2).same o3)
  have HB2 := hide (hb2.same o3)
  have HB3 := hide hb3
  have hk1b : k1 ≠ b := by omega
  have hk2b : k2 ≠ b := by omega
  have hk3b : k3 ≠ b := by omega
  have hk13 : k1 ≠ k3 := by omega
  have hk23 : k2 ≠ k3 := by omega
  have HK2 : Hid (w.heap.size ≤ k2) := by show _ ≤ _; omega
  have HK3 : Hid (w.heap.size ≤ k3) := by show _ ≤ _; omega
  have HE2 := hide e2
  have HEK2 : Hid (k2 = k1 + 1) := by show _ = _; omega
  have HE3 := hide e3
  have HEK3 := hide ek3
  have HF : Hid (rLink s = ((((rU 1 s).1 : Int), (rS (rU 1 s).2).1), (rS (rU 1 s).2).2)) := rfl
  have hr2 := Nat.le_trans (rU_le 1 s) hr
  have HBL := hide hbl
  have HV := hide hv
  rw [unhide HF]
  clear hb1 hb2 hb3 o1 o2 o3 hs1 hs2 hs3 hr h e2 ek2 e3 ek3 hbl hv HF
  generalize (rU 1 s).2 = s1 at *
  generalize (rU 1 s).1 = n at *
  go_enter Tryd.func75, Tryd.ntmps75
  go_upto_region 1 with fail
  rw [← e1, ← ek1, ← unhide HE2, ← unhide HEK2]
  clear e1 ek1 HE2
  go_upto_region 2 with fail
  rw [← unhide HE3, ← unhide HEK3]
  clear HE3 HEK3 HEK2
  go_wp2_with fail
  refine (unhide H1).mono ?_
  rintro e x1 ⟨rfl, v1, q1⟩
  have hx := Bx.off hk3b q1 (unhide HB3)
  have c0 := hx.cell 0 _ rfl
  have f0 := hx.free 0
  have HX := hide (hx.set 0 (.int .i64 (n : Int)))
  have os : Only (fun j => j = k3) x1 (x1.setCell ⟨k3, 0, none⟩ (.int .i64 (n : Int))) := (Only.refl _ x1).here 0 _
  have hq1 := To.set (To.back (unhide O3) q1) (unhide HK3) (unhide HBL) (unhide HV) (i := 0) (.int .i64 (n : Int))
  have Q1 := hide hq1
  have HB1x := hide ((Bx.off hk1b q1 (unhide HB1)).only os hk13)
  have HB2x := hide ((Bx.off hk2b q1 (unhide HB2)).only os hk23)
  have H2 := hide (rtext_any hq1.now hr2)
  clear hx q1 H1 hq1 os
  unfold rv at H2
  go_upto_region 3 with fail
  generalize x1.setCell ⟨k3, 0, none⟩ (.int .i64 (n : Int)) = x2 at *
  clear c0 f0
  have d0 := (unhide HB1x).cell 0 _ rfl
  generalize (rS s1).2 = s2 at *
  generalize (rS s1).1 = t at *
  go_wp2_with fail
  refine (unhide H2).mono ?_
  rintro e x3 ⟨rfl, v2, q2⟩
  have hx := Bx.off hk3b q2 (unhide HX)
  have c1 := hx.cell 1 _ rfl
  have f1 := hx.free 1
  have hy := hx.set 1 (.string (str t))
  have os : Only (fun j => j = k3) x3 (x3.setCell ⟨k3, 1, none⟩ (.string (str t))) := (Only.refl _ x3).here 1 _
  have Q2 := hide (To.set ((unhide Q1).trans q2) (unhide HK3) (unhide HBL) (unhide HV) (i := 1) (.string (str t)))
  have hz := (Bx.off hk2b q2 (unhide HB2x)).only os hk23
  have HY := hide hy
  have HZ := hide hz
  clear hx q2 H2 hy hz os
  go_upto_region 4 with fail
  generalize str t = T at *
  generalize x3.setCell ⟨k3, 1, none⟩ (.string T) = x4 at *
  clear c1 f1 d0
  have y0 := (unhide HY).cell 0 _ rfl
  have y1 := (unhide HY).cell 1 _ rfl
  have z0 := (unhide HZ).cell 0 _ rfl
  have z1 := (unhide HZ).cell 1 _ rfl
  have g0 := (unhide HZ).free 0
  have g1 := (unhide HZ).free 1
  have HR := hide (((unhide HZ).set 0 (.int .i64 (n : Int))).set 1 (.string T))
  have Q3 := hide (To.set (To.set (unhide Q2) (unhide HK2) (unhide HBL) (unhide HV) (i := 0) (.int .i64 (n : Int))) (unhide HK2) (unhide HBL) (unhide HV) (i := 1) (.string T))
  go_wp2
  refine bodyPost_ret (results_st rfl _ _ k2 51 _ _ rfl (unhide HR).out Tryd.rowLink (by rw [Tryd.sizeLink]; simp)) rfl ?_
  exact ⟨rfl, v2, unhide Q3⟩
end Ob
end Go.Proofs.YtlcnckmbimmpjaaDoor
