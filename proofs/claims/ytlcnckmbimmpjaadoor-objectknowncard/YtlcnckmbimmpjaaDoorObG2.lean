/-
  object: more parts that are taken; lists of them.
-/
import Derived.Test.YtlcnckmbimmpjaaDoorObG1
namespace Go.Proofs.YtlcnckmbimmpjaaDoor
open Go.RowKit
set_option linter.unusedSimpArgs false
set_option linter.unusedVariables false
namespace Ob

set_option maxRecDepth 100000 in
theorem rcustom_any {b : Nat} {v : Value} {s : Rs} {w : World} (h : At w b v s) (hv : ∀ j, blk v = some j → j < w.heap.size) (hr : s.2.length ≤ 140737488355328) :
    Calls Tryd.prog 77 #[rv b] w (Gets w b v (.agg #[.string (str (rCust s).1.1), .string (str (rCust s).1.2)]) (rCust s).2) := by
  unfold rv
  obtain ⟨w1, k1, e1, ek1, hb1, o1, hs1⟩ := boxed w #[.pointer (some ⟨b, 0, none⟩)] 66
  obtain ⟨w2, k2, e2, ek2, hb2, o2, hs2⟩ := boxed w1 #[.string ⟨#[]⟩, .string ⟨#[]⟩] 53
  obtain ⟨w3, k3, e3, ek3, hb3, o3, hs3⟩ := boxed w2 #[.string ⟨#[]⟩, .string ⟨#[]⟩] 53
  have O3 := hide ((o1.trans o2 (fun _ _ e => e)).trans o3 (fun _ _ e => e))
  have H1 := hide (rtext_any (h.same (unhide O3)) hr)
  have hbl := h.lt
  have p0 := ((hb1.same o2).same o3).cell 0 _ rfl
  have HB1 := hide ((hb1.same o2).same o3)
  have HB2 := hide (hb2.same o3)
  have HB3 := hide hb3
  have hk1b : k1 ≠ b := by omega
  have hk2b : k2 ≠ b := by omega
  have hk3b : k3 ≠ b := by omega
  have hk13 : k1 ≠ k3 := by omega
  have hk23 : k2 ≠ k3 := by omega
  have HK2 : Hid (w.heap.size ≤ k2) := by show _ ≤ _; omega
  have HK3 : Hid (w.heap.size ≤ k3) := by show _ ≤ _; omega
  have HE2 := hide e2
  have HEK2 : Hid (k2 = k1 + 1) := by show _ = _; omega
  have HE3 := hide e3
  have HEK3 := hide ek3
  have HF : Hid (rCust s = (((rS s).1, (rS (rS s).2).1), (rS (rS s).2).2)) := rfl
  have hr2 := Nat.le_trans (rS_le s) hr
  have HBL := hide hbl
  have HV := hide hv
  rw [unhide HF]
  clear hb1 hb2 hb3 o1 o2 o3 hs1 hs2 hs3 hr h e2 ek2 e3 ek3 hbl hv HF
  generalize (rS s).2 = s1 at *
  generalize (rS s).1 = n at *
  unfold rv at H1
  generalize str n = N at *
  go_enter Tryd.func77, Tryd.ntmps77
  go_upto_region 1 with fail
  rw [← e1, ← ek1, ← unhide HE2, ← unhide HEK2]
  clear e1 ek1 HE2
  go_upto_region 2 with fail
  rw [← unhide HE3, ← unhide HEK3]
  clear HE3 HEK3 HEK2
  go_wp2_with fail
  refine (unhide H1).mono ?_
  rintro e x1 ⟨rfl, v1, q1⟩
  have hx := Bx.off hk3b q1 (unhide HB3)
  have c0 := hx.cell 0 _ rfl
  have f0 := hx.free 0
  have HX := hide (hx.set 0 (.string N))
  have os : Only (fun j => j = k3) x1 (x1.setCell ⟨k3, 0, none⟩ (.string N)) := (Only.refl _ x1).here 0 _
  have hq1 := To.set (To.back (unhide O3) q1) (unhide HK3) (unhide HBL) (unhide HV) (i := 0) (.string N)
  have Q1 := hide hq1
  have HB1x := hide ((Bx.off hk1b q1 (unhide HB1)).only os hk13)
  have HB2x := hide ((Bx.off hk2b q1 (unhide HB2)).only os hk23)
  have H2 := hide (rtext_any hq1.now hr2)
  clear hx q1 H1 hq1 os
  unfold rv at H2
  go_upto_region 3 with fail
  generalize x1.setCell ⟨k3, 0, none⟩ (.string N) = x2 at *
  clear c0 f0
  have d0 := (unhide HB1x).cell 0 _ rfl
  generalize (rS s1).2 = s2 at *
  generalize (rS s1).1 = t at *
  go_wp2_with fail
  refine (unhide H2).mono ?_
  rintro e x3 ⟨rfl, v2, q2⟩
  have hx := Bx.off hk3b q2 (unhide HX)
  have c1 := hx.cell 1 _ rfl
  have f1 := hx.free 1
  have hy := hx.set 1 (.string (str t))
  have os : Only (fun j => j = k3) x3 (x3.setCell ⟨k3, 1, none⟩ (.string (str t))) := (Only.refl _ x3).here 1 _
  have Q2 := hide (To.set ((unhide Q1).trans q2) (unhide HK3) (unhide HBL) (unhide HV) (i := 1) (.string (str t)))
  have hz := (Bx.off hk2b q2 (unhide HB2x)).only os hk23
  have HY := hide hy
  have HZ := hide hz
  clear hx q2 H2 hy hz os
  go_upto_region 4 with fail
  generalize str t = T at *
  generalize x3.setCell ⟨k3, 1, none⟩ (.string T) = x4 at *
  clear c1 f1 d0
  have y0 := (unhide HY).cell 0 _ rfl
  have y1 := (unhide HY).cell 1 _ rfl
  have z0 := (unhide HZ).cell 0 _ rfl
  have z1 := (unhide HZ).cell 1 _ rfl
  have g0 := (unhide HZ).free 0
  have g1 := (unhide HZ).free 1
  have HR := hide (((unhide HZ).set 0 (.string N)).set 1 (.string T))
  have Q3 := hide (To.set (To.set (unhide Q2) (unhide HK2) (unhide HBL) (unhide HV) (i := 0) (.string N)) (unhide HK2) (unhide HBL) (unhide HV) (i := 1) (.string T))
  go_wp2
  refine bodyPost_ret (results_st rfl _ _ k2 53 _ _ rfl (unhide HR).out Tryd.rowCustom (by rw [Tryd.sizeCustom]; simp)) rfl ?_
  exact ⟨rfl, v2, unhide Q3⟩

set_option maxRecDepth 100000 in
set_option maxHeartbeats 1000000 in
theorem rlimits_any' {b : Nat} {v : Value} {s : Rs} {w : World} (h : At w b v s) (hv : ∀ j, blk v = some j → j < w.heap.size) (hr : s.2.length ≤ 140737488355328) :
    Calls Tryd.prog 78 #[rv b] w (Gets w b v (.agg #[.bool (rLim s).1.h, .int .i64 (rLim s).1.t, .int .i64 (rLim s).1.c, .int .i64 (rLim s).1.u]) (rLim s).2) := by
  unfold rv
  obtain ⟨w1, k1, e1, ek1, hb1, o1, hs1⟩ := boxed w #[.pointer (some ⟨b, 0, none⟩)] 66
  obtain ⟨w2, k2, e2, ek2, hb2, o2, hs2⟩ := boxed w1 #[.bool false, .int .i64 0, .int .i64 0, .int .i64 0] 33
  have O2 := hide (o1.trans o2 (fun _ _ e => e))
  have H1 := hide (rflag_any (h.same (unhide O2)) hr)
  have hbl := h.lt
  have p0 := (hb1.same o2).cell 0 _ rfl
  have HB1 := hide (hb1.same o2)
  have HB2 := hide hb2
  have hk1b : k1 ≠ b := by omega
  have hk2b : k2 ≠ b := by omega
  have hk12 : Hid (k1 < k2) := by show _ < _; omega
  have HK1 : Hid (w.heap.size ≤ k1) := by show _ ≤ _; omega
  have HK2 : Hid (w.heap.size ≤ k2) := by show _ ≤ _; omega
  have HKS : Hid (w2.heap.size = k2 + 1) := hs2
  have HE2 := hide e2
  have HEK2 : Hid (k2 = k1 + 1) := by show _ = _; omega
  have HF : Hid (rLim s = if (rFlag s).1 then (⟨true, i64 (rU 8 (rFlag s).2).1, i64 (rU 8 (rU 8 (rFlag s).2).2).1, (rU 1 (rU 8 (rU 8 (rFlag s).2).2).2).1⟩, (rU 1 (rU 8 (rU 8 (rFlag s).2).2).2).2) else (⟨false, 0, 0, 0⟩, (rFlag s).2)) := rfl
  have hr2 := Nat.le_trans (rFlag_le s) hr
  have HBL := hide hbl
  have HV := hide hv
  clear hb1 hb2 o1 o2 hs1 hs2 hr h e2 ek2 hbl hv
  unfold rv at H1
  generalize (rFlag s).2 = s1 at *
  cases hf : (rFlag s).1 with
  | false =>
    rw [hf] at HF H1
    have HF2 := unhide HF
    rw [if_neg (by decide)] at HF2
    rw [HF2]
    clear hf HF HF2
    go_enter Tryd.func78, Tryd.ntmps78
    go_upto_region 1 with fail
    rw [← e1, ← ek1, ← unhide HE2, ← unhide HEK2]
    clear e1 ek1 HE2 HEK2
    go_wp2_with fail
    refine (unhide H1).mono ?_
    rintro e x1 ⟨rfl, v1, q1⟩
    have hx := Bx.off hk2b q1 (unhide HB2)
    have c0 := hx.cell 0 _ rfl
    have c1 := hx.cell 1 _ rfl
    have c2 := hx.cell 2 _ rfl
    have c3 := hx.cell 3 _ rfl
    have f0 := hx.free 0
    have f1 := hx.free 1
    have f2 := hx.free 2
    have f3 := hx.free 3
    have HX := hide ((((hx.set 0 (.bool false)).set 1 (.int .i64 0)).set 2 (.int .i64 0)).set 3 (.int .i64 0))
    have Q1 := hide (To.set (To.set (To.set (To.set (To.back (unhide O2) q1) (unhide HK2) (unhide HBL) (unhide HV) (i := 0) (.bool false)) (unhide HK2) (unhide HBL) (unhide HV) (i := 1) (.int .i64 0)) (unhide HK2) (unhide HBL) (unhide HV) (i := 2) (.int .i64 0)) (unhide HK2) (unhide HBL) (unhide HV) (i := 3) (.int .i64 0))
    clear hx q1 H1
    go_wp2
    refine bodyPost_ret (results_st rfl _ _ k2 33 _ _ rfl (unhide HX).out Tryd.rowLimits (by rw [Tryd.sizeLimits]; simp)) rfl ?_
    exact ⟨rfl, v1, unhide Q1⟩
  | true =>
    rw [hf] at HF H1
    have HF2 := unhide HF
    rw [if_pos rfl] at HF2
    rw [HF2]
    clear hf HF HF2
    go_enter Tryd.func78, Tryd.ntmps78
    go_upto_region 1 with fail
    rw [← e1, ← ek1, ← unhide HE2, ← unhide HEK2]
    clear e1 ek1 HE2 HEK2
    go_wp2_with fail
    refine (unhide H1).mono ?_
    rintro e x1 ⟨rfl, v1, q1⟩
    obtain ⟨x2, k3, e3, ek3, hb3, o3, hs3⟩ := boxed x1 #[.bool true, .int .i64 0, .int .i64 0, .int .i64 0] 33
    have hsz := q1.only.size
    have hkk := unhide HKS
    have hbl := unhide HBL
    have hkw := unhide HK1
    have hk12' := unhide hk12
    have hk3b : k3 ≠ b := by omega
    have hk13 : k1 ≠ k3 := by omega
    have hk23 : k2 ≠ k3 := by omega
    have HK3 : Hid (w.heap.size ≤ k3) := by show _ ≤ _; omega
    have hq := To.same (by have := (unhide O2).size; omega) q1 o3
    have HB1x := hide (Bx.off hk1b hq (unhide HB1))
    have HB2x := hide (Bx.off hk2b hq (unhide HB2))
    have HB3x := hide hb3
    have H2 := hide (gu8 hq.now hr2)
    have hr3 := Nat.le_trans (rU_le 8 s1) hr2
    have Q1 := hide (To.back (unhide O2) hq)
    have d0 := (unhide HB1x).cell 0 _ rfl
    go_upto_region 4 with fail
    rw [← e3, ← ek3]
    clear e3 ek3 hb3 o3 hs3 q1 hq hsz hkk hbl hkw hk12' H1 p0 hr2
    generalize (rU 8 s1).2 = s2 at *
    generalize (rU 8 s1).1 = n1 at *
    go_wp2_with fail
    refine (unhide H2).mono ?_
    rintro e x3 ⟨rfl, v2, q2⟩
    have hx := Bx.off hk3b q2 (unhide HB3x)
    have c1 := hx.cell 1 _ rfl
    have f1 := hx.free 1
    have hy := hx.set 1 (.int .i64 (wrap64 (n1 : Int)))
    have os : Only (fun j => j = k3) x3 (x3.setCell ⟨k3, 1, none⟩ (.int .i64 (wrap64 (n1 : Int)))) := (Only.refl _ x3).here 1 _
    have hq := To.set ((unhide Q1).trans q2) (unhide HK3) (unhide HBL) (unhide HV) (i := 1) (.int .i64 (wrap64 (n1 : Int)))
    have HB1y := hide ((Bx.off hk1b q2 (unhide HB1x)).only os hk13)
    have HB2y := hide ((Bx.off hk2b q2 (unhide HB2x)).only os hk23)
    have HB3y := hide hy
    have Q2 := hide hq
    have H3 := hide (gu8 hq.now hr3)
    have hr4 := Nat.le_trans (rU_le 8 s2) hr3
    clear hx q2 hq hy os H2 hr3 d0
    go_upto_region 5 with fail
    generalize x3.setCell ⟨k3, 1, none⟩ (.int .i64 (wrap64 (n1 : Int))) = x4 at *
    clear c1 f1
    have d0 := (unhide HB1y).cell 0 _ rfl
    generalize (rU 8 s2).2 = s3 at *
    generalize (rU 8 s2).1 = n2 at *
    go_wp2_with fail
    refine (unhide H3).mono ?_
    rintro e x5 ⟨rfl, v3, q3⟩
    have hx := Bx.off hk3b q3 (unhide HB3y)
    have c2 := hx.cell 2 _ rfl
    have f2 := hx.free 2
    have hy := hx.set 2 (.int .i64 (wrap64 (n2 : Int)))
    have os : Only (fun j => j = k3) x5 (x5.setCell ⟨k3, 2, none⟩ (.int .i64 (wrap64 (n2 : Int)))) := (Only.refl _ x5).here 2 _
    have hq := To.set ((unhide Q2).trans q3) (unhide HK3) (unhide HBL) (unhide HV) (i := 2) (.int .i64 (wrap64 (n2 : Int)))
    have HB1z := hide ((Bx.off hk1b q3 (unhide HB1y)).only os hk13)
    have HB2z := hide ((Bx.off hk2b q3 (unhide HB2y)).only os hk23)
    have HB3z := hide hy
    have Q3 := hide hq
    have H4 := hide (gu1 hq.now hr4)
    clear hx q3 hq hy os H3 hr4 d0
    go_upto_region 6 with fail
    generalize x5.setCell ⟨k3, 2, none⟩ (.int .i64 (wrap64 (n2 : Int))) = x6 at *
    clear c2 f2
    have d0 := (unhide HB1z).cell 0 _ rfl
    generalize (rU 1 s3).2 = s4 at *
    generalize (rU 1 s3).1 = n3 at *
    go_wp2_with fail
    refine (unhide H4).mono ?_
    rintro e x7 ⟨rfl, v4, q4⟩
    have hx := Bx.off hk3b q4 (unhide HB3z)
    have c3 := hx.cell 3 _ rfl
    have f3 := hx.free 3
    have hy := hx.set 3 (.int .i64 (n3 : Int))
    have os : Only (fun j => j = k3) x7 (x7.setCell ⟨k3, 3, none⟩ (.int .i64 (n3 : Int))) := (Only.refl _ x7).here 3 _
    have hq := To.set ((unhide Q3).trans q4) (unhide HK3) (unhide HBL) (unhide HV) (i := 3) (.int .i64 (n3 : Int))
    have HB2u := hide ((Bx.off hk2b q4 (unhide HB2z)).only os hk23)
    have HB3u := hide hy
    have Q4 := hide hq
    clear hx q4 hq hy os H4 d0
    go_upto_region 7 with fail
    generalize x7.setCell ⟨k3, 3, none⟩ (.int .i64 (n3 : Int)) = x8 at *
    clear c3 f3
    have y0 := (unhide HB3u).cell 0 _ rfl
    have y1 := (unhide HB3u).cell 1 _ rfl
    have y2 := (unhide HB3u).cell 2 _ rfl
    have y3 := (unhide HB3u).cell 3 _ rfl
    have z0 := (unhide HB2u).cell 0 _ rfl
    have z1 := (unhide HB2u).cell 1 _ rfl
    have z2 := (unhide HB2u).cell 2 _ rfl
    have z3 := (unhide HB2u).cell 3 _ rfl
    have f0 := (unhide HB2u).free 0
    have f1 := (unhide HB2u).free 1
    have f2 := (unhide HB2u).free 2
    have f3 := (unhide HB2u).free 3
    have HX := hide (((((unhide HB2u).set 0 (.bool true)).set 1 (.int .i64 (wrap64 (n1 : Int)))).set 2 (.int .i64 (wrap64 (n2 : Int)))).set 3 (.int .i64 (n3 : Int)))
    have Q5 := hide (To.set (To.set (To.set (To.set (unhide Q4) (unhide HK2) (unhide HBL) (unhide HV) (i := 0) (.bool true)) (unhide HK2) (unhide HBL) (unhide HV) (i := 1) (.int .i64 (wrap64 (n1 : Int)))) (unhide HK2) (unhide HBL) (unhide HV) (i := 2) (.int .i64 (wrap64 (n2 : Int)))) (unhide HK2) (unhide HBL) (unhide HV) (i := 3) (.int .i64 (n3 : Int)))
    go_wp2
    refine bodyPost_ret (results_st rfl _ _ k2 33 _ _ rfl (unhide HX).out Tryd.rowLimits (by rw [Tryd.sizeLimits]; simp)) rfl ?_
    exact ⟨by simp only [i64_w]; rfl, v4, unhide Q5⟩
end Ob
end Go.Proofs.YtlcnckmbimmpjaaDoor
