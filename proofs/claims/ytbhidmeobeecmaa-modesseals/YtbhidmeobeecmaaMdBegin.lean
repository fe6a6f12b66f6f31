/-
  modes.begin.
-/
import Derived.Test.YtbhidmeobeecmaaMdJoin
namespace Go.Proofs.Ytbhidmeobeecmaa
open Go.RowKit
set_option linter.unusedSimpArgs false
set_option linter.unusedVariables false
namespace Md
open Ae (zero16 Arr ag_one range_only after exec_load_mid step_store_mid Cip expd new_any newBad_any)
attribute [local go_sem ↓] Md.execOp_loadBlk Md.execOp_rowBlk

theorem results_three {P : Program} {fn : Func} {p q r : Tmp} {ty : TypeId} (h : fn.results = #[.tmp p, .cell q ty, .tmp r]) (tmps : Array Value) (w : World) (g : Nat) (t : TypeId) (cs : Array Value) (d : TypeDesc) (vp vr : Value)
    (hp : tmps.getD p undef = vp) (hr : tmps.getD r undef = vr) (hq : tmps.getD q undef = .pointer (some ⟨g, 0, none⟩)) (hg : w.heap[g]? = some (.cells cs t (0, 0)))
    (hu : P.underlying ty = some d) (hd : (match d with | .struct _ | .array _ _ => true | _ => false) = true) (hi : (P.info? ty).map (·.size) = some cs.size) :
    (results fn tmps).run P w = .ok (.tuple #[vp, .agg cs, vr]) w := by
  have hp' : tmps[p]?.getD undef = vp := by simpa using hp
  have hq' : tmps[q]?.getD undef = .pointer (some ⟨g, 0, none⟩) := by simpa using hq
  have hr' : tmps[r]?.getD undef = vr := by simpa using hr
  simp [results, h, hp', hq', hr', asAddr, run_loadVar_row w g t ty cs (0, 0) d hg hu hd hi]

theorem arrayAt_go (b o cap : Nat) (W : World) : (Instr.arrayAt 44 (.slice (some ⟨b, o, none⟩) 16 cap)).run Try.prog W = .ok (.pointer (some ⟨b, o, none⟩)) W := by
  simp [Instr.arrayAt, run_underlying Try.underMB, go_sem]

/-- a block of another type is stored to: the cipher is as it was -/
theorem cip_apart {w w' : World} {cb m b : Nat} {bs s : List UInt8} (h : Cip w cb m bs) (ha : Arr w b 44 s) (o : Only (fun j => j = b) w w') : Cip w' cb m bs := by
  obtain ⟨hl, g, cap, hb, hr⟩ := h
  have ha' := ha.out
  have h1 : cb ≠ b := by
    rintro rfl
    rw [hb] at ha'
    simp at ha'
  have h2 : g ≠ b := by
    rcases hr.2 with ⟨e, _⟩ | ⟨g', c2, cur, e, _, hg, _⟩
    · simp at e
    · simp only [Value.slice.injEq, Option.some.injEq, Addr.mk.injEq, and_true] at e
      obtain ⟨rfl, _⟩ := e
      rintro rfl
      rw [hg] at ha'
      simp at ha'
  exact ⟨hl, g, cap, o.heap hb h1, o.owns hr (fun k hk e => by simp [Value.ownBlock] at hk; omega)⟩

set_option maxRecDepth 100000 in
set_option maxHeartbeats 2000000 in
theorem begin_ok (L N m : Nat) (hL : L = 16 ∨ L = 24 ∨ L = 32) (hm : m = L / 4 + 7) (hN : L + 4 * N = 16 * m) (a : Addr) (cap : Nat) (key : List UInt8) (hk : key.length = L) (ib io icap : Nat) (iv : List UInt8) (hi : iv.length = 16) (w : World) (hx : Has w (.slice (some a) L cap) key) (hv : Has w (.slice (some ⟨ib, io, none⟩) 16 icap) iv) :
    Calls Try.prog 30 #[.slice (some a) L cap, .slice (some ⟨ib, io, none⟩) 16 icap] w fun e w' => ∃ cb, e = .returned (.tuple #[.pointer (some ⟨cb, 0, none⟩), .agg (iv.map bv).toArray, .int .i64 0]) ∧ Cip w' cb m (expd L key N).1 ∧ Only (fun _ => False) w w' := by
  have A5 := Arr.new w 44 zero16 _ rfl
  have O5 := (Only.refl (fun _ => False) w).alloc (.cells (zero16.map bv).toArray 44)
  have HK : Hid (Calls Try.prog 23 #[.slice (some a) L cap] (w.alloc (.cells (zero16.map bv).toArray 44)) fun e W' => ∃ cb, e = .returned (.tuple #[.pointer (some ⟨cb, 0, none⟩), .int .i64 0]) ∧ Cip W' cb m (expd L key N).1 ∧ Only (fun _ => False) (w.alloc (.cells (zero16.map bv).toArray 44)) W') := new_any L N m hL hm hN a cap key hk _ (hx.only O5 (fun _ _ _ e => e))
  have HA5 := hide A5
  have HO5 := hide O5
  have hb5 : w.heap.size < (w.alloc (.cells (zero16.map bv).toArray 44)).heap.size := by simp
  have HB5 := hide hb5
  have hib : ib < w.heap.size := hv.blk_lt (by intro e; rw [e] at hi; simp at hi) ib rfl
  have hrg : w.rangeAt ib io (iv.map bv) := by
    obtain ⟨bb, off, e, _, hc⟩ := hv.at (by decide)
    simp only [Option.some.injEq, Addr.mk.injEq, and_true] at e
    obtain ⟨rfl, rfl⟩ := e
    intro j u hu
    have hj : j < iv.length := by have := (List.getElem?_eq_some_iff.1 hu).1; simpa using this
    rw [hc j hj]
    rw [List.getElem?_map, List.getElem?_eq_getElem hj] at hu
    simpa using hu
  have HRG := hide (range_only hrg O5 (fun e => e))
  have hv2 := hv.only O5 (fun _ _ _ e => e)
  have HV := hide hv2
  clear A5 O5 hx hv hb5 hv2 hrg hL hm hN hk
  generalize (expd L key N).1 = kb at *
  go_enter Try.func30, Try.ntmps30
  go_upto_region 1 with fail
  rw [Ae.zeros_eq]
  generalize hW : w.alloc (.cells (zero16.map bv).toArray 44) = w5 at *
  generalize hB : w.heap.size = b5 at *
  have HW := hide hW
  have HB := hide hB
  clear hW hB
  go_wp2_with fail
  refine (unhide HK).mono ?_
  rintro e w1 ⟨cb, rfl, hc, ho⟩
  have HC := hide hc
  have HO := hide ho
  have HRG1 := hide (range_only (unhide HRG) ho (fun e => e))
  have hne : ib ≠ b5 := by omega
  have A1 := hide ((unhide HA5).only ho (fun e => e))
  clear hc ho
  have haa := arrayAt_go ib io icap
  have ht3 := there16 (unhide A1) rfl hi
  have hz3 := size16s hi
  have HT3 : Hid (w1.drew.there b5 0 (iv.map bv).toArray.size) := ht3
  have HZ3 := hide hz3
  clear ht3 hz3
  go_wp2_with fail
  refine wp_region_held_drew (S := (fun w' => Only (fun j => j = b5) w1 w')) (by kernel_rfl) ((Only.refl _ _).drew) (fun hHeld => ?_)
  refine wpAnyH_take (i := 0) (v := ?v1) rfl (by kernel_rfl) (by kernel_rfl) (by kernel_rfl) (fun _ _ _ h => h) (Or.inl ⟨by rfl, ?hy1⟩) (by assumption) ?rest1
  case hy1 =>
    intro w hSw
    go_simp
    try with_reducible rfl
  try simp only [Act.put, List.setIfInBounds_toArray, List.set_cons_zero, List.set_cons_succ, List.getElem_toArray, List.getElem_cons_succ, List.getElem_cons_zero]
  refine wpAnyH_take (i := 1) (v := ?v2) rfl (by kernel_rfl) (by kernel_rfl) (by kernel_rfl) (fun _ _ _ h => h) (Or.inl ⟨by rfl, ?hy2⟩) (by assumption) ?rest2
  case hy2 =>
    intro w hSw
    go_simp
    try with_reducible rfl
  try simp only [Act.put, List.setIfInBounds_toArray, List.set_cons_zero, List.set_cons_succ, List.getElem_toArray, List.getElem_cons_succ, List.getElem_cons_zero]
  refine wpAnyH_take (i := 2) (v := ?v3) rfl (by kernel_rfl) (by kernel_rfl) (by kernel_rfl) (fun _ _ _ h => h) (Or.inl ⟨by rfl, ?hy3⟩) (by assumption) ?rest3
  case hy3 =>
    intro w hSw
    go_simp
    try with_reducible rfl
  try simp only [Act.put, List.setIfInBounds_toArray, List.set_cons_zero, List.set_cons_succ, List.getElem_toArray, List.getElem_cons_succ, List.getElem_cons_zero]
  refine wpAnyH_take (i := 3) (v := ?v4) rfl (by kernel_rfl) (by kernel_rfl) (by kernel_rfl) (fun _ _ _ h => h) (Or.inl ⟨by rfl, ?hy4⟩) (by assumption) ?rest4
  case hy4 =>
    intro w hSw
    (refine exec_load_mid 44 (.tmp 24) ?_ ib io ?_ (iv.map bv) _ (range_only (unhide HRG1) hSw hne) Try.underMB rfl (by rw [Try.sizeMB]; simp [hi]) <;> rfl)
  try simp only [Act.put, List.setIfInBounds_toArray, List.set_cons_zero, List.set_cons_succ, List.getElem_toArray, List.getElem_cons_succ, List.getElem_cons_zero]
  refine wpAnyH_take (i := 4) (v := ?v5) rfl (by kernel_rfl) (by kernel_rfl) (by kernel_rfl) (fun _ _ _ h => h) (Or.inl ⟨by rfl, ?hy5⟩) (by assumption) ?rest5
  case hy5 =>
    intro w hSw
    go_simp
    try with_reducible rfl
  try simp only [Act.put, List.setIfInBounds_toArray, List.set_cons_zero, List.set_cons_succ, List.getElem_toArray, List.getElem_cons_succ, List.getElem_cons_zero]
  refine wpAnyH_ready (rs := [5]) (by kernel_rfl) (by simp) ?_
  refine AllReadyH.cons rfl (fun K hK => ?_) AllReadyH.nil
  refine step_store_mid rfl 44 (.tmp 5) (.tmp 25) rfl b5 0 (iv.map bv).toArray rfl rfl (unhide HT3) (unhide HZ3) (ag_one _) ?_
  refine hK.out _ _ ((Only.setCells (S := fun j => j = b5) (fun _ => rfl) _ _ _ ((Only.refl _ _).drew))) (fun hHeld => ?_)
  clear hK K
  try simp only [Act.put, List.setIfInBounds_toArray, List.set_cons_zero, List.set_cons_succ, List.getElem_toArray, List.getElem_cons_succ, List.getElem_cons_zero]
  refine wpAnyH_take (i := 6) (v := ?v6) rfl (by kernel_rfl) (by kernel_rfl) (by kernel_rfl) (fun _ _ _ h => h) (Or.inl ⟨by rfl, ?hy6⟩) (by assumption) ?rest6
  case hy6 =>
    intro w hSw
    go_simp
    try with_reducible rfl
  try simp only [Act.put, List.setIfInBounds_toArray, List.set_cons_zero, List.set_cons_succ, List.getElem_toArray, List.getElem_cons_succ, List.getElem_cons_zero]
  refine wpAnyH_done (by kernel_rfl) ?_ _
  obtain ⟨wz, ez, az, oz⟩ := restored w1.drew b5 zero16 iv (unhide A1) (by rw [hi]; rfl)
  rw [← ez]
  have AZ := hide az
  have OZ : Hid (Only (fun j => j = b5) w1 wz) := ((Only.refl (fun j => j = b5) w1).drew).trans oz (fun _ _ e => e)
  clear ez az oz haa
  go_wp2
  refine bodyPost_ret (results_three rfl _ _ b5 44 (iv.map bv).toArray _ _ _ rfl rfl rfl (unhide AZ).out Try.underMB rfl (by rw [Try.sizeMB]; simp [hi])) rfl ?_
  have hb5n : ∀ j, j < w.heap.size → j ≠ b5 := fun j hj => by have := unhide HB; omega
  refine ⟨cb, rfl, cip_apart (unhide HC) (unhide A1) (unhide OZ), ?_⟩
  · exact ((unhide HO5).trans (unhide HO) (fun _ _ e => e)).trans (unhide OZ) (fun j hj e => (hb5n j hj e).elim)

set_option maxRecDepth 100000 in
set_option maxHeartbeats 2000000 in
theorem begin_badIv (L N m : Nat) (hL : L = 16 ∨ L = 24 ∨ L = 32) (hm : m = L / 4 + 7) (hN : L + 4 * N = 16 * m) (a : Addr) (cap : Nat) (key : List UInt8) (hk : key.length = L) (ia : Option Addr) (il icap : Nat) (hi : il ≠ 16) (w : World) (hx : Has w (.slice (some a) L cap) key) :
    Calls Try.prog 30 #[.slice (some a) L cap, .slice ia il icap] w fun e w' => e = .returned (.tuple #[.pointer none, .agg (zero16.map bv).toArray, .int .i64 1]) ∧ Only (fun _ => False) w w' := by
  have A5 := Arr.new w 44 zero16 _ rfl
  have O5 := (Only.refl (fun _ => False) w).alloc (.cells (zero16.map bv).toArray 44)
  have HK : Hid (Calls Try.prog 23 #[.slice (some a) L cap] (w.alloc (.cells (zero16.map bv).toArray 44)) fun e W' => ∃ cb, e = .returned (.tuple #[.pointer (some ⟨cb, 0, none⟩), .int .i64 0]) ∧ Cip W' cb m (expd L key N).1 ∧ Only (fun _ => False) (w.alloc (.cells (zero16.map bv).toArray 44)) W') := new_any L N m hL hm hN a cap key hk _ (hx.only O5 (fun _ _ _ e => e))
  have HA5 := hide A5
  have HO5 := hide O5
  have hi' : ((il : Int) == 16) = false := by simp; omega
  clear A5 O5 hx hL hm hN hk
  generalize (expd L key N).1 = kb at *
  go_enter Try.func30, Try.ntmps30
  go_upto_region 1 with fail
  rw [Ae.zeros_eq]
  generalize hW : w.alloc (.cells (zero16.map bv).toArray 44) = w5 at *
  generalize hB : w.heap.size = b5 at *
  have HW := hide hW
  have HB := hide hB
  clear hW hB
  go_wp2_with fail
  refine (unhide HK).mono ?_
  rintro e w1 ⟨cb, rfl, hc, ho⟩
  have HO := hide ho
  have A1 := hide ((unhide HA5).only ho (fun e => e))
  clear hc ho
  have hz16 : (zero16 : List UInt8).length = 16 := rfl
  have ht3 := there16 (unhide A1) rfl hz16
  have hz3 := size16s hz16
  have HT3 := hide ht3
  have HZ3 := hide hz3
  clear ht3 hz3
  go_upto_region 5 with fail
  go_wp2_with (refine wpList_store_mid rfl 44 (.tmp 5) (.tmp 21) rfl b5 0 (zero16.map bv).toArray rfl rfl (unhide HT3) (unhide HZ3) (ag_one _) ?_)
  obtain ⟨wz, ez, az, oz⟩ := restored w1 b5 zero16 zero16 (unhide A1) rfl
  refine bodyPost_ret (results_three rfl _ _ b5 44 (zero16.map bv).toArray _ _ _ rfl rfl rfl (by rw [← ez]; exact az.out) Try.underMB rfl (by rw [Try.sizeMB]; rfl)) rfl ?_
  have hb5n : ∀ j, j < w.heap.size → j ≠ b5 := fun j hj => by have := unhide HB; omega
  exact ⟨rfl, by rw [← ez]; exact ((unhide HO5).trans (unhide HO) (fun _ _ e => e)).trans oz (fun j hj e => (hb5n j hj e).elim)⟩

set_option maxRecDepth 100000 in
set_option maxHeartbeats 2000000 in
theorem begin_badKey (ao : Option Addr) (ln cap : Nat) (h1 : ln ≠ 16) (h2 : ln ≠ 24) (h3 : ln ≠ 32) (iv : Value) (w : World) :
    Calls Try.prog 30 #[.slice ao ln cap, iv] w fun e w' => e = .returned (.tuple #[.pointer none, .agg (zero16.map bv).toArray, .int .i64 1]) ∧ Only (fun _ => False) w w' := by
  have A5 := Arr.new w 44 zero16 _ rfl
  have O5 := (Only.refl (fun _ => False) w).alloc (.cells (zero16.map bv).toArray 44)
  have HK := hide (fun W => newBad_any ao ln cap h1 h2 h3 W)
  have HA5 := hide A5
  have HO5 := hide O5
  clear A5 O5 h1 h2 h3
  go_enter Try.func30, Try.ntmps30
  go_upto_region 1 with fail
  rw [Ae.zeros_eq]
  generalize hW : w.alloc (.cells (zero16.map bv).toArray 44) = w1 at *
  generalize hB : w.heap.size = b5 at *
  have HW := hide hW
  have HB := hide hB
  clear hW hB
  go_wp2_with fail
  refine (unhide HK _).mono ?_
  rintro e w2 ⟨rfl, hw2⟩
  rw [hw2]
  clear hw2 w2
  have hz16 : (zero16 : List UInt8).length = 16 := rfl
  have ht3 := there16 (unhide HA5) rfl hz16
  have hz3 := size16s hz16
  have HT3 := hide ht3
  have HZ3 := hide hz3
  clear ht3 hz3
  go_upto_region 3 with fail
  go_wp2_with (refine wpList_store_mid rfl 44 (.tmp 5) (.tmp 16) rfl b5 0 (zero16.map bv).toArray rfl rfl (unhide HT3) (unhide HZ3) (ag_one _) ?_)
  obtain ⟨wz, ez, az, oz⟩ := restored w1 b5 zero16 zero16 (unhide HA5) rfl
  refine bodyPost_ret (results_three rfl _ _ b5 44 (zero16.map bv).toArray _ _ _ rfl rfl rfl (by rw [← ez]; exact az.out) Try.underMB rfl (by rw [Try.sizeMB]; rfl)) rfl ?_
  have hb5n : ∀ j, j < w.heap.size → j ≠ b5 := fun j hj => by have := unhide HB; omega
  exact ⟨rfl, by rw [← ez]; exact (unhide HO5).trans oz (fun j hj e => (hb5n j hj e).elim)⟩

end Md
end Go.Proofs.Ytbhidmeobeecmaa
