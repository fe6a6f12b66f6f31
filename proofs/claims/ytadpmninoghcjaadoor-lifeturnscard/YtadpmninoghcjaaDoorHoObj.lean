/-
  locksmithhand.Object.
-/
import Derived.Test.YtadpmninoghcjaaDoorHoMem
import Derived.Test.YtadpmninoghcjaaDoorHoRaw
namespace Go.Proofs.YtadpmninoghcjaaDoor
open Go.RowKit
set_option linter.unusedSimpArgs false
set_option linter.unusedVariables false
namespace Ob

theorem Tryd.under5i : Tryd.prog.underlying 61 = some (.array 5 3) := by kernel_rfl
theorem Tryd.under4i : Tryd.prog.underlying 62 = some (.array 4 3) := by kernel_rfl
/-- as it begins, ahead of its first date -/
def hStart0 (x : RawH) : Ob := { hStart x with dates := List.replicate 10 (false, 0) }
theorem hStart0_agg (x : RawH) (mv : Value) (s : ByteArray) (t al ma st : Int) (hs : s = str (hId x.a)) (ht : t = at0 hTypes 0 (x.b % 5)) (hal : al = at0 hAlgs 0 (x.c % 4)) (hma : ma = at0 hMasks 0 (x.a.tdiv 12 % 5)) (hst : st = 1 + x.kind % 6) :
    Value.agg (List.toArray (Value.string s :: Value.int IntKind.i64 t :: Value.int IntKind.i64 al :: Value.int IntKind.i64 128 :: Value.int IntKind.i64 ma :: mv :: Value.int IntKind.i64 st :: Value.bool false :: Value.int IntKind.i64 0 :: Value.bool false :: Value.int IntKind.i64 0 :: Value.bool false :: Value.int IntKind.i64 0 :: Value.bool false :: Value.int IntKind.i64 0 :: Value.bool false :: Value.int IntKind.i64 0 :: Value.bool false :: Value.int IntKind.i64 0 :: Value.bool false :: Value.int IntKind.i64 0 :: Value.bool false :: Value.int IntKind.i64 0 :: Value.bool false :: Value.int IntKind.i64 0 :: Value.bool false :: Value.int IntKind.i64 0 :: Value.int IntKind.i64 0 :: Value.string ⟨#[]⟩ :: Value.slice none 0 0 :: Value.slice none 0 0 :: Value.slice none 0 0 :: Value.bool false :: Value.int IntKind.i64 0 :: Value.int IntKind.i64 0 :: Value.int IntKind.i64 0 :: Value.bool false :: []))
      = Value.agg (cells (hStart0 x) mv (.slice none 0 0) (.slice none 0 0) (.slice none 0 0)).toArray := by
  subst hs ht hal hma hst
  rfl

theorem step_store_mid {P : Program} {ops : Array Oper} {o : Oper} {a : Act} {w : World} {K : Act → World → Prop} {Q : Exit → Act → World → Prop} {E : Prop} (hgd : o.guard = none) (ty : TypeId) (x y : Operand) (ho : o.op = .store ty x y)
    (b o' : Nat) (cells : Array Value) (hx : a.eval x = .pointer (some ⟨b, o', none⟩)) (hy : a.eval y = .agg cells)
    (ht : w.there b o' cells.size) (hi : (P.info? ty).map (·.size) = some cells.size) (h1 : cells.all (·.oneCell') = true)
    (h : K (a.put o.dst undef) (w.setCells b o' cells.toList)) : if Region.wanted o (yielded ops a.tmps) = true then Oper.wp P o a w K Q else E := by
  have hw : Region.wanted o (yielded ops a.tmps) = true := by simp [Region.wanted, hgd]
  rw [if_pos hw]
  exact wp_store_mid ty x y ho b o' cells hx hy ht hi h1 h
theorem wr64 (n : Int) (h0 : -9223372036854775808 ≤ n) (h1 : n ≤ 9223372036854775807) : IntKind.i64.wrap n = n := by
  rw [IntKind.wrap_i64]
  omega
theorem tdiv12 (a : Int) (h0 : -9223372036854775808 ≤ a) (h1 : a ≤ 9223372036854775807) : IntKind.i64.wrap (a.tdiv 12) = a.tdiv 12 := by
  rcases Int.le_total 0 a with h | h
  · rw [Int.tdiv_eq_ediv_of_nonneg h]; exact wr64 _ (by omega) (by omega)
  · obtain ⟨b, rfl⟩ : ∃ b, a = -b := ⟨-a, by omega⟩
    rw [Int.neg_tdiv, Int.tdiv_eq_ediv_of_nonneg (by omega)]; exact wr64 _ (by omega) (by omega)
theorem tdiv5 (a : Int) (h0 : -9223372036854775808 ≤ a) (h1 : a ≤ 9223372036854775807) : IntKind.i64.wrap (a.tdiv 5) = a.tdiv 5 := by
  rcases Int.le_total 0 a with h | h
  · rw [Int.tdiv_eq_ediv_of_nonneg h]; exact wr64 _ (by omega) (by omega)
  · obtain ⟨b, rfl⟩ : ∃ b, a = -b := ⟨-a, by omega⟩
    rw [Int.neg_tdiv, Int.tdiv_eq_ediv_of_nonneg (by omega)]; exact wr64 _ (by omega) (by omega)
theorem blk_lt6 {w x6 : World} {mv : Value} {us : List UInt8} (h : Made w x6 mv us) (j : Nat) (hj : w.heap.size = j) : j < x6.heap.size := by
  subst hj
  have h1 := h.own
  rcases h1.2 with ⟨h2, h0⟩ | ⟨g, cap, cur, h2, hb, hg, _⟩
  · rw [h.shape] at h2; cases h2
  · rw [h.shape] at h2
    simp only [Value.slice.injEq, Option.some.injEq, Addr.mk.injEq] at h2
    have := lt_of_block hg
    omega
theorem made4 (x : World) (A : List Value) (hA : A.length = 4) : ∃ wy b, wy = (x.alloc (.cells (List.toArray [.int .i64 0, .int .i64 0, .int .i64 0, .int .i64 0]) 41)).setCells x.heap.size 0 A.toArray.toList ∧ b = x.heap.size ∧ Bx wy b 41 A ∧ Only (fun _ => False) x wy ∧ (x.alloc (.cells (List.toArray [.int .i64 0, .int .i64 0, .int .i64 0, .int .i64 0]) 41)).there x.heap.size 0 A.toArray.size := by
  refine ⟨_, _, rfl, rfl, ?_, Only.setCells (fun h => absurd h (by omega)) _ _ _ ((Only.refl _ x).alloc _), bx_there (Bx.new x 41 [.int .i64 0, .int .i64 0, .int .i64 0, .int .i64 0]) _ (by rw [List.size_toArray, hA]; rfl)⟩
  rw [List.toList_toArray]
  exact setCells_bx (Bx.new x 41 [.int .i64 0, .int .i64 0, .int .i64 0, .int .i64 0]) A (by rw [hA]; rfl)
theorem Tryd.sizeRawH : (Tryd.prog.info? 41).map (·.size) = some 4 := by kernel_rfl
theorem Tryd.rowRawH : (Tryd.prog.underlying 41).map (·.isRow) = some true := by kernel_rfl
theorem Tryd.sizeDateH : (Tryd.prog.info? 24).map (·.size) = some 2 := by kernel_rfl
theorem Tryd.sizeLinkH : (Tryd.prog.info? 67).map (·.size) = some 2 := by kernel_rfl
theorem Tryd.sizeCustH : (Tryd.prog.info? 71).map (·.size) = some 2 := by kernel_rfl
theorem Tryd.under5s : Tryd.prog.underlying 64 = some (.array 5 9) := by kernel_rfl
theorem Tryd.under4s : Tryd.prog.underlying 69 = some (.array 4 9) := by kernel_rfl
theorem Tryd.under3s : Tryd.prog.underlying 72 = some (.array 3 9) := by kernel_rfl
theorem Tryd.under2s : Tryd.prog.underlying 68 = some (.array 2 9) := by kernel_rfl
theorem at0_take (n : Int) (h : 0 ≤ n % 4 ∧ n % 4 < 4) : at0 hNames [] (n % 4) = at0 (hNames.take 4) [] (n % 4) := by
  obtain ⟨h0, h1⟩ := h
  generalize n % 4 = j at *
  have : j = 0 ∨ j = 1 ∨ j = 2 ∨ j = 3 := by omega
  rcases this with rfl | rfl | rfl | rfl <;> rfl
theorem Tryd.sizeLimH : (Tryd.prog.info? 30).map (·.size) = some 4 := by kernel_rfl
theorem raw_one (r : RawH) : r.cells.toArray.all (·.oneCell') = true := all_oneCell_toArray (by intro u hu; simp only [RawH.cells, List.mem_cons, List.not_mem_nil, or_false] at hu; rcases hu with rfl | rfl | rfl | rfl <;> rfl)
theorem RawsH.range {w : World} {ao : Option Addr} {m cap : Nat} {X : Nat → RawH} (h : RawsH w (.slice ao m cap) m X) (k : Nat) (hk : k < m) : ∃ bb off, ao = some ⟨bb, off, none⟩ ∧ bb < w.heap.size ∧ w.rangeAt bb (off + k * 4) (X k).cells := by
  obtain ⟨ao', cap', e, h1, h2, h3⟩ := h.shape
  simp only [Value.slice.injEq] at e
  obtain ⟨rfl, _, rfl⟩ := e
  obtain ⟨bb, off, ea, hb, hc⟩ := h3 (by omega)
  obtain ⟨c0, c1, c2, c3⟩ := hc k hk
  refine ⟨bb, off, ea, hb, fun j v hv => ?_⟩
  match j with
  | 0 => simp [RawH.cells] at hv; subst hv; exact c0
  | 1 => simp [RawH.cells] at hv; subst hv; exact c1
  | 2 => simp [RawH.cells] at hv; subst hv; exact c2
  | 3 => simp [RawH.cells] at hv; subst hv; exact c3
  | j + 4 => simp [RawH.cells] at hv
set_option maxRecDepth 100000 in
set_option maxHeartbeats 40000000 in
theorem hObj_any (x : RawH) (hx : x.Ok) (rv : Value) (m : Nat) (X : Nat → RawH) (w : World) (hR : RawsH w rv m X) :
    Calls Tryd.prog 15 #[.agg x.cells.toArray, rv] w fun e w' => ∃ mv nv lv cv, e = .returned (val (hO x m X) mv nv lv cv) ∧ In w' (hO x m X) mv nv lv cv ∧ Fresh4 w.heap.size mv nv lv cv ∧ Only (fun _ => False) w w' := by
  obtain ⟨ha1, ha2⟩ := hx.a
  obtain ⟨hb1, hb2⟩ := hx.b
  obtain ⟨hc1, hc2⟩ := hx.c
  obtain ⟨hk1, hk2⟩ := hx.kind
  obtain ⟨w1, k1, e1, ek1, hX, o1, hs1⟩ := boxed w x.cells.toArray 41
  obtain ⟨w2, k2, e2, ek2, hZ, o2, hs2⟩ := boxed w1 Zo.toArray 32
  have hX2 := hX.same o2
  have x0 := hX2.cell 0 (.int .i64 x.kind) rfl
  have x1 := hX2.cell 1 (.int .i64 x.a) rfl
  have x2 := hX2.cell 2 (.int .i64 x.b) rfl
  have x3 := hX2.cell 3 (.int .i64 x.c) rfl
  have X0 := hide x0
  have X1 := hide x1
  have X2 := hide x2
  have X3 := hide x3
  have IT : Hid (∀ W, (Instr.index 61 (.agg #[.int .i64 2, .int .i64 2, .int .i64 3, .int .i64 4, .int .i64 7]) (.int .i64 (x.b % 5))).run Tryd.prog W = .ok (.int .i64 (at0 hTypes 0 (x.b % 5))) W) := fun W => index_num 61 5 hTypes (x.b % 5) W Tryd.under5i rfl (Int.emod_nonneg _ (by decide)) (Int.emod_lt_of_pos _ (by decide))
  have IA : Hid (∀ W, (Instr.index 62 (.agg #[.int .i64 3, .int .i64 3, .int .i64 0, .int .i64 4]) (.int .i64 (x.c % 4))).run Tryd.prog W = .ok (.int .i64 (at0 hAlgs 0 (x.c % 4))) W) := fun W => index_num 62 4 hAlgs (x.c % 4) W Tryd.under4i rfl (Int.emod_nonneg _ (by decide)) (Int.emod_lt_of_pos _ (by decide))
  have IM : Hid (∀ W, (Instr.index 61 (.agg #[.int .i64 396, .int .i64 12, .int .i64 4, .int .i64 384, .int .i64 0]) (.int .i64 (x.a.tdiv 12 % 5))).run Tryd.prog W = .ok (.int .i64 (at0 hMasks 0 (x.a.tdiv 12 % 5))) W) := fun W => index_num 61 5 hMasks (x.a.tdiv 12 % 5) W Tryd.under5i rfl (Int.emod_nonneg _ (by decide)) (Int.emod_lt_of_pos _ (by decide))
  have IL : Hid (∀ W, (Instr.index 61 (.agg #[.int .i64 16, .int .i64 16, .int .i64 32, .int .i64 0, .int .i64 24]) (.int .i64 (x.b.tdiv 5 % 5))).run Tryd.prog W = .ok (.int .i64 (at0 hLens 0 (x.b.tdiv 5 % 5))) W) := fun W => index_num 61 5 hLens (x.b.tdiv 5 % 5) W Tryd.under5i rfl (Int.emod_nonneg _ (by decide)) (Int.emod_lt_of_pos _ (by decide))
  have HL : Hid (at0 hLens 0 (x.b.tdiv 5 % 5) = ((at0 hLens 0 (x.b.tdiv 5 % 5)).toNat : Int) ∧ (at0 hLens 0 (x.b.tdiv 5 % 5)).toNat ≤ 1000000) := by
    have h0 := Int.emod_nonneg (x.b.tdiv 5) (show (5 : Int) ≠ 0 by decide)
    have h1 := Int.emod_lt_of_pos (x.b.tdiv 5) (show (0 : Int) < 5 by decide)
    generalize x.b.tdiv 5 % 5 = j at *
    have : j = 0 ∨ j = 1 ∨ j = 2 ∨ j = 3 ∨ j = 4 := by omega
    show _ ∧ _
    rcases this with rfl | rfl | rfl | rfl | rfl <;> decide
  have P1 := hide (fun W => hId_any x.a W)
  have P2 := hide (fun W => pick_any x.b 5 W (by decide) (by decide))
  have P3 := hide (fun W => pick_any x.c 4 W (by decide) (by decide))
  have P4 := hide (fun W => pick_any (x.a.tdiv 12) 5 W (by decide) (by decide))
  have P5 := hide (fun W => pick_any (x.b.tdiv 5) 5 W (by decide) (by decide))
  have P6 := hide (fun W => handBytes_any (at0 hLens 0 (x.b.tdiv 5 % 5)).toNat x.c W (unhide HL).2 hc1 hc2)
  have P7 := hide (fun W => pick_any x.kind 6 W (by decide) (by decide))
  have AG := hide (fun mv => hStart0_agg x mv _ _ _ _ _ rfl rfl rfl rfl rfl)
  have P6 : Hid (∀ W, Calls Tryd.prog 29 #[.int .i64 (at0 hLens 0 (x.b.tdiv 5 % 5)), .int .i64 x.c] W fun e w' => ∃ v, e = .returned v ∧ Made W w' v (rawBytes (at0 hLens 0 (x.b.tdiv 5 % 5)).toNat x.c)) := fun W => by
    have h := unhide P6 W
    rw [← (unhide HL).1] at h
    exact h
  have W16 := hide (tdiv12 x.a ha1 ha2)
  have W22 := hide (tdiv5 x.b hb1 hb2)
  have W31 : Hid (IntKind.i64.wrap (1 + x.kind % 6) = 1 + x.kind % 6) := wr64 _ (by omega) (by omega)
  have HMAT : Hid ((hStart x).mat = rawBytes (at0 hLens 0 (x.b.tdiv 5 % 5)).toNat x.c) := rfl
  have OW := hide (o1.trans o2 (fun _ _ e => e))
  have HRR := hide ((hR.same o1).same o2)
  have HZ : Hid (Bx w2 k2 32 Zo) := hZ
  have HZK : Hid (k2 < w2.heap.size) := by show _ < _; omega
  obtain ⟨ra, rc, hrv, -⟩ := hR.shape
  subst hrv
  have hmm : m ≤ maxLen := by obtain ⟨_, _, e, h1, h2, _⟩ := hR.shape; omega
  have HMM := hide hmm
  clear x0 x1 x2 x3 hX2 hX hZ hR hmm
  have HE1 := hide e1
  have HEK1 := hide ek1
  have HE2 := hide e2
  have HEK2 := hide ek2
  have HK12 : Hid (k2 = k1 + 1) := by show _ = _; omega
  have HWK : Hid (w.heap.size ≤ k2) := by show _ ≤ _; have := o1.size; omega
  have HS2 := hide hs2
  clear e1 ek1 e2 ek2 hs1 hs2
  go_enter Tryd.func15, Tryd.ntmps15
  go_upto_region 1 with fail
  rw [zo_eq, ← unhide HEK1, ← unhide HE1, ← unhide HK12, ← unhide HE2]
  clear HEK1 HE1 HEK2 HE2
  generalize hgT : at0 hTypes 0 (x.b % 5) = vT at *
  generalize hgA : at0 hAlgs 0 (x.c % 4) = vA at *
  generalize hgM : at0 hMasks 0 (x.a.tdiv 12 % 5) = vM at *
  generalize hgL : at0 hLens 0 (x.b.tdiv 5 % 5) = vL at *
  generalize hgS : str (hId x.a) = vS at *
  clear hgT hgA hgM hgL hgS
  go_cut [5] from 16 to 48 (fun p wx => ∃ ka mv, p = .pointer (some ⟨ka, 0, none⟩) ∧ Hid (w2.heap.size ≤ ka) ∧ Hid (Bx wx ka 32 (cells (hStart0 x) mv (.slice none 0 0) (.slice none 0 0) (.slice none 0 0))) ∧ Hid (Has wx mv (rawBytes vL.toNat x.c)) ∧ Hid (∀ j, blk mv = some j → w2.heap.size ≤ j ∧ j ≠ ka ∧ j < wx.heap.size) ∧ Hid (Only (fun _ => False) w2 wx))
  case first =>
    have Q := hide ((Only.refl (fun _ => False) w2).drew)
    refine wp_region_held_drew (S := (fun w' => Only (fun _ => False) w2 w')) (by kernel_rfl) ((Only.refl _ _).drew) (fun hHeld => ?_)
    refine wpAnyH_take (i := 0) (v := ?v1) rfl (by kernel_rfl) (by kernel_rfl) (by kernel_rfl) (fun _ _ _ h => h) (Or.inl ⟨by rfl, ?hy1⟩) (by assumption) ?rest1
    case hy1 =>
      intro w hSw
      go_simp
      try with_reducible rfl
    try simp only [Act.put, List.setIfInBounds_toArray, List.set_cons_zero, List.set_cons_succ, List.getElem_toArray, List.getElem_cons_succ, List.getElem_cons_zero]
    refine wpAnyH_take (i := 1) (v := ?v2) rfl (by kernel_rfl) (by kernel_rfl) (by kernel_rfl) (fun _ _ _ h => h) (Or.inl ⟨by rfl, ?hy2⟩) (by assumption) ?rest2
    case hy2 =>
      intro w hSw
      (have q := hSw.cell (unhide X1) (fun e => e); go_simp; try with_reducible rfl)
    try simp only [Act.put, List.setIfInBounds_toArray, List.set_cons_zero, List.set_cons_succ, List.getElem_toArray, List.getElem_cons_succ, List.getElem_cons_zero]
    refine wpAnyH_take (i := 3) (v := ?v3) rfl (by kernel_rfl) (by kernel_rfl) (by kernel_rfl) (fun _ _ _ h => h) (Or.inl ⟨by rfl, ?hy3⟩) (by assumption) ?rest3
    case hy3 =>
      intro w hSw
      go_simp
      try with_reducible rfl
    try simp only [Act.put, List.setIfInBounds_toArray, List.set_cons_zero, List.set_cons_succ, List.getElem_toArray, List.getElem_cons_succ, List.getElem_cons_zero]
    refine wpAnyH_take (i := 4) (v := ?v4) rfl (by kernel_rfl) (by kernel_rfl) (by kernel_rfl) (fun _ _ _ h => h) (Or.inl ⟨by rfl, ?hy4⟩) (by assumption) ?rest4
    case hy4 =>
      intro w hSw
      go_simp
      try with_reducible rfl
    try simp only [Act.put, List.setIfInBounds_toArray, List.set_cons_zero, List.set_cons_succ, List.getElem_toArray, List.getElem_cons_succ, List.getElem_cons_zero]
    refine wpAnyH_take (i := 5) (v := ?v5) rfl (by kernel_rfl) (by kernel_rfl) (by kernel_rfl) (fun _ _ _ h => h) (Or.inl ⟨by rfl, ?hy5⟩) (by assumption) ?rest5
    case hy5 =>
      intro w hSw
      (have q := hSw.cell (unhide X2) (fun e => e); go_simp; try with_reducible rfl)
    try simp only [Act.put, List.setIfInBounds_toArray, List.set_cons_zero, List.set_cons_succ, List.getElem_toArray, List.getElem_cons_succ, List.getElem_cons_zero]
    refine wpAnyH_take (i := 8) (v := ?v6) rfl (by kernel_rfl) (by kernel_rfl) (by kernel_rfl) (fun _ _ _ h => h) (Or.inl ⟨by rfl, ?hy6⟩) (by assumption) ?rest6
    case hy6 =>
      intro w hSw
      go_simp
      try with_reducible rfl
    try simp only [Act.put, List.setIfInBounds_toArray, List.set_cons_zero, List.set_cons_succ, List.getElem_toArray, List.getElem_cons_succ, List.getElem_cons_zero]
    refine wpAnyH_take (i := 9) (v := ?v7) rfl (by kernel_rfl) (by kernel_rfl) (by kernel_rfl) (fun _ _ _ h => h) (Or.inl ⟨by rfl, ?hy7⟩) (by assumption) ?rest7
    case hy7 =>
      intro w hSw
      go_simp
      try with_reducible rfl
    try simp only [Act.put, List.setIfInBounds_toArray, List.set_cons_zero, List.set_cons_succ, List.getElem_toArray, List.getElem_cons_succ, List.getElem_cons_zero]
    refine wpAnyH_take (i := 10) (v := ?v8) rfl (by kernel_rfl) (by kernel_rfl) (by kernel_rfl) (fun _ _ _ h => h) (Or.inl ⟨by rfl, ?hy8⟩) (by assumption) ?rest8
    case hy8 =>
      intro w hSw
      (have q := hSw.cell (unhide X3) (fun e => e); go_simp; try with_reducible rfl)
    try simp only [Act.put, List.setIfInBounds_toArray, List.set_cons_zero, List.set_cons_succ, List.getElem_toArray, List.getElem_cons_succ, List.getElem_cons_zero]
    refine wpAnyH_take (i := 13) (v := ?v9) rfl (by kernel_rfl) (by kernel_rfl) (by kernel_rfl) (fun _ _ _ h => h) (Or.inl ⟨by rfl, ?hy9⟩) (by assumption) ?rest9
    case hy9 =>
      intro w hSw
      go_simp
      try with_reducible rfl
    try simp only [Act.put, List.setIfInBounds_toArray, List.set_cons_zero, List.set_cons_succ, List.getElem_toArray, List.getElem_cons_succ, List.getElem_cons_zero]
    refine wpAnyH_take (i := 14) (v := ?v10) rfl (by kernel_rfl) (by kernel_rfl) (by kernel_rfl) (fun _ _ _ h => h) (Or.inl ⟨by rfl, ?hy10⟩) (by assumption) ?rest10
    case hy10 =>
      intro w hSw
      go_simp
      try with_reducible rfl
    try simp only [Act.put, List.setIfInBounds_toArray, List.set_cons_zero, List.set_cons_succ, List.getElem_toArray, List.getElem_cons_succ, List.getElem_cons_zero]
    refine wpAnyH_take (i := 15) (v := ?v11) rfl (by kernel_rfl) (by kernel_rfl) (by kernel_rfl) (fun _ _ _ h => h) (Or.inl ⟨by rfl, ?hy11⟩) (by assumption) ?rest11
    case hy11 =>
      intro w hSw
      (have q := hSw.cell (unhide X1) (fun e => e); go_simp; try with_reducible rfl)
    try simp only [Act.put, List.setIfInBounds_toArray, List.set_cons_zero, List.set_cons_succ, List.getElem_toArray, List.getElem_cons_succ, List.getElem_cons_zero]
    refine wpAnyH_take (i := 16) (v := ?v12) rfl (by kernel_rfl) (by kernel_rfl) (by kernel_rfl) (fun _ _ _ h => h) (Or.inl ⟨by rfl, ?hy12⟩) (by assumption) ?rest12
    case hy12 =>
      intro w hSw
      (go_simp; rw [unhide W16]; try with_reducible rfl)
    try simp only [Act.put, List.setIfInBounds_toArray, List.set_cons_zero, List.set_cons_succ, List.getElem_toArray, List.getElem_cons_succ, List.getElem_cons_zero]
    refine wpAnyH_take (i := 19) (v := ?v13) rfl (by kernel_rfl) (by kernel_rfl) (by kernel_rfl) (fun _ _ _ h => h) (Or.inl ⟨by rfl, ?hy13⟩) (by assumption) ?rest13
    case hy13 =>
      intro w hSw
      go_simp
      try with_reducible rfl
    try simp only [Act.put, List.setIfInBounds_toArray, List.set_cons_zero, List.set_cons_succ, List.getElem_toArray, List.getElem_cons_succ, List.getElem_cons_zero]
    refine wpAnyH_take (i := 20) (v := ?v14) rfl (by kernel_rfl) (by kernel_rfl) (by kernel_rfl) (fun _ _ _ h => h) (Or.inl ⟨by rfl, ?hy14⟩) (by assumption) ?rest14
    case hy14 =>
      intro w hSw
      go_simp
      try with_reducible rfl
    try simp only [Act.put, List.setIfInBounds_toArray, List.set_cons_zero, List.set_cons_succ, List.getElem_toArray, List.getElem_cons_succ, List.getElem_cons_zero]
    refine wpAnyH_take (i := 21) (v := ?v15) rfl (by kernel_rfl) (by kernel_rfl) (by kernel_rfl) (fun _ _ _ h => h) (Or.inl ⟨by rfl, ?hy15⟩) (by assumption) ?rest15
    case hy15 =>
      intro w hSw
      (have q := hSw.cell (unhide X2) (fun e => e); go_simp; try with_reducible rfl)
    try simp only [Act.put, List.setIfInBounds_toArray, List.set_cons_zero, List.set_cons_succ, List.getElem_toArray, List.getElem_cons_succ, List.getElem_cons_zero]
    refine wpAnyH_take (i := 22) (v := ?v16) rfl (by kernel_rfl) (by kernel_rfl) (by kernel_rfl) (fun _ _ _ h => h) (Or.inl ⟨by rfl, ?hy16⟩) (by assumption) ?rest16
    case hy16 =>
      intro w hSw
      (go_simp; rw [unhide W22]; try with_reducible rfl)
    try simp only [Act.put, List.setIfInBounds_toArray, List.set_cons_zero, List.set_cons_succ, List.getElem_toArray, List.getElem_cons_succ, List.getElem_cons_zero]
    refine wpAnyH_take (i := 25) (v := ?v17) rfl (by kernel_rfl) (by kernel_rfl) (by kernel_rfl) (fun _ _ _ h => h) (Or.inl ⟨by rfl, ?hy17⟩) (by assumption) ?rest17
    case hy17 =>
      intro w hSw
      go_simp
      try with_reducible rfl
    try simp only [Act.put, List.setIfInBounds_toArray, List.set_cons_zero, List.set_cons_succ, List.getElem_toArray, List.getElem_cons_succ, List.getElem_cons_zero]
    refine wpAnyH_take (i := 26) (v := ?v18) rfl (by kernel_rfl) (by kernel_rfl) (by kernel_rfl) (fun _ _ _ h => h) (Or.inl ⟨by rfl, ?hy18⟩) (by assumption) ?rest18
    case hy18 =>
      intro w hSw
      (have q := hSw.cell (unhide X3) (fun e => e); go_simp; try with_reducible rfl)
    try simp only [Act.put, List.setIfInBounds_toArray, List.set_cons_zero, List.set_cons_succ, List.getElem_toArray, List.getElem_cons_succ, List.getElem_cons_zero]
    refine wpAnyH_take (i := 28) (v := ?v19) rfl (by kernel_rfl) (by kernel_rfl) (by kernel_rfl) (fun _ _ _ h => h) (Or.inl ⟨by rfl, ?hy19⟩) (by assumption) ?rest19
    case hy19 =>
      intro w hSw
      go_simp
      try with_reducible rfl
    try simp only [Act.put, List.setIfInBounds_toArray, List.set_cons_zero, List.set_cons_succ, List.getElem_toArray, List.getElem_cons_succ, List.getElem_cons_zero]
    refine wpAnyH_take (i := 29) (v := ?v20) rfl (by kernel_rfl) (by kernel_rfl) (by kernel_rfl) (fun _ _ _ h => h) (Or.inl ⟨by rfl, ?hy20⟩) (by assumption) ?rest20
    case hy20 =>
      intro w hSw
      (have q := hSw.cell (unhide X0) (fun e => e); go_simp; try with_reducible rfl)
    try simp only [Act.put, List.setIfInBounds_toArray, List.set_cons_zero, List.set_cons_succ, List.getElem_toArray, List.getElem_cons_succ, List.getElem_cons_zero]
    refine wpAnyH_ready (rs := [2, 33]) (by kernel_rfl) (by simp) ?_
    refine (AllReadyH.cons rfl (fun K hK => ?_) (AllReadyH.cons rfl (fun K hK => ?_) AllReadyH.nil))
    · skip
      go_simp
      go_wp2_with fail; refine (unhide P1 _).mono ?_; rintro e wx ⟨rfl, hwx⟩; rw [hwx]; clear hwx wx
      refine hK.out _ _ ((unhide Q)) (fun hHeld => ?_)
      clear hK K
      try simp only [Act.put, List.setIfInBounds_toArray, List.set_cons_zero, List.set_cons_succ, List.getElem_toArray, List.getElem_cons_succ, List.getElem_cons_zero]
      refine wpAnyH_ready (rs := [6, 33]) (by kernel_rfl) (by simp) ?_
      refine (AllReadyH.cons rfl (fun K hK => ?_) (AllReadyH.cons rfl (fun K hK => ?_) AllReadyH.nil))
      · skip
        go_simp
        go_wp2_with fail; refine (unhide P2 _).mono ?_; rintro e wx ⟨rfl, hwx⟩; rw [hwx]; clear hwx wx
        refine hK.out _ _ ((unhide Q)) (fun hHeld => ?_)
        clear hK K
        try simp only [Act.put, List.setIfInBounds_toArray, List.set_cons_zero, List.set_cons_succ, List.getElem_toArray, List.getElem_cons_succ, List.getElem_cons_zero]
        refine wpAnyH_take (i := 7) (v := ?v21) rfl (by kernel_rfl) (by kernel_rfl) (by kernel_rfl) (fun _ _ _ h => h) (Or.inl ⟨by rfl, ?hy21⟩) (by assumption) ?rest21
        case hy21 =>
          intro w hSw
          (have q := unhide IT w; go_simp; try with_reducible rfl)
        try simp only [Act.put, List.setIfInBounds_toArray, List.set_cons_zero, List.set_cons_succ, List.getElem_toArray, List.getElem_cons_succ, List.getElem_cons_zero]
        refine wpAnyH_ready (rs := [11, 33]) (by kernel_rfl) (by simp) ?_
        refine (AllReadyH.cons rfl (fun K hK => ?_) (AllReadyH.cons rfl (fun K hK => ?_) AllReadyH.nil))
        · skip
          go_simp
          go_wp2_with fail; refine (unhide P3 _).mono ?_; rintro e wx ⟨rfl, hwx⟩; rw [hwx]; clear hwx wx
          refine hK.out _ _ ((unhide Q)) (fun hHeld => ?_)
          clear hK K
          try simp only [Act.put, List.setIfInBounds_toArray, List.set_cons_zero, List.set_cons_succ, List.getElem_toArray, List.getElem_cons_succ, List.getElem_cons_zero]
          refine wpAnyH_take (i := 12) (v := ?v22) rfl (by kernel_rfl) (by kernel_rfl) (by kernel_rfl) (fun _ _ _ h => h) (Or.inl ⟨by rfl, ?hy22⟩) (by assumption) ?rest22
          case hy22 =>
            intro w hSw
            (have q := unhide IA w; go_simp; try with_reducible rfl)
          try simp only [Act.put, List.setIfInBounds_toArray, List.set_cons_zero, List.set_cons_succ, List.getElem_toArray, List.getElem_cons_succ, List.getElem_cons_zero]
          refine wpAnyH_ready (rs := [17, 33]) (by kernel_rfl) (by simp) ?_
          refine (AllReadyH.cons rfl (fun K hK => ?_) (AllReadyH.cons rfl (fun K hK => ?_) AllReadyH.nil))
          · skip
            go_simp
            go_wp2_with fail; refine (unhide P4 _).mono ?_; rintro e wx ⟨rfl, hwx⟩; rw [hwx]; clear hwx wx
            refine hK.out _ _ ((unhide Q)) (fun hHeld => ?_)
            clear hK K
            try simp only [Act.put, List.setIfInBounds_toArray, List.set_cons_zero, List.set_cons_succ, List.getElem_toArray, List.getElem_cons_succ, List.getElem_cons_zero]
            refine wpAnyH_take (i := 18) (v := ?v23) rfl (by kernel_rfl) (by kernel_rfl) (by kernel_rfl) (fun _ _ _ h => h) (Or.inl ⟨by rfl, ?hy23⟩) (by assumption) ?rest23
            case hy23 =>
              intro w hSw
              (have q := unhide IM w; go_simp; try with_reducible rfl)
            try simp only [Act.put, List.setIfInBounds_toArray, List.set_cons_zero, List.set_cons_succ, List.getElem_toArray, List.getElem_cons_succ, List.getElem_cons_zero]
            refine wpAnyH_ready (rs := [23, 33]) (by kernel_rfl) (by simp) ?_
            refine (AllReadyH.cons rfl (fun K hK => ?_) (AllReadyH.cons rfl (fun K hK => ?_) AllReadyH.nil))
            · skip
              go_simp
              go_wp2_with fail; refine (unhide P5 _).mono ?_; rintro e wx ⟨rfl, hwx⟩; rw [hwx]; clear hwx wx
              refine hK.out _ _ ((unhide Q)) (fun hHeld => ?_)
              clear hK K
              try simp only [Act.put, List.setIfInBounds_toArray, List.set_cons_zero, List.set_cons_succ, List.getElem_toArray, List.getElem_cons_succ, List.getElem_cons_zero]
              refine wpAnyH_take (i := 24) (v := ?v24) rfl (by kernel_rfl) (by kernel_rfl) (by kernel_rfl) (fun _ _ _ h => h) (Or.inl ⟨by rfl, ?hy24⟩) (by assumption) ?rest24
              case hy24 =>
                intro w hSw
                (have q := unhide IL w; go_simp; try with_reducible rfl)
              try simp only [Act.put, List.setIfInBounds_toArray, List.set_cons_zero, List.set_cons_succ, List.getElem_toArray, List.getElem_cons_succ, List.getElem_cons_zero]
              refine wpAnyH_ready (rs := [27, 33]) (by kernel_rfl) (by simp) ?_
              refine (AllReadyH.cons rfl (fun K hK => ?_) (AllReadyH.cons rfl (fun K hK => ?_) AllReadyH.nil))
              · skip
                go_simp
                go_wp2_with fail; refine (unhide P6 _).mono ?_; rintro e x6 ⟨mv, rfl, hmd⟩; obtain ⟨mb, ml, hmv, hmb⟩ : ∃ mb ml, mv = .slice (some ⟨mb, 0, none⟩) ml ml ∧ mb = w2.drew.heap.size := ⟨_, _, hmd.shape, rfl⟩; have hown := Has.ofOwns hmd.own; have honly := hmd.only; have hlt := blk_lt6 hmd mb hmb.symm; clear hmd; subst hmv; have HMV := hide hown; have hsz : w2.heap.size ≤ w2.drew.heap.size := (unhide Q).size; have Q6 := hide ((unhide Q).trans honly (fun _ _ e => e)); have HBJ : Hid (w2.heap.size ≤ mb ∧ mb < x6.heap.size) := ⟨by omega, hlt⟩; clear honly hown hlt hmb hsz Q; have Q := Q6
                refine hK.out _ _ ((unhide Q6)) (fun hHeld => ?_)
                clear hK K
                try simp only [Act.put, List.setIfInBounds_toArray, List.set_cons_zero, List.set_cons_succ, List.getElem_toArray, List.getElem_cons_succ, List.getElem_cons_zero]
                refine wpAnyH_ready (rs := [30, 33]) (by kernel_rfl) (by simp) ?_
                refine (AllReadyH.cons rfl (fun K hK => ?_) (AllReadyH.cons rfl (fun K hK => ?_) AllReadyH.nil))
                · skip
                  go_simp
                  go_wp2_with fail; refine (unhide P7 _).mono ?_; rintro e wx ⟨rfl, hwx⟩; rw [hwx]; clear hwx wx
                  refine hK.out _ _ ((unhide Q)) (fun hHeld => ?_)
                  clear hK K
                  try simp only [Act.put, List.setIfInBounds_toArray, List.set_cons_zero, List.set_cons_succ, List.getElem_toArray, List.getElem_cons_succ, List.getElem_cons_zero]
                  refine wpAnyH_take (i := 31) (v := ?v25) rfl (by kernel_rfl) (by kernel_rfl) (by kernel_rfl) (fun _ _ _ h => h) (Or.inl ⟨by rfl, ?hy25⟩) (by assumption) ?rest25
                  case hy25 =>
                    intro w hSw
                    (go_simp; rw [unhide W31]; try with_reducible rfl)
                  try simp only [Act.put, List.setIfInBounds_toArray, List.set_cons_zero, List.set_cons_succ, List.getElem_toArray, List.getElem_cons_succ, List.getElem_cons_zero]
                  refine wpAnyH_take (i := 32) (v := ?v26) rfl (by kernel_rfl) (by kernel_rfl) (by kernel_rfl) (fun _ _ _ h => h) (Or.inl ⟨by rfl, ?hy26⟩) (by assumption) ?rest26
                  case hy26 =>
                    intro w hSw
                    go_simp
                    try with_reducible rfl
                  try simp only [Act.put, List.setIfInBounds_toArray, List.set_cons_zero, List.set_cons_succ, List.getElem_toArray, List.getElem_cons_succ, List.getElem_cons_zero]
                  obtain ⟨xa, ka, exa, eka, BA0, oa0, -⟩ := boxed x6 Zo.toArray 32
                  refine wpAnyH_ready (rs := [33]) (by kernel_rfl) (by simp) ?_
                  refine AllReadyH.cons rfl (fun K hK => ?_) AllReadyH.nil
                  go_simp
                  refine hK.out _ _ (((unhide Q).alloc _)) (fun hHeld => ?_)
                  clear hK K
                  try simp only [Act.put, List.setIfInBounds_toArray, List.set_cons_zero, List.set_cons_succ, List.getElem_toArray, List.getElem_cons_succ, List.getElem_cons_zero]
                  rw [zo_eq, ← eka, ← exa]
                  have BA : Hid (Bx xa ka 32 Zo) := BA0
                  have HKA : Hid (w2.heap.size ≤ ka) := by have := (unhide Q).size; show _ ≤ _; omega
                  have QA := hide ((unhide Q).trans oa0 (fun _ _ e => e))
                  have HMV2 := hide ((unhide HMV).only oa0 (fun _ _ _ e => e))
                  have HBK : Hid (w2.heap.size ≤ mb ∧ mb ≠ ka ∧ mb < xa.heap.size) := ⟨(unhide HBJ).1, by have := (unhide HBJ).2; omega, by have := (unhide HBJ).2; have := oa0.size; omega⟩
                  clear exa eka BA0 oa0 Q HMV
                  have Q := QA
                  have HMV := HMV2
                  clear QA HMV2
                  rw [unhide AG (.slice (some ⟨mb, 0, none⟩) ml ml)]
                  have hone := cells_one (hStart0 x) (.slice (some ⟨mb, 0, none⟩) ml ml) (.slice none 0 0) (.slice none 0 0) (.slice none 0 0) rfl rfl rfl rfl
                  have hlen := cells_len (hStart0 x) (.slice (some ⟨mb, 0, none⟩) ml ml) (.slice none 0 0) (.slice none 0 0) (.slice none 0 0) rfl
                  generalize hA : cells (hStart0 x) (.slice (some ⟨mb, 0, none⟩) ml ml) (.slice none 0 0) (.slice none 0 0) (.slice none 0 0) = A at *
                  have HONE : Hid (A.toArray.all (·.oneCell') = true) := all_oneCell_toArray hone
                  have HSZ : Hid ((Tryd.prog.info? 32).map (·.size) = some A.toArray.size) := by show _ = _; rw [List.size_toArray, hlen]; exact Tryd.sizeObj
                  have HTH := hide (bx_there (unhide BA) A.toArray.size (by rw [List.size_toArray, hlen]; rfl))
                  have HAA := hide hA
                  have HLEN := hide hlen
                  clear hone hlen hA
                  have hkn : ¬ ka < w2.heap.size := by have := unhide HKA; omega
                  refine wpAnyH_ready (rs := [34]) (by kernel_rfl) (by simp) ?_
                  refine AllReadyH.cons rfl (fun K hK => ?_) AllReadyH.nil
                  refine step_store_mid rfl 32 (.tmp 5) (.tmp 48) rfl ka 0 A.toArray rfl rfl (unhide HTH) (unhide HSZ) (unhide HONE) ?_
                  refine hK.out _ _ ((Only.setCells (fun h => absurd h hkn) _ _ _ (unhide Q))) (fun hHeld => ?_)
                  clear hK K
                  try simp only [Act.put, List.setIfInBounds_toArray, List.set_cons_zero, List.set_cons_succ, List.getElem_toArray, List.getElem_cons_succ, List.getElem_cons_zero]
                  refine wpAnyH_done (by kernel_rfl) ?_ _
                  go_step
                  go_step
                  go_meet
                  case rel =>
                    refine ⟨ka, .slice (some ⟨mb, 0, none⟩) ml ml, rfl, unhide HKA, ?_, ?_, fun j hj => by cases hj; exact ⟨(unhide HBK).1, (unhide HBK).2.1, Nat.lt_of_lt_of_le (unhide HBK).2.2 (Only.setCells (S := fun j => j = ka) (fun _ => rfl) _ _ _ (Only.refl _ _)).size⟩, ?_⟩
                    · show Bx _ _ _ _
                      rw [unhide HAA]; try rw [List.toList_toArray]
                      exact setCells_bx (unhide BA) A (by rw [unhide HLEN]; rfl)
                    · refine (unhide HMV).only (Only.setCells (S := fun j => j = ka) (fun _ => rfl) _ _ _ (Only.refl _ _)) (fun _ j hj e => by cases hj; exact (unhide HBK).2.1 e)
                    · exact Only.setCells (fun h => absurd h hkn) _ _ _ (unhide Q)
                · skip
                  obtain ⟨xa, ka, exa, eka, BA0, oa0, -⟩ := boxed x6 Zo.toArray 32
                  go_simp
                  refine hK.out _ _ (((unhide Q).alloc _)) (fun hHeld => ?_)
                  clear hK K
                  try simp only [Act.put, List.setIfInBounds_toArray, List.set_cons_zero, List.set_cons_succ, List.getElem_toArray, List.getElem_cons_succ, List.getElem_cons_zero]
                  rw [zo_eq, ← eka, ← exa]
                  have BA : Hid (Bx xa ka 32 Zo) := BA0
                  have HKA : Hid (w2.heap.size ≤ ka) := by have := (unhide Q).size; show _ ≤ _; omega
                  have QA := hide ((unhide Q).trans oa0 (fun _ _ e => e))
                  have HMV2 := hide ((unhide HMV).only oa0 (fun _ _ _ e => e))
                  have HBK : Hid (w2.heap.size ≤ mb ∧ mb ≠ ka ∧ mb < xa.heap.size) := ⟨(unhide HBJ).1, by have := (unhide HBJ).2; omega, by have := (unhide HBJ).2; have := oa0.size; omega⟩
                  clear exa eka BA0 oa0 Q HMV
                  have Q := QA
                  have HMV := HMV2
                  clear QA HMV2
                  refine wpAnyH_ready (rs := [30]) (by kernel_rfl) (by simp) ?_
                  refine AllReadyH.cons rfl (fun K hK => ?_) AllReadyH.nil
                  go_simp
                  go_wp2_with fail; refine (unhide P7 _).mono ?_; rintro e wx ⟨rfl, hwx⟩; rw [hwx]; clear hwx wx
                  refine hK.out _ _ ((unhide Q)) (fun hHeld => ?_)
                  clear hK K
                  try simp only [Act.put, List.setIfInBounds_toArray, List.set_cons_zero, List.set_cons_succ, List.getElem_toArray, List.getElem_cons_succ, List.getElem_cons_zero]
                  refine wpAnyH_take (i := 31) (v := ?v27) rfl (by kernel_rfl) (by kernel_rfl) (by kernel_rfl) (fun _ _ _ h => h) (Or.inl ⟨by rfl, ?hy27⟩) (by assumption) ?rest27
                  case hy27 =>
                    intro w hSw
                    (go_simp; rw [unhide W31]; try with_reducible rfl)
                  try simp only [Act.put, List.setIfInBounds_toArray, List.set_cons_zero, List.set_cons_succ, List.getElem_toArray, List.getElem_cons_succ, List.getElem_cons_zero]
                  refine wpAnyH_take (i := 32) (v := ?v28) rfl (by kernel_rfl) (by kernel_rfl) (by kernel_rfl) (fun _ _ _ h => h) (Or.inl ⟨by rfl, ?hy28⟩) (by assumption) ?rest28
                  case hy28 =>
                    intro w hSw
                    go_simp
                    try with_reducible rfl
                  try simp only [Act.put, List.setIfInBounds_toArray, List.set_cons_zero, List.set_cons_succ, List.getElem_toArray, List.getElem_cons_succ, List.getElem_cons_zero]
                  rw [unhide AG (.slice (some ⟨mb, 0, none⟩) ml ml)]
                  have hone := cells_one (hStart0 x) (.slice (some ⟨mb, 0, none⟩) ml ml) (.slice none 0 0) (.slice none 0 0) (.slice none 0 0) rfl rfl rfl rfl
                  have hlen := cells_len (hStart0 x) (.slice (some ⟨mb, 0, none⟩) ml ml) (.slice none 0 0) (.slice none 0 0) (.slice none 0 0) rfl
                  generalize hA : cells (hStart0 x) (.slice (some ⟨mb, 0, none⟩) ml ml) (.slice none 0 0) (.slice none 0 0) (.slice none 0 0) = A at *
                  have HONE : Hid (A.toArray.all (·.oneCell') = true) := all_oneCell_toArray hone
                  have HSZ : Hid ((Tryd.prog.info? 32).map (·.size) = some A.toArray.size) := by show _ = _; rw [List.size_toArray, hlen]; exact Tryd.sizeObj
                  have HTH := hide (bx_there (unhide BA) A.toArray.size (by rw [List.size_toArray, hlen]; rfl))
                  have HAA := hide hA
                  have HLEN := hide hlen
                  clear hone hlen hA
                  have hkn : ¬ ka < w2.heap.size := by have := unhide HKA; omega
                  refine wpAnyH_ready (rs := [34]) (by kernel_rfl) (by simp) ?_
                  refine AllReadyH.cons rfl (fun K hK => ?_) AllReadyH.nil
                  refine step_store_mid rfl 32 (.tmp 5) (.tmp 48) rfl ka 0 A.toArray rfl rfl (unhide HTH) (unhide HSZ) (unhide HONE) ?_
                  refine hK.out _ _ ((Only.setCells (fun h => absurd h hkn) _ _ _ (unhide Q))) (fun hHeld => ?_)
                  clear hK K
                  try simp only [Act.put, List.setIfInBounds_toArray, List.set_cons_zero, List.set_cons_succ, List.getElem_toArray, List.getElem_cons_succ, List.getElem_cons_zero]
                  refine wpAnyH_done (by kernel_rfl) ?_ _
                  go_step
                  go_step
                  go_meet
                  case rel =>
                    refine ⟨ka, .slice (some ⟨mb, 0, none⟩) ml ml, rfl, unhide HKA, ?_, ?_, fun j hj => by cases hj; exact ⟨(unhide HBK).1, (unhide HBK).2.1, Nat.lt_of_lt_of_le (unhide HBK).2.2 (Only.setCells (S := fun j => j = ka) (fun _ => rfl) _ _ _ (Only.refl _ _)).size⟩, ?_⟩
                    · show Bx _ _ _ _
                      rw [unhide HAA]; try rw [List.toList_toArray]
                      exact setCells_bx (unhide BA) A (by rw [unhide HLEN]; rfl)
                    · refine (unhide HMV).only (Only.setCells (S := fun j => j = ka) (fun _ => rfl) _ _ _ (Only.refl _ _)) (fun _ j hj e => by cases hj; exact (unhide HBK).2.1 e)
                    · exact Only.setCells (fun h => absurd h hkn) _ _ _ (unhide Q)
              · skip
                obtain ⟨ya, ka, eya, eka, BA0, oa0, -⟩ := boxed w2 Zo.toArray 32
                go_simp
                refine hK.out _ _ ((((Only.refl (fun _ => False) w2).alloc _).drew)) (fun hHeld => ?_)
                clear hK K
                try simp only [Act.put, List.setIfInBounds_toArray, List.set_cons_zero, List.set_cons_succ, List.getElem_toArray, List.getElem_cons_succ, List.getElem_cons_zero]
                rw [zo_eq, ← eka, ← eya]
                have BA : Hid (Bx ya.drew ka 32 Zo) := BA0.same ((Only.refl _ _).drew)
                have HKA : Hid (w2.heap.size ≤ ka) := by show _ ≤ _; omega
                have QA := hide (oa0.drew)
                clear eya eka BA0 oa0 Q
                have Q := QA
                clear QA
                generalize ya.drew = xa at *
                refine wpAnyH_ready (rs := [27]) (by kernel_rfl) (by simp) ?_
                refine AllReadyH.cons rfl (fun K hK => ?_) AllReadyH.nil
                go_simp
                go_wp2_with fail; refine (unhide P6 _).mono ?_; rintro e x6 ⟨mv, rfl, hmd⟩; obtain ⟨mb, ml, hmv, hmb⟩ : ∃ mb ml, mv = .slice (some ⟨mb, 0, none⟩) ml ml ∧ mb = xa.heap.size := ⟨_, _, hmd.shape, rfl⟩; have hown := Has.ofOwns hmd.own; have honly := hmd.only; have hlt := blk_lt6 hmd mb hmb.symm; clear hmd; subst hmv; have HMV := hide hown; have hsz : w2.heap.size ≤ xa.heap.size := (unhide Q).size; have Q6 := hide ((unhide Q).trans honly (fun _ _ e => e)); have HBK : Hid (w2.heap.size ≤ mb ∧ mb ≠ ka ∧ mb < x6.heap.size) := (by have := (unhide BA).lt; exact ⟨by omega, by omega, hlt⟩); have BA6 := hide ((unhide BA).same honly); clear honly hown hlt hmb hsz BA Q; have BA := BA6; have Q := Q6; clear BA6
                refine hK.out _ _ ((unhide Q6)) (fun hHeld => ?_)
                clear hK K
                try simp only [Act.put, List.setIfInBounds_toArray, List.set_cons_zero, List.set_cons_succ, List.getElem_toArray, List.getElem_cons_succ, List.getElem_cons_zero]
                refine wpAnyH_ready (rs := [30]) (by kernel_rfl) (by simp) ?_
                refine AllReadyH.cons rfl (fun K hK => ?_) AllReadyH.nil
                go_simp
                go_wp2_with fail; refine (unhide P7 _).mono ?_; rintro e wx ⟨rfl, hwx⟩; rw [hwx]; clear hwx wx
                refine hK.out _ _ ((unhide Q)) (fun hHeld => ?_)
                clear hK K
                try simp only [Act.put, List.setIfInBounds_toArray, List.set_cons_zero, List.set_cons_succ, List.getElem_toArray, List.getElem_cons_succ, List.getElem_cons_zero]
                refine wpAnyH_take (i := 31) (v := ?v29) rfl (by kernel_rfl) (by kernel_rfl) (by kernel_rfl) (fun _ _ _ h => h) (Or.inl ⟨by rfl, ?hy29⟩) (by assumption) ?rest29
                case hy29 =>
                  intro w hSw
                  (go_simp; rw [unhide W31]; try with_reducible rfl)
                try simp only [Act.put, List.setIfInBounds_toArray, List.set_cons_zero, List.set_cons_succ, List.getElem_toArray, List.getElem_cons_succ, List.getElem_cons_zero]
                refine wpAnyH_take (i := 32) (v := ?v30) rfl (by kernel_rfl) (by kernel_rfl) (by kernel_rfl) (fun _ _ _ h => h) (Or.inl ⟨by rfl, ?hy30⟩) (by assumption) ?rest30
                case hy30 =>
                  intro w hSw
                  go_simp
                  try with_reducible rfl
                try simp only [Act.put, List.setIfInBounds_toArray, List.set_cons_zero, List.set_cons_succ, List.getElem_toArray, List.getElem_cons_succ, List.getElem_cons_zero]
                rw [unhide AG (.slice (some ⟨mb, 0, none⟩) ml ml)]
                have hone := cells_one (hStart0 x) (.slice (some ⟨mb, 0, none⟩) ml ml) (.slice none 0 0) (.slice none 0 0) (.slice none 0 0) rfl rfl rfl rfl
                have hlen := cells_len (hStart0 x) (.slice (some ⟨mb, 0, none⟩) ml ml) (.slice none 0 0) (.slice none 0 0) (.slice none 0 0) rfl
                generalize hA : cells (hStart0 x) (.slice (some ⟨mb, 0, none⟩) ml ml) (.slice none 0 0) (.slice none 0 0) (.slice none 0 0) = A at *
                have HONE : Hid (A.toArray.all (·.oneCell') = true) := all_oneCell_toArray hone
                have HSZ : Hid ((Tryd.prog.info? 32).map (·.size) = some A.toArray.size) := by show _ = _; rw [List.size_toArray, hlen]; exact Tryd.sizeObj
                have HTH := hide (bx_there (unhide BA) A.toArray.size (by rw [List.size_toArray, hlen]; rfl))
                have HAA := hide hA
                have HLEN := hide hlen
                clear hone hlen hA
                have hkn : ¬ ka < w2.heap.size := by have := unhide HKA; omega
                refine wpAnyH_ready (rs := [34]) (by kernel_rfl) (by simp) ?_
                refine AllReadyH.cons rfl (fun K hK => ?_) AllReadyH.nil
                refine step_store_mid rfl 32 (.tmp 5) (.tmp 48) rfl ka 0 A.toArray rfl rfl (unhide HTH) (unhide HSZ) (unhide HONE) ?_
                refine hK.out _ _ ((Only.setCells (fun h => absurd h hkn) _ _ _ (unhide Q))) (fun hHeld => ?_)
                clear hK K
                try simp only [Act.put, List.setIfInBounds_toArray, List.set_cons_zero, List.set_cons_succ, List.getElem_toArray, List.getElem_cons_succ, List.getElem_cons_zero]
                refine wpAnyH_done (by kernel_rfl) ?_ _
                go_step
                go_step
                go_meet
                case rel =>
                  refine ⟨ka, .slice (some ⟨mb, 0, none⟩) ml ml, rfl, unhide HKA, ?_, ?_, fun j hj => by cases hj; exact ⟨(unhide HBK).1, (unhide HBK).2.1, Nat.lt_of_lt_of_le (unhide HBK).2.2 (Only.setCells (S := fun j => j = ka) (fun _ => rfl) _ _ _ (Only.refl _ _)).size⟩, ?_⟩
                  · show Bx _ _ _ _
                    rw [unhide HAA]; try rw [List.toList_toArray]
                    exact setCells_bx (unhide BA) A (by rw [unhide HLEN]; rfl)
                  · refine (unhide HMV).only (Only.setCells (S := fun j => j = ka) (fun _ => rfl) _ _ _ (Only.refl _ _)) (fun _ j hj e => by cases hj; exact (unhide HBK).2.1 e)
                  · exact Only.setCells (fun h => absurd h hkn) _ _ _ (unhide Q)
            · skip
              obtain ⟨ya, ka, eya, eka, BA0, oa0, -⟩ := boxed w2 Zo.toArray 32
              go_simp
              refine hK.out _ _ ((((Only.refl (fun _ => False) w2).alloc _).drew)) (fun hHeld => ?_)
              clear hK K
              try simp only [Act.put, List.setIfInBounds_toArray, List.set_cons_zero, List.set_cons_succ, List.getElem_toArray, List.getElem_cons_succ, List.getElem_cons_zero]
              rw [zo_eq, ← eka, ← eya]
              have BA : Hid (Bx ya.drew ka 32 Zo) := BA0.same ((Only.refl _ _).drew)
              have HKA : Hid (w2.heap.size ≤ ka) := by show _ ≤ _; omega
              have QA := hide (oa0.drew)
              clear eya eka BA0 oa0 Q
              have Q := QA
              clear QA
              generalize ya.drew = xa at *
              refine wpAnyH_ready (rs := [23]) (by kernel_rfl) (by simp) ?_
              refine AllReadyH.cons rfl (fun K hK => ?_) AllReadyH.nil
              go_simp
              go_wp2_with fail; refine (unhide P5 _).mono ?_; rintro e wx ⟨rfl, hwx⟩; rw [hwx]; clear hwx wx
              refine hK.out _ _ ((unhide Q)) (fun hHeld => ?_)
              clear hK K
              try simp only [Act.put, List.setIfInBounds_toArray, List.set_cons_zero, List.set_cons_succ, List.getElem_toArray, List.getElem_cons_succ, List.getElem_cons_zero]
              refine wpAnyH_take (i := 24) (v := ?v31) rfl (by kernel_rfl) (by kernel_rfl) (by kernel_rfl) (fun _ _ _ h => h) (Or.inl ⟨by rfl, ?hy31⟩) (by assumption) ?rest31
              case hy31 =>
                intro w hSw
                (have q := unhide IL w; go_simp; try with_reducible rfl)
              try simp only [Act.put, List.setIfInBounds_toArray, List.set_cons_zero, List.set_cons_succ, List.getElem_toArray, List.getElem_cons_succ, List.getElem_cons_zero]
              refine wpAnyH_ready (rs := [27]) (by kernel_rfl) (by simp) ?_
              refine AllReadyH.cons rfl (fun K hK => ?_) AllReadyH.nil
              go_simp
              go_wp2_with fail; refine (unhide P6 _).mono ?_; rintro e x6 ⟨mv, rfl, hmd⟩; obtain ⟨mb, ml, hmv, hmb⟩ : ∃ mb ml, mv = .slice (some ⟨mb, 0, none⟩) ml ml ∧ mb = xa.heap.size := ⟨_, _, hmd.shape, rfl⟩; have hown := Has.ofOwns hmd.own; have honly := hmd.only; have hlt := blk_lt6 hmd mb hmb.symm; clear hmd; subst hmv; have HMV := hide hown; have hsz : w2.heap.size ≤ xa.heap.size := (unhide Q).size; have Q6 := hide ((unhide Q).trans honly (fun _ _ e => e)); have HBK : Hid (w2.heap.size ≤ mb ∧ mb ≠ ka ∧ mb < x6.heap.size) := (by have := (unhide BA).lt; exact ⟨by omega, by omega, hlt⟩); have BA6 := hide ((unhide BA).same honly); clear honly hown hlt hmb hsz BA Q; have BA := BA6; have Q := Q6; clear BA6
              refine hK.out _ _ ((unhide Q6)) (fun hHeld => ?_)
              clear hK K
              try simp only [Act.put, List.setIfInBounds_toArray, List.set_cons_zero, List.set_cons_succ, List.getElem_toArray, List.getElem_cons_succ, List.getElem_cons_zero]
              refine wpAnyH_ready (rs := [30]) (by kernel_rfl) (by simp) ?_
              refine AllReadyH.cons rfl (fun K hK => ?_) AllReadyH.nil
              go_simp
              go_wp2_with fail; refine (unhide P7 _).mono ?_; rintro e wx ⟨rfl, hwx⟩; rw [hwx]; clear hwx wx
              refine hK.out _ _ ((unhide Q)) (fun hHeld => ?_)
              clear hK K
              try simp only [Act.put, List.setIfInBounds_toArray, List.set_cons_zero, List.set_cons_succ, List.getElem_toArray, List.getElem_cons_succ, List.getElem_cons_zero]
              refine wpAnyH_take (i := 31) (v := ?v32) rfl (by kernel_rfl) (by kernel_rfl) (by kernel_rfl) (fun _ _ _ h => h) (Or.inl ⟨by rfl, ?hy32⟩) (by assumption) ?rest32
              case hy32 =>
                intro w hSw
                (go_simp; rw [unhide W31]; try with_reducible rfl)
              try simp only [Act.put, List.setIfInBounds_toArray, List.set_cons_zero, List.set_cons_succ, List.getElem_toArray, List.getElem_cons_succ, List.getElem_cons_zero]
              refine wpAnyH_take (i := 32) (v := ?v33) rfl (by kernel_rfl) (by kernel_rfl) (by kernel_rfl) (fun _ _ _ h => h) (Or.inl ⟨by rfl, ?hy33⟩) (by assumption) ?rest33
              case hy33 =>
                intro w hSw
                go_simp
                try with_reducible rfl
              try simp only [Act.put, List.setIfInBounds_toArray, List.set_cons_zero, List.set_cons_succ, List.getElem_toArray, List.getElem_cons_succ, List.getElem_cons_zero]
              rw [unhide AG (.slice (some ⟨mb, 0, none⟩) ml ml)]
              have hone := cells_one (hStart0 x) (.slice (some ⟨mb, 0, none⟩) ml ml) (.slice none 0 0) (.slice none 0 0) (.slice none 0 0) rfl rfl rfl rfl
              have hlen := cells_len (hStart0 x) (.slice (some ⟨mb, 0, none⟩) ml ml) (.slice none 0 0) (.slice none 0 0) (.slice none 0 0) rfl
              generalize hA : cells (hStart0 x) (.slice (some ⟨mb, 0, none⟩) ml ml) (.slice none 0 0) (.slice none 0 0) (.slice none 0 0) = A at *
              have HONE : Hid (A.toArray.all (·.oneCell') = true) := all_oneCell_toArray hone
              have HSZ : Hid ((Tryd.prog.info? 32).map (·.size) = some A.toArray.size) := by show _ = _; rw [List.size_toArray, hlen]; exact Tryd.sizeObj
              have HTH := hide (bx_there (unhide BA) A.toArray.size (by rw [List.size_toArray, hlen]; rfl))
              have HAA := hide hA
              have HLEN := hide hlen
              clear hone hlen hA
              have hkn : ¬ ka < w2.heap.size := by have := unhide HKA; omega
              refine wpAnyH_ready (rs := [34]) (by kernel_rfl) (by simp) ?_
              refine AllReadyH.cons rfl (fun K hK => ?_) AllReadyH.nil
              refine step_store_mid rfl 32 (.tmp 5) (.tmp 48) rfl ka 0 A.toArray rfl rfl (unhide HTH) (unhide HSZ) (unhide HONE) ?_
              refine hK.out _ _ ((Only.setCells (fun h => absurd h hkn) _ _ _ (unhide Q))) (fun hHeld => ?_)
              clear hK K
              try simp only [Act.put, List.setIfInBounds_toArray, List.set_cons_zero, List.set_cons_succ, List.getElem_toArray, List.getElem_cons_succ, List.getElem_cons_zero]
              refine wpAnyH_done (by kernel_rfl) ?_ _
              go_step
              go_step
              go_meet
              case rel =>
                refine ⟨ka, .slice (some ⟨mb, 0, none⟩) ml ml, rfl, unhide HKA, ?_, ?_, fun j hj => by cases hj; exact ⟨(unhide HBK).1, (unhide HBK).2.1, Nat.lt_of_lt_of_le (unhide HBK).2.2 (Only.setCells (S := fun j => j = ka) (fun _ => rfl) _ _ _ (Only.refl _ _)).size⟩, ?_⟩
                · show Bx _ _ _ _
                  rw [unhide HAA]; try rw [List.toList_toArray]
                  exact setCells_bx (unhide BA) A (by rw [unhide HLEN]; rfl)
                · refine (unhide HMV).only (Only.setCells (S := fun j => j = ka) (fun _ => rfl) _ _ _ (Only.refl _ _)) (fun _ j hj e => by cases hj; exact (unhide HBK).2.1 e)
                · exact Only.setCells (fun h => absurd h hkn) _ _ _ (unhide Q)
          · skip
            obtain ⟨ya, ka, eya, eka, BA0, oa0, -⟩ := boxed w2 Zo.toArray 32
            go_simp
            refine hK.out _ _ ((((Only.refl (fun _ => False) w2).alloc _).drew)) (fun hHeld => ?_)
            clear hK K
            try simp only [Act.put, List.setIfInBounds_toArray, List.set_cons_zero, List.set_cons_succ, List.getElem_toArray, List.getElem_cons_succ, List.getElem_cons_zero]
            rw [zo_eq, ← eka, ← eya]
            have BA : Hid (Bx ya.drew ka 32 Zo) := BA0.same ((Only.refl _ _).drew)
            have HKA : Hid (w2.heap.size ≤ ka) := by show _ ≤ _; omega
            have QA := hide (oa0.drew)
            clear eya eka BA0 oa0 Q
            have Q := QA
            clear QA
            generalize ya.drew = xa at *
            refine wpAnyH_ready (rs := [17]) (by kernel_rfl) (by simp) ?_
            refine AllReadyH.cons rfl (fun K hK => ?_) AllReadyH.nil
            go_simp
            go_wp2_with fail; refine (unhide P4 _).mono ?_; rintro e wx ⟨rfl, hwx⟩; rw [hwx]; clear hwx wx
            refine hK.out _ _ ((unhide Q)) (fun hHeld => ?_)
            clear hK K
            try simp only [Act.put, List.setIfInBounds_toArray, List.set_cons_zero, List.set_cons_succ, List.getElem_toArray, List.getElem_cons_succ, List.getElem_cons_zero]
            refine wpAnyH_take (i := 18) (v := ?v34) rfl (by kernel_rfl) (by kernel_rfl) (by kernel_rfl) (fun _ _ _ h => h) (Or.inl ⟨by rfl, ?hy34⟩) (by assumption) ?rest34
            case hy34 =>
              intro w hSw
              (have q := unhide IM w; go_simp; try with_reducible rfl)
            try simp only [Act.put, List.setIfInBounds_toArray, List.set_cons_zero, List.set_cons_succ, List.getElem_toArray, List.getElem_cons_succ, List.getElem_cons_zero]
            refine wpAnyH_ready (rs := [23]) (by kernel_rfl) (by simp) ?_
            refine AllReadyH.cons rfl (fun K hK => ?_) AllReadyH.nil
            go_simp
            go_wp2_with fail; refine (unhide P5 _).mono ?_; rintro e wx ⟨rfl, hwx⟩; rw [hwx]; clear hwx wx
            refine hK.out _ _ ((unhide Q)) (fun hHeld => ?_)
            clear hK K
            try simp only [Act.put, List.setIfInBounds_toArray, List.set_cons_zero, List.set_cons_succ, List.getElem_toArray, List.getElem_cons_succ, List.getElem_cons_zero]
            refine wpAnyH_take (i := 24) (v := ?v35) rfl (by kernel_rfl) (by kernel_rfl) (by kernel_rfl) (fun _ _ _ h => h) (Or.inl ⟨by rfl, ?hy35⟩) (by assumption) ?rest35
            case hy35 =>
              intro w hSw
              (have q := unhide IL w; go_simp; try with_reducible rfl)
            try simp only [Act.put, List.setIfInBounds_toArray, List.set_cons_zero, List.set_cons_succ, List.getElem_toArray, List.getElem_cons_succ, List.getElem_cons_zero]
            refine wpAnyH_ready (rs := [27]) (by kernel_rfl) (by simp) ?_
            refine AllReadyH.cons rfl (fun K hK => ?_) AllReadyH.nil
            go_simp
            go_wp2_with fail; refine (unhide P6 _).mono ?_; rintro e x6 ⟨mv, rfl, hmd⟩; obtain ⟨mb, ml, hmv, hmb⟩ : ∃ mb ml, mv = .slice (some ⟨mb, 0, none⟩) ml ml ∧ mb = xa.heap.size := ⟨_, _, hmd.shape, rfl⟩; have hown := Has.ofOwns hmd.own; have honly := hmd.only; have hlt := blk_lt6 hmd mb hmb.symm; clear hmd; subst hmv; have HMV := hide hown; have hsz : w2.heap.size ≤ xa.heap.size := (unhide Q).size; have Q6 := hide ((unhide Q).trans honly (fun _ _ e => e)); have HBK : Hid (w2.heap.size ≤ mb ∧ mb ≠ ka ∧ mb < x6.heap.size) := (by have := (unhide BA).lt; exact ⟨by omega, by omega, hlt⟩); have BA6 := hide ((unhide BA).same honly); clear honly hown hlt hmb hsz BA Q; have BA := BA6; have Q := Q6; clear BA6
            refine hK.out _ _ ((unhide Q6)) (fun hHeld => ?_)
            clear hK K
            try simp only [Act.put, List.setIfInBounds_toArray, List.set_cons_zero, List.set_cons_succ, List.getElem_toArray, List.getElem_cons_succ, List.getElem_cons_zero]
            refine wpAnyH_ready (rs := [30]) (by kernel_rfl) (by simp) ?_
            refine AllReadyH.cons rfl (fun K hK => ?_) AllReadyH.nil
            go_simp
            go_wp2_with fail; refine (unhide P7 _).mono ?_; rintro e wx ⟨rfl, hwx⟩; rw [hwx]; clear hwx wx
            refine hK.out _ _ ((unhide Q)) (fun hHeld => ?_)
            clear hK K
            try simp only [Act.put, List.setIfInBounds_toArray, List.set_cons_zero, List.set_cons_succ, List.getElem_toArray, List.getElem_cons_succ, List.getElem_cons_zero]
            refine wpAnyH_take (i := 31) (v := ?v36) rfl (by kernel_rfl) (by kernel_rfl) (by kernel_rfl) (fun _ _ _ h => h) (Or.inl ⟨by rfl, ?hy36⟩) (by assumption) ?rest36
            case hy36 =>
              intro w hSw
              (go_simp; rw [unhide W31]; try with_reducible rfl)
            try simp only [Act.put, List.setIfInBounds_toArray, List.set_cons_zero, List.set_cons_succ, List.getElem_toArray, List.getElem_cons_succ, List.getElem_cons_zero]
            refine wpAnyH_take (i := 32) (v := ?v37) rfl (by kernel_rfl) (by kernel_rfl) (by kernel_rfl) (fun _ _ _ h => h) (Or.inl ⟨by rfl, ?hy37⟩) (by assumption) ?rest37
            case hy37 =>
              intro w hSw
              go_simp
              try with_reducible rfl
            try simp only [Act.put, List.setIfInBounds_toArray, List.set_cons_zero, List.set_cons_succ, List.getElem_toArray, List.getElem_cons_succ, List.getElem_cons_zero]
            rw [unhide AG (.slice (some ⟨mb, 0, none⟩) ml ml)]
            have hone := cells_one (hStart0 x) (.slice (some ⟨mb, 0, none⟩) ml ml) (.slice none 0 0) (.slice none 0 0) (.slice none 0 0) rfl rfl rfl rfl
            have hlen := cells_len (hStart0 x) (.slice (some ⟨mb, 0, none⟩) ml ml) (.slice none 0 0) (.slice none 0 0) (.slice none 0 0) rfl
            generalize hA : cells (hStart0 x) (.slice (some ⟨mb, 0, none⟩) ml ml) (.slice none 0 0) (.slice none 0 0) (.slice none 0 0) = A at *
            have HONE : Hid (A.toArray.all (·.oneCell') = true) := all_oneCell_toArray hone
            have HSZ : Hid ((Tryd.prog.info? 32).map (·.size) = some A.toArray.size) := by show _ = _; rw [List.size_toArray, hlen]; exact Tryd.sizeObj
            have HTH := hide (bx_there (unhide BA) A.toArray.size (by rw [List.size_toArray, hlen]; rfl))
            have HAA := hide hA
            have HLEN := hide hlen
            clear hone hlen hA
            have hkn : ¬ ka < w2.heap.size := by have := unhide HKA; omega
            refine wpAnyH_ready (rs := [34]) (by kernel_rfl) (by simp) ?_
            refine AllReadyH.cons rfl (fun K hK => ?_) AllReadyH.nil
            refine step_store_mid rfl 32 (.tmp 5) (.tmp 48) rfl ka 0 A.toArray rfl rfl (unhide HTH) (unhide HSZ) (unhide HONE) ?_
            refine hK.out _ _ ((Only.setCells (fun h => absurd h hkn) _ _ _ (unhide Q))) (fun hHeld => ?_)
            clear hK K
            try simp only [Act.put, List.setIfInBounds_toArray, List.set_cons_zero, List.set_cons_succ, List.getElem_toArray, List.getElem_cons_succ, List.getElem_cons_zero]
            refine wpAnyH_done (by kernel_rfl) ?_ _
            go_step
            go_step
            go_meet
            case rel =>
              refine ⟨ka, .slice (some ⟨mb, 0, none⟩) ml ml, rfl, unhide HKA, ?_, ?_, fun j hj => by cases hj; exact ⟨(unhide HBK).1, (unhide HBK).2.1, Nat.lt_of_lt_of_le (unhide HBK).2.2 (Only.setCells (S := fun j => j = ka) (fun _ => rfl) _ _ _ (Only.refl _ _)).size⟩, ?_⟩
              · show Bx _ _ _ _
                rw [unhide HAA]; try rw [List.toList_toArray]
                exact setCells_bx (unhide BA) A (by rw [unhide HLEN]; rfl)
              · refine (unhide HMV).only (Only.setCells (S := fun j => j = ka) (fun _ => rfl) _ _ _ (Only.refl _ _)) (fun _ j hj e => by cases hj; exact (unhide HBK).2.1 e)
              · exact Only.setCells (fun h => absurd h hkn) _ _ _ (unhide Q)
        · skip
          obtain ⟨ya, ka, eya, eka, BA0, oa0, -⟩ := boxed w2 Zo.toArray 32
          go_simp
          refine hK.out _ _ ((((Only.refl (fun _ => False) w2).alloc _).drew)) (fun hHeld => ?_)
          clear hK K
          try simp only [Act.put, List.setIfInBounds_toArray, List.set_cons_zero, List.set_cons_succ, List.getElem_toArray, List.getElem_cons_succ, List.getElem_cons_zero]
          rw [zo_eq, ← eka, ← eya]
          have BA : Hid (Bx ya.drew ka 32 Zo) := BA0.same ((Only.refl _ _).drew)
          have HKA : Hid (w2.heap.size ≤ ka) := by show _ ≤ _; omega
          have QA := hide (oa0.drew)
          clear eya eka BA0 oa0 Q
          have Q := QA
          clear QA
          generalize ya.drew = xa at *
          refine wpAnyH_ready (rs := [11]) (by kernel_rfl) (by simp) ?_
          refine AllReadyH.cons rfl (fun K hK => ?_) AllReadyH.nil
          go_simp
          go_wp2_with fail; refine (unhide P3 _).mono ?_; rintro e wx ⟨rfl, hwx⟩; rw [hwx]; clear hwx wx
          refine hK.out _ _ ((unhide Q)) (fun hHeld => ?_)
          clear hK K
          try simp only [Act.put, List.setIfInBounds_toArray, List.set_cons_zero, List.set_cons_succ, List.getElem_toArray, List.getElem_cons_succ, List.getElem_cons_zero]
          refine wpAnyH_take (i := 12) (v := ?v38) rfl (by kernel_rfl) (by kernel_rfl) (by kernel_rfl) (fun _ _ _ h => h) (Or.inl ⟨by rfl, ?hy38⟩) (by assumption) ?rest38
          case hy38 =>
            intro w hSw
            (have q := unhide IA w; go_simp; try with_reducible rfl)
          try simp only [Act.put, List.setIfInBounds_toArray, List.set_cons_zero, List.set_cons_succ, List.getElem_toArray, List.getElem_cons_succ, List.getElem_cons_zero]
          refine wpAnyH_ready (rs := [17]) (by kernel_rfl) (by simp) ?_
          refine AllReadyH.cons rfl (fun K hK => ?_) AllReadyH.nil
          go_simp
          go_wp2_with fail; refine (unhide P4 _).mono ?_; rintro e wx ⟨rfl, hwx⟩; rw [hwx]; clear hwx wx
          refine hK.out _ _ ((unhide Q)) (fun hHeld => ?_)
          clear hK K
          try simp only [Act.put, List.setIfInBounds_toArray, List.set_cons_zero, List.set_cons_succ, List.getElem_toArray, List.getElem_cons_succ, List.getElem_cons_zero]
          refine wpAnyH_take (i := 18) (v := ?v39) rfl (by kernel_rfl) (by kernel_rfl) (by kernel_rfl) (fun _ _ _ h => h) (Or.inl ⟨by rfl, ?hy39⟩) (by assumption) ?rest39
          case hy39 =>
            intro w hSw
            (have q := unhide IM w; go_simp; try with_reducible rfl)
          try simp only [Act.put, List.setIfInBounds_toArray, List.set_cons_zero, List.set_cons_succ, List.getElem_toArray, List.getElem_cons_succ, List.getElem_cons_zero]
          refine wpAnyH_ready (rs := [23]) (by kernel_rfl) (by simp) ?_
          refine AllReadyH.cons rfl (fun K hK => ?_) AllReadyH.nil
          go_simp
          go_wp2_with fail; refine (unhide P5 _).mono ?_; rintro e wx ⟨rfl, hwx⟩; rw [hwx]; clear hwx wx
          refine hK.out _ _ ((unhide Q)) (fun hHeld => ?_)
          clear hK K
          try simp only [Act.put, List.setIfInBounds_toArray, List.set_cons_zero, List.set_cons_succ, List.getElem_toArray, List.getElem_cons_succ, List.getElem_cons_zero]
          refine wpAnyH_take (i := 24) (v := ?v40) rfl (by kernel_rfl) (by kernel_rfl) (by kernel_rfl) (fun _ _ _ h => h) (Or.inl ⟨by rfl, ?hy40⟩) (by assumption) ?rest40
          case hy40 =>
            intro w hSw
            (have q := unhide IL w; go_simp; try with_reducible rfl)
          try simp only [Act.put, List.setIfInBounds_toArray, List.set_cons_zero, List.set_cons_succ, List.getElem_toArray, List.getElem_cons_succ, List.getElem_cons_zero]
          refine wpAnyH_ready (rs := [27]) (by kernel_rfl) (by simp) ?_
          refine AllReadyH.cons rfl (fun K hK => ?_) AllReadyH.nil
          go_simp
          go_wp2_with fail; refine (unhide P6 _).mono ?_; rintro e x6 ⟨mv, rfl, hmd⟩; obtain ⟨mb, ml, hmv, hmb⟩ : ∃ mb ml, mv = .slice (some ⟨mb, 0, none⟩) ml ml ∧ mb = xa.heap.size := ⟨_, _, hmd.shape, rfl⟩; have hown := Has.ofOwns hmd.own; have honly := hmd.only; have hlt := blk_lt6 hmd mb hmb.symm; clear hmd; subst hmv; have HMV := hide hown; have hsz : w2.heap.size ≤ xa.heap.size := (unhide Q).size; have Q6 := hide ((unhide Q).trans honly (fun _ _ e => e)); have HBK : Hid (w2.heap.size ≤ mb ∧ mb ≠ ka ∧ mb < x6.heap.size) := (by have := (unhide BA).lt; exact ⟨by omega, by omega, hlt⟩); have BA6 := hide ((unhide BA).same honly); clear honly hown hlt hmb hsz BA Q; have BA := BA6; have Q := Q6; clear BA6
          refine hK.out _ _ ((unhide Q6)) (fun hHeld => ?_)
          clear hK K
          try simp only [Act.put, List.setIfInBounds_toArray, List.set_cons_zero, List.set_cons_succ, List.getElem_toArray, List.getElem_cons_succ, List.getElem_cons_zero]
          refine wpAnyH_ready (rs := [30]) (by kernel_rfl) (by simp) ?_
          refine AllReadyH.cons rfl (fun K hK => ?_) AllReadyH.nil
          go_simp
          go_wp2_with fail; refine (unhide P7 _).mono ?_; rintro e wx ⟨rfl, hwx⟩; rw [hwx]; clear hwx wx
          refine hK.out _ _ ((unhide Q)) (fun hHeld => ?_)
          clear hK K
          try simp only [Act.put, List.setIfInBounds_toArray, List.set_cons_zero, List.set_cons_succ, List.getElem_toArray, List.getElem_cons_succ, List.getElem_cons_zero]
          refine wpAnyH_take (i := 31) (v := ?v41) rfl (by kernel_rfl) (by kernel_rfl) (by kernel_rfl) (fun _ _ _ h => h) (Or.inl ⟨by rfl, ?hy41⟩) (by assumption) ?rest41
          case hy41 =>
            intro w hSw
            (go_simp; rw [unhide W31]; try with_reducible rfl)
          try simp only [Act.put, List.setIfInBounds_toArray, List.set_cons_zero, List.set_cons_succ, List.getElem_toArray, List.getElem_cons_succ, List.getElem_cons_zero]
          refine wpAnyH_take (i := 32) (v := ?v42) rfl (by kernel_rfl) (by kernel_rfl) (by kernel_rfl) (fun _ _ _ h => h) (Or.inl ⟨by rfl, ?hy42⟩) (by assumption) ?rest42
          case hy42 =>
            intro w hSw
            go_simp
            try with_reducible rfl
          try simp only [Act.put, List.setIfInBounds_toArray, List.set_cons_zero, List.set_cons_succ, List.getElem_toArray, List.getElem_cons_succ, List.getElem_cons_zero]
          rw [unhide AG (.slice (some ⟨mb, 0, none⟩) ml ml)]
          have hone := cells_one (hStart0 x) (.slice (some ⟨mb, 0, none⟩) ml ml) (.slice none 0 0) (.slice none 0 0) (.slice none 0 0) rfl rfl rfl rfl
          have hlen := cells_len (hStart0 x) (.slice (some ⟨mb, 0, none⟩) ml ml) (.slice none 0 0) (.slice none 0 0) (.slice none 0 0) rfl
          generalize hA : cells (hStart0 x) (.slice (some ⟨mb, 0, none⟩) ml ml) (.slice none 0 0) (.slice none 0 0) (.slice none 0 0) = A at *
          have HONE : Hid (A.toArray.all (·.oneCell') = true) := all_oneCell_toArray hone
          have HSZ : Hid ((Tryd.prog.info? 32).map (·.size) = some A.toArray.size) := by show _ = _; rw [List.size_toArray, hlen]; exact Tryd.sizeObj
          have HTH := hide (bx_there (unhide BA) A.toArray.size (by rw [List.size_toArray, hlen]; rfl))
          have HAA := hide hA
          have HLEN := hide hlen
          clear hone hlen hA
          have hkn : ¬ ka < w2.heap.size := by have := unhide HKA; omega
          refine wpAnyH_ready (rs := [34]) (by kernel_rfl) (by simp) ?_
          refine AllReadyH.cons rfl (fun K hK => ?_) AllReadyH.nil
          refine step_store_mid rfl 32 (.tmp 5) (.tmp 48) rfl ka 0 A.toArray rfl rfl (unhide HTH) (unhide HSZ) (unhide HONE) ?_
          refine hK.out _ _ ((Only.setCells (fun h => absurd h hkn) _ _ _ (unhide Q))) (fun hHeld => ?_)
          clear hK K
          try simp only [Act.put, List.setIfInBounds_toArray, List.set_cons_zero, List.set_cons_succ, List.getElem_toArray, List.getElem_cons_succ, List.getElem_cons_zero]
          refine wpAnyH_done (by kernel_rfl) ?_ _
          go_step
          go_step
          go_meet
          case rel =>
            refine ⟨ka, .slice (some ⟨mb, 0, none⟩) ml ml, rfl, unhide HKA, ?_, ?_, fun j hj => by cases hj; exact ⟨(unhide HBK).1, (unhide HBK).2.1, Nat.lt_of_lt_of_le (unhide HBK).2.2 (Only.setCells (S := fun j => j = ka) (fun _ => rfl) _ _ _ (Only.refl _ _)).size⟩, ?_⟩
            · show Bx _ _ _ _
              rw [unhide HAA]; try rw [List.toList_toArray]
              exact setCells_bx (unhide BA) A (by rw [unhide HLEN]; rfl)
            · refine (unhide HMV).only (Only.setCells (S := fun j => j = ka) (fun _ => rfl) _ _ _ (Only.refl _ _)) (fun _ j hj e => by cases hj; exact (unhide HBK).2.1 e)
            · exact Only.setCells (fun h => absurd h hkn) _ _ _ (unhide Q)
      · skip
        obtain ⟨ya, ka, eya, eka, BA0, oa0, -⟩ := boxed w2 Zo.toArray 32
        go_simp
        refine hK.out _ _ ((((Only.refl (fun _ => False) w2).alloc _).drew)) (fun hHeld => ?_)
        clear hK K
        try simp only [Act.put, List.setIfInBounds_toArray, List.set_cons_zero, List.set_cons_succ, List.getElem_toArray, List.getElem_cons_succ, List.getElem_cons_zero]
        rw [zo_eq, ← eka, ← eya]
        have BA : Hid (Bx ya.drew ka 32 Zo) := BA0.same ((Only.refl _ _).drew)
        have HKA : Hid (w2.heap.size ≤ ka) := by show _ ≤ _; omega
        have QA := hide (oa0.drew)
        clear eya eka BA0 oa0 Q
        have Q := QA
        clear QA
        generalize ya.drew = xa at *
        refine wpAnyH_ready (rs := [6]) (by kernel_rfl) (by simp) ?_
        refine AllReadyH.cons rfl (fun K hK => ?_) AllReadyH.nil
        go_simp
        go_wp2_with fail; refine (unhide P2 _).mono ?_; rintro e wx ⟨rfl, hwx⟩; rw [hwx]; clear hwx wx
        refine hK.out _ _ ((unhide Q)) (fun hHeld => ?_)
        clear hK K
        try simp only [Act.put, List.setIfInBounds_toArray, List.set_cons_zero, List.set_cons_succ, List.getElem_toArray, List.getElem_cons_succ, List.getElem_cons_zero]
        refine wpAnyH_take (i := 7) (v := ?v43) rfl (by kernel_rfl) (by kernel_rfl) (by kernel_rfl) (fun _ _ _ h => h) (Or.inl ⟨by rfl, ?hy43⟩) (by assumption) ?rest43
        case hy43 =>
          intro w hSw
          (have q := unhide IT w; go_simp; try with_reducible rfl)
        try simp only [Act.put, List.setIfInBounds_toArray, List.set_cons_zero, List.set_cons_succ, List.getElem_toArray, List.getElem_cons_succ, List.getElem_cons_zero]
        refine wpAnyH_ready (rs := [11]) (by kernel_rfl) (by simp) ?_
        refine AllReadyH.cons rfl (fun K hK => ?_) AllReadyH.nil
        go_simp
        go_wp2_with fail; refine (unhide P3 _).mono ?_; rintro e wx ⟨rfl, hwx⟩; rw [hwx]; clear hwx wx
        refine hK.out _ _ ((unhide Q)) (fun hHeld => ?_)
        clear hK K
        try simp only [Act.put, List.setIfInBounds_toArray, List.set_cons_zero, List.set_cons_succ, List.getElem_toArray, List.getElem_cons_succ, List.getElem_cons_zero]
        refine wpAnyH_take (i := 12) (v := ?v44) rfl (by kernel_rfl) (by kernel_rfl) (by kernel_rfl) (fun _ _ _ h => h) (Or.inl ⟨by rfl, ?hy44⟩) (by assumption) ?rest44
        case hy44 =>
          intro w hSw
          (have q := unhide IA w; go_simp; try with_reducible rfl)
        try simp only [Act.put, List.setIfInBounds_toArray, List.set_cons_zero, List.set_cons_succ, List.getElem_toArray, List.getElem_cons_succ, List.getElem_cons_zero]
        refine wpAnyH_ready (rs := [17]) (by kernel_rfl) (by simp) ?_
        refine AllReadyH.cons rfl (fun K hK => ?_) AllReadyH.nil
        go_simp
        go_wp2_with fail; refine (unhide P4 _).mono ?_; rintro e wx ⟨rfl, hwx⟩; rw [hwx]; clear hwx wx
        refine hK.out _ _ ((unhide Q)) (fun hHeld => ?_)
        clear hK K
        try simp only [Act.put, List.setIfInBounds_toArray, List.set_cons_zero, List.set_cons_succ, List.getElem_toArray, List.getElem_cons_succ, List.getElem_cons_zero]
        refine wpAnyH_take (i := 18) (v := ?v45) rfl (by kernel_rfl) (by kernel_rfl) (by kernel_rfl) (fun _ _ _ h => h) (Or.inl ⟨by rfl, ?hy45⟩) (by assumption) ?rest45
        case hy45 =>
          intro w hSw
          (have q := unhide IM w; go_simp; try with_reducible rfl)
        try simp only [Act.put, List.setIfInBounds_toArray, List.set_cons_zero, List.set_cons_succ, List.getElem_toArray, List.getElem_cons_succ, List.getElem_cons_zero]
        refine wpAnyH_ready (rs := [23]) (by kernel_rfl) (by simp) ?_
        refine AllReadyH.cons rfl (fun K hK => ?_) AllReadyH.nil
        go_simp
        go_wp2_with fail; refine (unhide P5 _).mono ?_; rintro e wx ⟨rfl, hwx⟩; rw [hwx]; clear hwx wx
        refine hK.out _ _ ((unhide Q)) (fun hHeld => ?_)
        clear hK K
        try simp only [Act.put, List.setIfInBounds_toArray, List.set_cons_zero, List.set_cons_succ, List.getElem_toArray, List.getElem_cons_succ, List.getElem_cons_zero]
        refine wpAnyH_take (i := 24) (v := ?v46) rfl (by kernel_rfl) (by kernel_rfl) (by kernel_rfl) (fun _ _ _ h => h) (Or.inl ⟨by rfl, ?hy46⟩) (by assumption) ?rest46
        case hy46 =>
          intro w hSw
          (have q := unhide IL w; go_simp; try with_reducible rfl)
        try simp only [Act.put, List.setIfInBounds_toArray, List.set_cons_zero, List.set_cons_succ, List.getElem_toArray, List.getElem_cons_succ, List.getElem_cons_zero]
        refine wpAnyH_ready (rs := [27]) (by kernel_rfl) (by simp) ?_
        refine AllReadyH.cons rfl (fun K hK => ?_) AllReadyH.nil
        go_simp
        go_wp2_with fail; refine (unhide P6 _).mono ?_; rintro e x6 ⟨mv, rfl, hmd⟩; obtain ⟨mb, ml, hmv, hmb⟩ : ∃ mb ml, mv = .slice (some ⟨mb, 0, none⟩) ml ml ∧ mb = xa.heap.size := ⟨_, _, hmd.shape, rfl⟩; have hown := Has.ofOwns hmd.own; have honly := hmd.only; have hlt := blk_lt6 hmd mb hmb.symm; clear hmd; subst hmv; have HMV := hide hown; have hsz : w2.heap.size ≤ xa.heap.size := (unhide Q).size; have Q6 := hide ((unhide Q).trans honly (fun _ _ e => e)); have HBK : Hid (w2.heap.size ≤ mb ∧ mb ≠ ka ∧ mb < x6.heap.size) := (by have := (unhide BA).lt; exact ⟨by omega, by omega, hlt⟩); have BA6 := hide ((unhide BA).same honly); clear honly hown hlt hmb hsz BA Q; have BA := BA6; have Q := Q6; clear BA6
        refine hK.out _ _ ((unhide Q6)) (fun hHeld => ?_)
        clear hK K
        try simp only [Act.put, List.setIfInBounds_toArray, List.set_cons_zero, List.set_cons_succ, List.getElem_toArray, List.getElem_cons_succ, List.getElem_cons_zero]
        refine wpAnyH_ready (rs := [30]) (by kernel_rfl) (by simp) ?_
        refine AllReadyH.cons rfl (fun K hK => ?_) AllReadyH.nil
        go_simp
        go_wp2_with fail; refine (unhide P7 _).mono ?_; rintro e wx ⟨rfl, hwx⟩; rw [hwx]; clear hwx wx
        refine hK.out _ _ ((unhide Q)) (fun hHeld => ?_)
        clear hK K
        try simp only [Act.put, List.setIfInBounds_toArray, List.set_cons_zero, List.set_cons_succ, List.getElem_toArray, List.getElem_cons_succ, List.getElem_cons_zero]
        refine wpAnyH_take (i := 31) (v := ?v47) rfl (by kernel_rfl) (by kernel_rfl) (by kernel_rfl) (fun _ _ _ h => h) (Or.inl ⟨by rfl, ?hy47⟩) (by assumption) ?rest47
        case hy47 =>
          intro w hSw
          (go_simp; rw [unhide W31]; try with_reducible rfl)
        try simp only [Act.put, List.setIfInBounds_toArray, List.set_cons_zero, List.set_cons_succ, List.getElem_toArray, List.getElem_cons_succ, List.getElem_cons_zero]
        refine wpAnyH_take (i := 32) (v := ?v48) rfl (by kernel_rfl) (by kernel_rfl) (by kernel_rfl) (fun _ _ _ h => h) (Or.inl ⟨by rfl, ?hy48⟩) (by assumption) ?rest48
        case hy48 =>
          intro w hSw
          go_simp
          try with_reducible rfl
        try simp only [Act.put, List.setIfInBounds_toArray, List.set_cons_zero, List.set_cons_succ, List.getElem_toArray, List.getElem_cons_succ, List.getElem_cons_zero]
        rw [unhide AG (.slice (some ⟨mb, 0, none⟩) ml ml)]
        have hone := cells_one (hStart0 x) (.slice (some ⟨mb, 0, none⟩) ml ml) (.slice none 0 0) (.slice none 0 0) (.slice none 0 0) rfl rfl rfl rfl
        have hlen := cells_len (hStart0 x) (.slice (some ⟨mb, 0, none⟩) ml ml) (.slice none 0 0) (.slice none 0 0) (.slice none 0 0) rfl
        generalize hA : cells (hStart0 x) (.slice (some ⟨mb, 0, none⟩) ml ml) (.slice none 0 0) (.slice none 0 0) (.slice none 0 0) = A at *
        have HONE : Hid (A.toArray.all (·.oneCell') = true) := all_oneCell_toArray hone
        have HSZ : Hid ((Tryd.prog.info? 32).map (·.size) = some A.toArray.size) := by show _ = _; rw [List.size_toArray, hlen]; exact Tryd.sizeObj
        have HTH := hide (bx_there (unhide BA) A.toArray.size (by rw [List.size_toArray, hlen]; rfl))
        have HAA := hide hA
        have HLEN := hide hlen
        clear hone hlen hA
        have hkn : ¬ ka < w2.heap.size := by have := unhide HKA; omega
        refine wpAnyH_ready (rs := [34]) (by kernel_rfl) (by simp) ?_
        refine AllReadyH.cons rfl (fun K hK => ?_) AllReadyH.nil
        refine step_store_mid rfl 32 (.tmp 5) (.tmp 48) rfl ka 0 A.toArray rfl rfl (unhide HTH) (unhide HSZ) (unhide HONE) ?_
        refine hK.out _ _ ((Only.setCells (fun h => absurd h hkn) _ _ _ (unhide Q))) (fun hHeld => ?_)
        clear hK K
        try simp only [Act.put, List.setIfInBounds_toArray, List.set_cons_zero, List.set_cons_succ, List.getElem_toArray, List.getElem_cons_succ, List.getElem_cons_zero]
        refine wpAnyH_done (by kernel_rfl) ?_ _
        go_step
        go_step
        go_meet
        case rel =>
          refine ⟨ka, .slice (some ⟨mb, 0, none⟩) ml ml, rfl, unhide HKA, ?_, ?_, fun j hj => by cases hj; exact ⟨(unhide HBK).1, (unhide HBK).2.1, Nat.lt_of_lt_of_le (unhide HBK).2.2 (Only.setCells (S := fun j => j = ka) (fun _ => rfl) _ _ _ (Only.refl _ _)).size⟩, ?_⟩
          · show Bx _ _ _ _
            rw [unhide HAA]; try rw [List.toList_toArray]
            exact setCells_bx (unhide BA) A (by rw [unhide HLEN]; rfl)
          · refine (unhide HMV).only (Only.setCells (S := fun j => j = ka) (fun _ => rfl) _ _ _ (Only.refl _ _)) (fun _ j hj e => by cases hj; exact (unhide HBK).2.1 e)
          · exact Only.setCells (fun h => absurd h hkn) _ _ _ (unhide Q)
    · skip
      obtain ⟨ya, ka, eya, eka, BA0, oa0, -⟩ := boxed w2 Zo.toArray 32
      go_simp
      refine hK.out _ _ ((((Only.refl (fun _ => False) w2).alloc _).drew)) (fun hHeld => ?_)
      clear hK K
      try simp only [Act.put, List.setIfInBounds_toArray, List.set_cons_zero, List.set_cons_succ, List.getElem_toArray, List.getElem_cons_succ, List.getElem_cons_zero]
      rw [zo_eq, ← eka, ← eya]
      have BA : Hid (Bx ya.drew ka 32 Zo) := BA0.same ((Only.refl _ _).drew)
      have HKA : Hid (w2.heap.size ≤ ka) := by show _ ≤ _; omega
      have QA := hide (oa0.drew)
      clear eya eka BA0 oa0 Q
      have Q := QA
      clear QA
      generalize ya.drew = xa at *
      refine wpAnyH_ready (rs := [2]) (by kernel_rfl) (by simp) ?_
      refine AllReadyH.cons rfl (fun K hK => ?_) AllReadyH.nil
      go_simp
      go_wp2_with fail; refine (unhide P1 _).mono ?_; rintro e wx ⟨rfl, hwx⟩; rw [hwx]; clear hwx wx
      refine hK.out _ _ ((unhide Q)) (fun hHeld => ?_)
      clear hK K
      try simp only [Act.put, List.setIfInBounds_toArray, List.set_cons_zero, List.set_cons_succ, List.getElem_toArray, List.getElem_cons_succ, List.getElem_cons_zero]
      refine wpAnyH_ready (rs := [6]) (by kernel_rfl) (by simp) ?_
      refine AllReadyH.cons rfl (fun K hK => ?_) AllReadyH.nil
      go_simp
      go_wp2_with fail; refine (unhide P2 _).mono ?_; rintro e wx ⟨rfl, hwx⟩; rw [hwx]; clear hwx wx
      refine hK.out _ _ ((unhide Q)) (fun hHeld => ?_)
      clear hK K
      try simp only [Act.put, List.setIfInBounds_toArray, List.set_cons_zero, List.set_cons_succ, List.getElem_toArray, List.getElem_cons_succ, List.getElem_cons_zero]
      refine wpAnyH_take (i := 7) (v := ?v49) rfl (by kernel_rfl) (by kernel_rfl) (by kernel_rfl) (fun _ _ _ h => h) (Or.inl ⟨by rfl, ?hy49⟩) (by assumption) ?rest49
      case hy49 =>
        intro w hSw
        (have q := unhide IT w; go_simp; try with_reducible rfl)
      try simp only [Act.put, List.setIfInBounds_toArray, List.set_cons_zero, List.set_cons_succ, List.getElem_toArray, List.getElem_cons_succ, List.getElem_cons_zero]
      refine wpAnyH_ready (rs := [11]) (by kernel_rfl) (by simp) ?_
      refine AllReadyH.cons rfl (fun K hK => ?_) AllReadyH.nil
      go_simp
      go_wp2_with fail; refine (unhide P3 _).mono ?_; rintro e wx ⟨rfl, hwx⟩; rw [hwx]; clear hwx wx
      refine hK.out _ _ ((unhide Q)) (fun hHeld => ?_)
      clear hK K
      try simp only [Act.put, List.setIfInBounds_toArray, List.set_cons_zero, List.set_cons_succ, List.getElem_toArray, List.getElem_cons_succ, List.getElem_cons_zero]
      refine wpAnyH_take (i := 12) (v := ?v50) rfl (by kernel_rfl) (by kernel_rfl) (by kernel_rfl) (fun _ _ _ h => h) (Or.inl ⟨by rfl, ?hy50⟩) (by assumption) ?rest50
      case hy50 =>
        intro w hSw
        (have q := unhide IA w; go_simp; try with_reducible rfl)
      try simp only [Act.put, List.setIfInBounds_toArray, List.set_cons_zero, List.set_cons_succ, List.getElem_toArray, List.getElem_cons_succ, List.getElem_cons_zero]
      refine wpAnyH_ready (rs := [17]) (by kernel_rfl) (by simp) ?_
      refine AllReadyH.cons rfl (fun K hK => ?_) AllReadyH.nil
      go_simp
      go_wp2_with fail; refine (unhide P4 _).mono ?_; rintro e wx ⟨rfl, hwx⟩; rw [hwx]; clear hwx wx
      refine hK.out _ _ ((unhide Q)) (fun hHeld => ?_)
      clear hK K
      try simp only [Act.put, List.setIfInBounds_toArray, List.set_cons_zero, List.set_cons_succ, List.getElem_toArray, List.getElem_cons_succ, List.getElem_cons_zero]
      refine wpAnyH_take (i := 18) (v := ?v51) rfl (by kernel_rfl) (by kernel_rfl) (by kernel_rfl) (fun _ _ _ h => h) (Or.inl ⟨by rfl, ?hy51⟩) (by assumption) ?rest51
      case hy51 =>
        intro w hSw
        (have q := unhide IM w; go_simp; try with_reducible rfl)
      try simp only [Act.put, List.setIfInBounds_toArray, List.set_cons_zero, List.set_cons_succ, List.getElem_toArray, List.getElem_cons_succ, List.getElem_cons_zero]
      refine wpAnyH_ready (rs := [23]) (by kernel_rfl) (by simp) ?_
      refine AllReadyH.cons rfl (fun K hK => ?_) AllReadyH.nil
      go_simp
      go_wp2_with fail; refine (unhide P5 _).mono ?_; rintro e wx ⟨rfl, hwx⟩; rw [hwx]; clear hwx wx
      refine hK.out _ _ ((unhide Q)) (fun hHeld => ?_)
      clear hK K
      try simp only [Act.put, List.setIfInBounds_toArray, List.set_cons_zero, List.set_cons_succ, List.getElem_toArray, List.getElem_cons_succ, List.getElem_cons_zero]
      refine wpAnyH_take (i := 24) (v := ?v52) rfl (by kernel_rfl) (by kernel_rfl) (by kernel_rfl) (fun _ _ _ h => h) (Or.inl ⟨by rfl, ?hy52⟩) (by assumption) ?rest52
      case hy52 =>
        intro w hSw
        (have q := unhide IL w; go_simp; try with_reducible rfl)
      try simp only [Act.put, List.setIfInBounds_toArray, List.set_cons_zero, List.set_cons_succ, List.getElem_toArray, List.getElem_cons_succ, List.getElem_cons_zero]
      refine wpAnyH_ready (rs := [27]) (by kernel_rfl) (by simp) ?_
      refine AllReadyH.cons rfl (fun K hK => ?_) AllReadyH.nil
      go_simp
      go_wp2_with fail; refine (unhide P6 _).mono ?_; rintro e x6 ⟨mv, rfl, hmd⟩; obtain ⟨mb, ml, hmv, hmb⟩ : ∃ mb ml, mv = .slice (some ⟨mb, 0, none⟩) ml ml ∧ mb = xa.heap.size := ⟨_, _, hmd.shape, rfl⟩; have hown := Has.ofOwns hmd.own; have honly := hmd.only; have hlt := blk_lt6 hmd mb hmb.symm; clear hmd; subst hmv; have HMV := hide hown; have hsz : w2.heap.size ≤ xa.heap.size := (unhide Q).size; have Q6 := hide ((unhide Q).trans honly (fun _ _ e => e)); have HBK : Hid (w2.heap.size ≤ mb ∧ mb ≠ ka ∧ mb < x6.heap.size) := (by have := (unhide BA).lt; exact ⟨by omega, by omega, hlt⟩); have BA6 := hide ((unhide BA).same honly); clear honly hown hlt hmb hsz BA Q; have BA := BA6; have Q := Q6; clear BA6
      refine hK.out _ _ ((unhide Q6)) (fun hHeld => ?_)
      clear hK K
      try simp only [Act.put, List.setIfInBounds_toArray, List.set_cons_zero, List.set_cons_succ, List.getElem_toArray, List.getElem_cons_succ, List.getElem_cons_zero]
      refine wpAnyH_ready (rs := [30]) (by kernel_rfl) (by simp) ?_
      refine AllReadyH.cons rfl (fun K hK => ?_) AllReadyH.nil
      go_simp
      go_wp2_with fail; refine (unhide P7 _).mono ?_; rintro e wx ⟨rfl, hwx⟩; rw [hwx]; clear hwx wx
      refine hK.out _ _ ((unhide Q)) (fun hHeld => ?_)
      clear hK K
      try simp only [Act.put, List.setIfInBounds_toArray, List.set_cons_zero, List.set_cons_succ, List.getElem_toArray, List.getElem_cons_succ, List.getElem_cons_zero]
      refine wpAnyH_take (i := 31) (v := ?v53) rfl (by kernel_rfl) (by kernel_rfl) (by kernel_rfl) (fun _ _ _ h => h) (Or.inl ⟨by rfl, ?hy53⟩) (by assumption) ?rest53
      case hy53 =>
        intro w hSw
        (go_simp; rw [unhide W31]; try with_reducible rfl)
      try simp only [Act.put, List.setIfInBounds_toArray, List.set_cons_zero, List.set_cons_succ, List.getElem_toArray, List.getElem_cons_succ, List.getElem_cons_zero]
      refine wpAnyH_take (i := 32) (v := ?v54) rfl (by kernel_rfl) (by kernel_rfl) (by kernel_rfl) (fun _ _ _ h => h) (Or.inl ⟨by rfl, ?hy54⟩) (by assumption) ?rest54
      case hy54 =>
        intro w hSw
        go_simp
        try with_reducible rfl
      try simp only [Act.put, List.setIfInBounds_toArray, List.set_cons_zero, List.set_cons_succ, List.getElem_toArray, List.getElem_cons_succ, List.getElem_cons_zero]
      rw [unhide AG (.slice (some ⟨mb, 0, none⟩) ml ml)]
      have hone := cells_one (hStart0 x) (.slice (some ⟨mb, 0, none⟩) ml ml) (.slice none 0 0) (.slice none 0 0) (.slice none 0 0) rfl rfl rfl rfl
      have hlen := cells_len (hStart0 x) (.slice (some ⟨mb, 0, none⟩) ml ml) (.slice none 0 0) (.slice none 0 0) (.slice none 0 0) rfl
      generalize hA : cells (hStart0 x) (.slice (some ⟨mb, 0, none⟩) ml ml) (.slice none 0 0) (.slice none 0 0) (.slice none 0 0) = A at *
      have HONE : Hid (A.toArray.all (·.oneCell') = true) := all_oneCell_toArray hone
      have HSZ : Hid ((Tryd.prog.info? 32).map (·.size) = some A.toArray.size) := by show _ = _; rw [List.size_toArray, hlen]; exact Tryd.sizeObj
      have HTH := hide (bx_there (unhide BA) A.toArray.size (by rw [List.size_toArray, hlen]; rfl))
      have HAA := hide hA
      have HLEN := hide hlen
      clear hone hlen hA
      have hkn : ¬ ka < w2.heap.size := by have := unhide HKA; omega
      refine wpAnyH_ready (rs := [34]) (by kernel_rfl) (by simp) ?_
      refine AllReadyH.cons rfl (fun K hK => ?_) AllReadyH.nil
      refine step_store_mid rfl 32 (.tmp 5) (.tmp 48) rfl ka 0 A.toArray rfl rfl (unhide HTH) (unhide HSZ) (unhide HONE) ?_
      refine hK.out _ _ ((Only.setCells (fun h => absurd h hkn) _ _ _ (unhide Q))) (fun hHeld => ?_)
      clear hK K
      try simp only [Act.put, List.setIfInBounds_toArray, List.set_cons_zero, List.set_cons_succ, List.getElem_toArray, List.getElem_cons_succ, List.getElem_cons_zero]
      refine wpAnyH_done (by kernel_rfl) ?_ _
      go_step
      go_step
      go_meet
      case rel =>
        refine ⟨ka, .slice (some ⟨mb, 0, none⟩) ml ml, rfl, unhide HKA, ?_, ?_, fun j hj => by cases hj; exact ⟨(unhide HBK).1, (unhide HBK).2.1, Nat.lt_of_lt_of_le (unhide HBK).2.2 (Only.setCells (S := fun j => j = ka) (fun _ => rfl) _ _ _ (Only.refl _ _)).size⟩, ?_⟩
        · show Bx _ _ _ _
          rw [unhide HAA]; try rw [List.toList_toArray]
          exact setCells_bx (unhide BA) A (by rw [unhide HLEN]; rfl)
        · refine (unhide HMV).only (Only.setCells (S := fun j => j = ka) (fun _ => rfl) _ _ _ (Only.refl _ _)) (fun _ j hj e => by cases hj; exact (unhide HBK).2.1 e)
        · exact Only.setCells (fun h => absurd h hkn) _ _ _ (unhide Q)
  case rest =>
    rename World => wx
    obtain ⟨ka, mv, rfl, HKA, HB, HM, HBL, HO⟩ := hcut
    have U0 : Hid (Uw w2 wx ka (hStart0 x) mv (.slice none 0 0) (.slice none 0 0) (.slice none 0 0)) :=
      ⟨unhide HO, unhide HB, unhide HKA, by have := unhide HMAT; show Has _ _ (hStart x).mat; rw [this]; exact unhide HM, World.ownsRow_nil _ _ _ _, World.ownsRow_nil _ _ _ _, World.ownsRow_nil _ _ _ _, unhide HBL, (fun j hj => by cases hj), (fun j hj => by cases hj), (fun j hj => by cases hj)⟩
    have HCX : Hid (wx.cell? ⟨k1, 3, none⟩ = some (.int .i64 x.c)) := (unhide HO).cell (unhide X3) (fun e => e)
    have P20 := hide (pick_any x.c 20 wx (by decide) (by decide))
    have hc7 := (unhide U0).box.cell 7 (.bool false) rfl
    have hc8 := (unhide U0).box.cell 8 (.int .i64 0) rfl
    have hf7 := (unhide U0).box.free
    have U1 : Hid (Uw w2 ((wx.setCell ⟨ka, 7, none⟩ (.bool true)).setCell ⟨ka, 8, none⟩ (.int .i64 (x.c % 20))) ka (hStart x) mv (.slice none 0 0) (.slice none 0 0) (.slice none 0 0)) :=
      (unhide U0).sets 7 _ (hStart x) (set_date (hStart0 x) _ _ _ _ rfl 0 (by decide) true (x.c % 20)) rfl rfl rfl rfl
    clear HKA HB HM HBL X0 X1 X2 X3 P2 P3 P4 P5 P7 W16 W22 W31 U0 HMAT IT IA IM IL HL P6 AG P1
    clear P6
    have hcx := unhide HCX
    go_wp2_with fail
    refine (unhide P20).mono ?_
    rintro e wy ⟨rfl, hwy⟩
    rw [hwy]
    clear hwy wy P20 hcx HCX
    go_upto_region 3 with fail
    have U2 : Hid (∃ wz, wz = (wx.setCell ⟨ka, 7, none⟩ (.bool true)).setCell ⟨ka, 8, none⟩ (.int .i64 (x.c % 20)) ∧ Uw w2 wz ka (hStart x) mv (.slice none 0 0) (.slice none 0 0) (.slice none 0 0)) := ⟨_, rfl, unhide U1⟩
    obtain ⟨wz, hwz, U3⟩ := unhide U2
    try simp only [List.toList_toArray]
    rw [← hwz]
    clear hwz U1 U2 HO hc7 hc8 hf7
    have HU3 := hide U3
    clear U3
    go_wp2
    go_loopw [6] (fun i wr => ∃ k : Nat, k ≤ m ∧ k ≤ 10 ∧ i = .int .i64 k ∧ Hid (∃ nv lv cv, Uw w2 wr ka (hGo (hStart x) X k) mv nv lv cv)) (fun i _ => 10 - (intOf i).toNat)
    case atStart => exact ⟨0, Nat.zero_le _, Nat.zero_le _, rfl, _, _, _, unhide HU3⟩
    case round =>
      rename World => wr
      obtain ⟨k, hkm, hk10, rfl, hU⟩ := hrel
      obtain ⟨nv, lv, cv, hU1⟩ := unhide hU
      have U := hide hU1
      clear hU hU1
      have hmz : (m : Int) < 9223372036854775808 := by have := unhide HMM; unfold maxLen at this; omega
      by_cases hlt : k < m ∧ k < 10
      case neg =>
        have HKK : Hid (k = min m 10) := by show _ = _; omega
        obtain ⟨o, ho⟩ : ∃ o, o = (hStart x).hGo X k := ⟨_, rfl⟩
        have HOK : Hid (Okay k o) := by rw [ho]; exact hGo_okay x X k
        have HHO0 : Hid (hO x m X = { o with links := o.links.take 8 }) := by show _ = _; unfold hO; rw [← unhide HKK, ← ho]
        rw [← ho] at U
        clear ho
        obtain ⟨lo, lc, elv, hlc, hlm⟩ := (unhide U).hasK.shape
        subst elv
        obtain ⟨n, hn⟩ : ∃ n, n = o.links.length := ⟨_, rfl⟩
        have hnm : n ≤ maxLen := by omega
        have hnz : (n : Int) < 9223372036854775808 := by unfold maxLen at hnm; omega
        rw [← hn] at hlc
        clear hlm hnm
        by_cases hkm2 : k < m
        case pos =>
         as_aux_lemma =>
          have hk1z : (k : Int) < (m : Int) := by omega
          have hk2z : ¬ (k : Int) < 10 := by omega
          by_cases h8 : 8 < n
          · have h8z : (8 : Int) < (n : Int) := by omega
            have h8c : (8 : Int) ≤ (lc : Int) := by omega
            obtain ⟨ab, ao, rfl, _, _⟩ := (show HasF wr (.slice lo n lc) 2 kcells o.links by rw [hn]; exact (unhide U).hasK).at (by omega)
            obtain ⟨o', ho'⟩ : ∃ o', o' = ({ o with links := o.links.take 8 } : Ob) := ⟨_, rfl⟩
            have q : Only (fun j => j = ka) wr (wr.setCell ⟨ka, 30, none⟩ (.slice (some ⟨ab, ao, none⟩) 8 lc)) := (Only.refl _ _).here _ _
            obtain ⟨wS, hwS⟩ : ∃ wS, wS = wr.setCell ⟨ka, 30, none⟩ (.slice (some ⟨ab, ao, none⟩) 8 lc) := ⟨_, rfl⟩
            rw [← hwS] at q
            have HHO : Hid (hO x m X = o') := by rw [ho']; exact unhide HHO0
            have hfr : Fresh4 w2.heap.size mv nv (.slice (some ⟨ab, ao, none⟩) 8 lc) cv := (unhide U).fresh
            have hOS : Only (fun _ => False) w2 wS := (unhide U).only.trans q (fun j hj e => by have := (unhide U).base; omega)
            have hI : In wS o' mv nv (.slice (some ⟨ab, ao, none⟩) 8 lc) cv := by rw [ho']; exact (⟨(unhide U).mat, (unhide U).hasN, (show HasF wr (.slice (some ⟨ab, ao, none⟩) n lc) 2 kcells o.links by rw [hn]; exact (unhide U).hasK).front 8 (by omega) |> fun h => h, (unhide U).hasC, (unhide HOK).ten, (unhide HOK).ints, (unhide HOK).dats, (fun k hk => (unhide HOK).lks k (List.mem_of_mem_take hk)), ⟨(unhide HOK).strs.1, (unhide HOK).strs.2.1, (unhide HOK).strs.2.2.1, (fun k hk => (unhide HOK).strs.2.2.2.1 k (List.mem_of_mem_take hk)), (unhide HOK).strs.2.2.2.2⟩⟩ : In wr { o with links := o.links.take 8 } mv nv (.slice (some ⟨ab, ao, none⟩) 8 lc) cv).off q (unhide U).off
            have hB : Bx wS ka 32 (cells o' mv nv (.slice (some ⟨ab, ao, none⟩) 8 lc) cv) := by rw [hwS, ho', ← set_links o mv nv (.slice (some ⟨ab, ao, none⟩) o.links.length lc) cv (unhide HOK).ten _ (o.links.take 8)]; exact (unhide U).box.set 30 _
            obtain ⟨hth, hfb, hin, hof⟩ := fin37 hI (fun j hj e => by have := hfr j hj; have := unhide HZK; omega) ((unhide HZ).same hOS) (cs0 := Zo) rfl
            have hsz : (Tryd.prog.info? 32).map (·.size) = some (cells o' mv nv (.slice (some ⟨ab, ao, none⟩) 8 lc) cv).length := by rw [cells_len _ _ _ _ _ hI.ten]; exact Tryd.sizeObj
            have hrg := hB.range 0 37
            rw [List.drop_zero, List.take_of_length_le (by rw [cells_len _ _ _ _ _ hI.ten]; omega)] at hrg
            obtain ⟨dsc, hdu, hdr⟩ := row_desc Tryd.rowObj
            have HRG := hide hrg
            have HSZ := hide hsz
            have HTH := hide hth
            have HONE := hide hI.one
            have HFB := hide hfb
            have HIN := hide hin
            have HOF := hide hof
            have HOS := hide hOS
            have HFR := hide hfr
            clear hrg hsz hth hfb hin hof hOS hfr hI hB
            have c30 := (unhide U).box.cell 30 _ (cell_links _ _ _ _ _ (unhide HOK).ten)
            have f30 := (unhide U).box.free 30
            rw [← hn] at c30
            have HWS := hide hwS
            clear hwS ho' q hn
            go_upto_region 43 with fail
            rw [← unhide HWS]
            go_wp2_with (first
              | (refine wpList_load_mid rfl 32 (.tmp 5) rfl ka 0 rfl (cells o' mv nv (.slice (some ⟨ab, ao, none⟩) 8 lc) cv) dsc (unhide HRG) hdu hdr (unhide HSZ) ?_)
              | (refine wpList_store_mid rfl 32 (.tmp 4) (.tmp 228) rfl k2 0 (cells o' mv nv (.slice (some ⟨ab, ao, none⟩) 8 lc) cv).toArray rfl rfl (unhide HTH) (by rw [List.size_toArray]; exact unhide HSZ) (unhide HONE) ?_))
            refine bodyPost_ret (results_st rfl _ _ k2 32 (cells o' mv nv (.slice (some ⟨ab, ao, none⟩) 8 lc) cv).toArray (0, 0) rfl (unhide HFB) Tryd.rowObjM (by rw [List.size_toArray]; exact unhide HSZ)) rfl ?_
            refine ⟨_, _, _, _, by rw [unhide HHO]; rfl, by rw [unhide HHO]; exact unhide HIN, fun j hj => Nat.le_trans (unhide OW).size (unhide HFR j hj), ?_⟩
            exact ((unhide OW).trans (unhide HOS) (fun _ _ e => e)).trans (unhide HOF) (fun j hj e => by have := unhide HWK; omega)
          · have h8z : ¬ (8 : Int) < (n : Int) := by omega
            obtain ⟨o', ho'⟩ : ∃ o', o' = o := ⟨_, rfl⟩
            obtain ⟨wS, hwS⟩ : ∃ wS, wS = wr := ⟨_, rfl⟩
            have HHO : Hid (hO x m X = o') := by rw [ho']; show _ = _; rw [unhide HHO0, List.take_of_length_le (by omega)]
            rw [← hn] at U
            rw [← ho', ← hwS] at U
            have hfr : Fresh4 w2.heap.size mv nv (.slice lo n lc) cv := (unhide U).fresh
            have hOS : Only (fun _ => False) w2 wS := (unhide U).only
            have hI : In wS o' mv nv (.slice lo n lc) cv := (unhide U).inn (by rw [ho']; exact unhide HOK)
            have hB : Bx wS ka 32 (cells o' mv nv (.slice lo n lc) cv) := (unhide U).box
            obtain ⟨hth, hfb, hin, hof⟩ := fin37 hI (fun j hj e => by have := hfr j hj; have := unhide HZK; omega) ((unhide HZ).same hOS) (cs0 := Zo) rfl
            have hsz : (Tryd.prog.info? 32).map (·.size) = some (cells o' mv nv (.slice lo n lc) cv).length := by rw [cells_len _ _ _ _ _ hI.ten]; exact Tryd.sizeObj
            have hrg := hB.range 0 37
            rw [List.drop_zero, List.take_of_length_le (by rw [cells_len _ _ _ _ _ hI.ten]; omega)] at hrg
            obtain ⟨dsc, hdu, hdr⟩ := row_desc Tryd.rowObj
            have HRG := hide hrg
            have HSZ := hide hsz
            have HTH := hide hth
            have HONE := hide hI.one
            have HFB := hide hfb
            have HIN := hide hin
            have HOF := hide hof
            have HOS := hide hOS
            have HFR := hide hfr
            clear hrg hsz hth hfb hin hof hOS hfr hI hB
            have c30 := (unhide U).box.cell 30 _ (cell_links _ _ _ _ _ (by rw [ho']; exact (unhide HOK).ten))
            rw [← hwS]
            clear ho' hwS hn
            go_wp2_with (first
              | (refine wpList_load_mid rfl 32 (.tmp 5) rfl ka 0 rfl (cells o' mv nv (.slice lo n lc) cv) dsc (unhide HRG) hdu hdr (unhide HSZ) ?_)
              | (refine wpList_store_mid rfl 32 (.tmp 4) (.tmp 228) rfl k2 0 (cells o' mv nv (.slice lo n lc) cv).toArray rfl rfl (unhide HTH) (by rw [List.size_toArray]; exact unhide HSZ) (unhide HONE) ?_))
            refine bodyPost_ret (results_st rfl _ _ k2 32 (cells o' mv nv (.slice lo n lc) cv).toArray (0, 0) rfl (unhide HFB) Tryd.rowObjM (by rw [List.size_toArray]; exact unhide HSZ)) rfl ?_
            refine ⟨_, _, _, _, by rw [unhide HHO]; rfl, by rw [unhide HHO]; exact unhide HIN, fun j hj => Nat.le_trans (unhide OW).size (unhide HFR j hj), ?_⟩
            exact ((unhide OW).trans (unhide HOS) (fun _ _ e => e)).trans (unhide HOF) (fun j hj e => by have := unhide HWK; omega)
        case neg =>
         as_aux_lemma =>
          have hk1z : ¬ (k : Int) < (m : Int) := by omega
          by_cases h8 : 8 < n
          · have h8z : (8 : Int) < (n : Int) := by omega
            have h8c : (8 : Int) ≤ (lc : Int) := by omega
            obtain ⟨ab, ao, rfl, _, _⟩ := (show HasF wr (.slice lo n lc) 2 kcells o.links by rw [hn]; exact (unhide U).hasK).at (by omega)
            obtain ⟨o', ho'⟩ : ∃ o', o' = ({ o with links := o.links.take 8 } : Ob) := ⟨_, rfl⟩
            have q : Only (fun j => j = ka) wr (wr.setCell ⟨ka, 30, none⟩ (.slice (some ⟨ab, ao, none⟩) 8 lc)) := (Only.refl _ _).here _ _
            obtain ⟨wS, hwS⟩ : ∃ wS, wS = wr.setCell ⟨ka, 30, none⟩ (.slice (some ⟨ab, ao, none⟩) 8 lc) := ⟨_, rfl⟩
            rw [← hwS] at q
            have HHO : Hid (hO x m X = o') := by rw [ho']; exact unhide HHO0
            have hfr : Fresh4 w2.heap.size mv nv (.slice (some ⟨ab, ao, none⟩) 8 lc) cv := (unhide U).fresh
            have hOS : Only (fun _ => False) w2 wS := (unhide U).only.trans q (fun j hj e => by have := (unhide U).base; omega)
            have hI : In wS o' mv nv (.slice (some ⟨ab, ao, none⟩) 8 lc) cv := by rw [ho']; exact (⟨(unhide U).mat, (unhide U).hasN, (show HasF wr (.slice (some ⟨ab, ao, none⟩) n lc) 2 kcells o.links by rw [hn]; exact (unhide U).hasK).front 8 (by omega) |> fun h => h, (unhide U).hasC, (unhide HOK).ten, (unhide HOK).ints, (unhide HOK).dats, (fun k hk => (unhide HOK).lks k (List.mem_of_mem_take hk)), ⟨(unhide HOK).strs.1, (unhide HOK).strs.2.1, (unhide HOK).strs.2.2.1, (fun k hk => (unhide HOK).strs.2.2.2.1 k (List.mem_of_mem_take hk)), (unhide HOK).strs.2.2.2.2⟩⟩ : In wr { o with links := o.links.take 8 } mv nv (.slice (some ⟨ab, ao, none⟩) 8 lc) cv).off q (unhide U).off
            have hB : Bx wS ka 32 (cells o' mv nv (.slice (some ⟨ab, ao, none⟩) 8 lc) cv) := by rw [hwS, ho', ← set_links o mv nv (.slice (some ⟨ab, ao, none⟩) o.links.length lc) cv (unhide HOK).ten _ (o.links.take 8)]; exact (unhide U).box.set 30 _
            obtain ⟨hth, hfb, hin, hof⟩ := fin37 hI (fun j hj e => by have := hfr j hj; have := unhide HZK; omega) ((unhide HZ).same hOS) (cs0 := Zo) rfl
            have hsz : (Tryd.prog.info? 32).map (·.size) = some (cells o' mv nv (.slice (some ⟨ab, ao, none⟩) 8 lc) cv).length := by rw [cells_len _ _ _ _ _ hI.ten]; exact Tryd.sizeObj
            have hrg := hB.range 0 37
            rw [List.drop_zero, List.take_of_length_le (by rw [cells_len _ _ _ _ _ hI.ten]; omega)] at hrg
            obtain ⟨dsc, hdu, hdr⟩ := row_desc Tryd.rowObj
            have HRG := hide hrg
            have HSZ := hide hsz
            have HTH := hide hth
            have HONE := hide hI.one
            have HFB := hide hfb
            have HIN := hide hin
            have HOF := hide hof
            have HOS := hide hOS
            have HFR := hide hfr
            clear hrg hsz hth hfb hin hof hOS hfr hI hB
            have c30 := (unhide U).box.cell 30 _ (cell_links _ _ _ _ _ (unhide HOK).ten)
            have f30 := (unhide U).box.free 30
            rw [← hn] at c30
            have HWS := hide hwS
            clear hwS ho' q hn
            go_upto_region 43 with fail
            rw [← unhide HWS]
            go_wp2_with (first
              | (refine wpList_load_mid rfl 32 (.tmp 5) rfl ka 0 rfl (cells o' mv nv (.slice (some ⟨ab, ao, none⟩) 8 lc) cv) dsc (unhide HRG) hdu hdr (unhide HSZ) ?_)
              | (refine wpList_store_mid rfl 32 (.tmp 4) (.tmp 228) rfl k2 0 (cells o' mv nv (.slice (some ⟨ab, ao, none⟩) 8 lc) cv).toArray rfl rfl (unhide HTH) (by rw [List.size_toArray]; exact unhide HSZ) (unhide HONE) ?_))
            refine bodyPost_ret (results_st rfl _ _ k2 32 (cells o' mv nv (.slice (some ⟨ab, ao, none⟩) 8 lc) cv).toArray (0, 0) rfl (unhide HFB) Tryd.rowObjM (by rw [List.size_toArray]; exact unhide HSZ)) rfl ?_
            refine ⟨_, _, _, _, by rw [unhide HHO]; rfl, by rw [unhide HHO]; exact unhide HIN, fun j hj => Nat.le_trans (unhide OW).size (unhide HFR j hj), ?_⟩
            exact ((unhide OW).trans (unhide HOS) (fun _ _ e => e)).trans (unhide HOF) (fun j hj e => by have := unhide HWK; omega)
          · have h8z : ¬ (8 : Int) < (n : Int) := by omega
            obtain ⟨o', ho'⟩ : ∃ o', o' = o := ⟨_, rfl⟩
            obtain ⟨wS, hwS⟩ : ∃ wS, wS = wr := ⟨_, rfl⟩
            have HHO : Hid (hO x m X = o') := by rw [ho']; show _ = _; rw [unhide HHO0, List.take_of_length_le (by omega)]
            rw [← hn] at U
            rw [← ho', ← hwS] at U
            have hfr : Fresh4 w2.heap.size mv nv (.slice lo n lc) cv := (unhide U).fresh
            have hOS : Only (fun _ => False) w2 wS := (unhide U).only
            have hI : In wS o' mv nv (.slice lo n lc) cv := (unhide U).inn (by rw [ho']; exact unhide HOK)
            have hB : Bx wS ka 32 (cells o' mv nv (.slice lo n lc) cv) := (unhide U).box
            obtain ⟨hth, hfb, hin, hof⟩ := fin37 hI (fun j hj e => by have := hfr j hj; have := unhide HZK; omega) ((unhide HZ).same hOS) (cs0 := Zo) rfl
            have hsz : (Tryd.prog.info? 32).map (·.size) = some (cells o' mv nv (.slice lo n lc) cv).length := by rw [cells_len _ _ _ _ _ hI.ten]; exact Tryd.sizeObj
            have hrg := hB.range 0 37
            rw [List.drop_zero, List.take_of_length_le (by rw [cells_len _ _ _ _ _ hI.ten]; omega)] at hrg
            obtain ⟨dsc, hdu, hdr⟩ := row_desc Tryd.rowObj
            have HRG := hide hrg
            have HSZ := hide hsz
            have HTH := hide hth
            have HONE := hide hI.one
            have HFB := hide hfb
            have HIN := hide hin
            have HOF := hide hof
            have HOS := hide hOS
            have HFR := hide hfr
            clear hrg hsz hth hfb hin hof hOS hfr hI hB
            have c30 := (unhide U).box.cell 30 _ (cell_links _ _ _ _ _ (by rw [ho']; exact (unhide HOK).ten))
            rw [← hwS]
            clear ho' hwS hn
            go_wp2_with (first
              | (refine wpList_load_mid rfl 32 (.tmp 5) rfl ka 0 rfl (cells o' mv nv (.slice lo n lc) cv) dsc (unhide HRG) hdu hdr (unhide HSZ) ?_)
              | (refine wpList_store_mid rfl 32 (.tmp 4) (.tmp 228) rfl k2 0 (cells o' mv nv (.slice lo n lc) cv).toArray rfl rfl (unhide HTH) (by rw [List.size_toArray]; exact unhide HSZ) (unhide HONE) ?_))
            refine bodyPost_ret (results_st rfl _ _ k2 32 (cells o' mv nv (.slice lo n lc) cv).toArray (0, 0) rfl (unhide HFB) Tryd.rowObjM (by rw [List.size_toArray]; exact unhide HSZ)) rfl ?_
            refine ⟨_, _, _, _, by rw [unhide HHO]; rfl, by rw [unhide HHO]; exact unhide HIN, fun j hj => Nat.le_trans (unhide OW).size (unhide HFR j hj), ?_⟩
            exact ((unhide OW).trans (unhide HOS) (fun _ _ e => e)).trans (unhide HOF) (fun j hj e => by have := unhide HWK; omega)
      case pos =>
      obtain ⟨hl1, hl2⟩ := hlt
      obtain ⟨y, hy⟩ : ∃ y, y = X k := ⟨_, rfl⟩
      obtain ⟨o, ho⟩ : ∃ o, o = (hStart x).hGo X k := ⟨_, rfl⟩
      have HNX : Hid ((hStart x).hGo X (k + 1) = hStep o y) := by rw [ho, hy]; rfl
      have HOK : Hid (Okay k o) := by rw [ho]; exact hGo_okay x X k
      have HYK : Hid (y.Ok) := by rw [hy]; exact (unhide HRR).each k hl1
      have HRW := hide ((unhide HRR).same (unhide U).only)
      obtain ⟨bb, off, rfl, hbb, hrg⟩ := (unhide HRW).range k hl1
      rw [← hy] at hrg
      rw [← ho] at U
      obtain ⟨dsc, hdu, hdr⟩ := row_desc Tryd.rowRawH
      have hsz4 : (Tryd.prog.info? 41).map (·.size) = some y.cells.length := Tryd.sizeRawH
      obtain ⟨wy, yb, ey, eyb, hYB, oY, tY⟩ := made4 wr y.cells rfl
      have HTY := hide tY
      have UY := hide ((unhide U).same oY)
      have hyk : ¬ yb = ka := by have := (unhide U).box.lt; omega
      have Y0 : Hid (wy.cell? ⟨yb, 0, none⟩ = some (.int .i64 y.kind)) := hYB.cell 0 _ rfl
      have Y1 : Hid (wy.cell? ⟨yb, 1, none⟩ = some (.int .i64 y.a)) := hYB.cell 1 _ rfl
      have Y2 : Hid (wy.cell? ⟨yb, 2, none⟩ = some (.int .i64 y.b)) := hYB.cell 2 _ rfl
      have Y3 : Hid (wy.cell? ⟨yb, 3, none⟩ = some (.int .i64 y.c)) := hYB.cell 3 _ rfl
      have P9 := hide (pick_any y.kind 9 wy (by decide) (by decide))
      have hkz1 : (k : Int) < (m : Int) := by omega
      have hkz2 : (k : Int) < 10 := by omega
      have HYL : Hid (yb < wy.heap.size) := hYB.lt
      have HEY := hide ey
      have HEYB := hide eyb
      clear hy ho hYB oY tY ey eyb U HRW
      go_upto_region 7 with (first | (refine wpList_load_mid rfl 41 (.tmp 67) rfl bb (off + k * 4) rfl y.cells dsc hrg hdu hdr hsz4 ?_) | (refine wpList_store_mid rfl 41 (.tmp 7) (.tmp 68) rfl wr.heap.size 0 y.cells.toArray rfl rfl (unhide HTY) Tryd.sizeRawH (raw_one _) ?_))
      rw [← unhide HEY, ← unhide HEYB]
      clear HEY HEYB HTY hrg hdu hdr hsz4 dsc hbb
      have y0 := unhide Y0
      go_wp2_with fail
      refine (unhide P9).mono ?_
      rintro e wq ⟨rfl, hwq⟩
      rw [hwq]
      clear hwq wq P9 y0
      have hq9 : y.kind % 9 = 0 ∨ y.kind % 9 = 1 ∨ y.kind % 9 = 2 ∨ y.kind % 9 = 3 ∨ y.kind % 9 = 4 ∨ y.kind % 9 = 5 ∨ y.kind % 9 = 6 ∨ y.kind % 9 = 7 ∨ y.kind % 9 = 8 := by omega
      rcases hq9 with hq | hq | hq | hq | hq | hq | hq | hq | hq <;> rw [hq] <;> have HQ := hide hq <;> clear hq
      · as_aux_lemma =>
          obtain ⟨d, hd⟩ : ∃ d : Nat, y.a % 10 = d := ⟨(y.a % 10).toNat, by omega⟩
          have hd10 : d < 10 := by omega
          have hd10z : (d : Int) < 10 := by omega
          have P10 := hide (fun W => pick_any y.a 10 W (by decide) (by decide))
          have P60 := hide (fun W => pick_any y.b 60 W (by decide) (by decide))
          rw [hd] at P10
          have HS : Hid (hStep o y = { o with dates := o.dates.set d (true, y.b % 60) }) := by show hStep o y = _; unfold hStep; rw [unhide HQ, hd]; rfl
          clear hd
          go_upto_region 12 with fail
          have Q := hide ((Only.refl (fun j => j = ka) wy).drew)
          have UD := hide ((unhide UY).same (Only.refl _ _).drew)
          have HTH : Hid (wy.drew.there ka (7 + d * 2) (#[Value.bool true, .int .i64 (y.b % 60)] : Array Value).size) := (unhide UD).there (unhide HOK).ten (7 + d * 2) 2 (by omega)
          refine wp_region_held_drew (S := (fun w' => Only (fun j => j = ka) wy w')) (by kernel_rfl) ((Only.refl _ _).drew) (fun hHeld => ?_)
          refine wpAnyH_take (i := 0) (v := ?v55) rfl (by kernel_rfl) (by kernel_rfl) (by kernel_rfl) (fun _ _ _ h => h) (Or.inl ⟨by rfl, ?hy55⟩) (by assumption) ?rest55
          case hy55 =>
            intro w hSw
            go_simp
            try with_reducible rfl
          try simp only [Act.put, List.setIfInBounds_toArray, List.set_cons_zero, List.set_cons_succ, List.getElem_toArray, List.getElem_cons_succ, List.getElem_cons_zero]
          refine wpAnyH_take (i := 1) (v := ?v56) rfl (by kernel_rfl) (by kernel_rfl) (by kernel_rfl) (fun _ _ _ h => h) (Or.inl ⟨by rfl, ?hy56⟩) (by assumption) ?rest56
          case hy56 =>
            intro w hSw
            (have q := hSw.cell (unhide Y1) (hyk); go_simp; try with_reducible rfl)
          try simp only [Act.put, List.setIfInBounds_toArray, List.set_cons_zero, List.set_cons_succ, List.getElem_toArray, List.getElem_cons_succ, List.getElem_cons_zero]
          refine wpAnyH_take (i := 3) (v := ?v57) rfl (by kernel_rfl) (by kernel_rfl) (by kernel_rfl) (fun _ _ _ h => h) (Or.inl ⟨by rfl, ?hy57⟩) (by assumption) ?rest57
          case hy57 =>
            intro w hSw
            go_simp
            try with_reducible rfl
          try simp only [Act.put, List.setIfInBounds_toArray, List.set_cons_zero, List.set_cons_succ, List.getElem_toArray, List.getElem_cons_succ, List.getElem_cons_zero]
          refine wpAnyH_take (i := 4) (v := ?v58) rfl (by kernel_rfl) (by kernel_rfl) (by kernel_rfl) (fun _ _ _ h => h) (Or.inl ⟨by rfl, ?hy58⟩) (by assumption) ?rest58
          case hy58 =>
            intro w hSw
            (have q := hSw.cell (unhide Y2) (hyk); go_simp; try with_reducible rfl)
          try simp only [Act.put, List.setIfInBounds_toArray, List.set_cons_zero, List.set_cons_succ, List.getElem_toArray, List.getElem_cons_succ, List.getElem_cons_zero]
          refine wpAnyH_take (i := 7) (v := ?v59) rfl (by kernel_rfl) (by kernel_rfl) (by kernel_rfl) (fun _ _ _ h => h) (Or.inl ⟨by rfl, ?hy59⟩) (by assumption) ?rest59
          case hy59 =>
            intro w hSw
            go_simp
            try with_reducible rfl
          try simp only [Act.put, List.setIfInBounds_toArray, List.set_cons_zero, List.set_cons_succ, List.getElem_toArray, List.getElem_cons_succ, List.getElem_cons_zero]
          refine wpAnyH_ready (rs := [2]) (by kernel_rfl) (by simp) ?_
          refine AllReadyH.cons rfl (fun K hK => ?_) AllReadyH.nil
          go_simp
          go_wp2_with fail; refine (unhide P10 _).mono ?_; rintro e wx ⟨rfl, hwx⟩; rw [hwx]; clear hwx wx
          refine hK.out _ _ ((unhide Q)) (fun hHeld => ?_)
          clear hK K
          try simp only [Act.put, List.setIfInBounds_toArray, List.set_cons_zero, List.set_cons_succ, List.getElem_toArray, List.getElem_cons_succ, List.getElem_cons_zero]
          refine wpAnyH_ready (rs := [5]) (by kernel_rfl) (by simp) ?_
          refine AllReadyH.cons rfl (fun K hK => ?_) AllReadyH.nil
          go_simp
          go_wp2_with fail; refine (unhide P60 _).mono ?_; rintro e wx ⟨rfl, hwx⟩; rw [hwx]; clear hwx wx
          refine hK.out _ _ ((unhide Q)) (fun hHeld => ?_)
          clear hK K
          try simp only [Act.put, List.setIfInBounds_toArray, List.set_cons_zero, List.set_cons_succ, List.getElem_toArray, List.getElem_cons_succ, List.getElem_cons_zero]
          refine wpAnyH_take (i := 6) (v := ?v60) rfl (by kernel_rfl) (by kernel_rfl) (by kernel_rfl) (fun _ _ _ h => h) (Or.inl ⟨by rfl, ?hy60⟩) (by assumption) ?rest60
          case hy60 =>
            intro w hSw
            go_simp
            try with_reducible rfl
          try simp only [Act.put, List.setIfInBounds_toArray, List.set_cons_zero, List.set_cons_succ, List.getElem_toArray, List.getElem_cons_succ, List.getElem_cons_zero]
          refine wpAnyH_take (i := 8) (v := ?v61) rfl (by kernel_rfl) (by kernel_rfl) (by kernel_rfl) (fun _ _ _ h => h) (Or.inl ⟨by rfl, ?hy61⟩) (by assumption) ?rest61
          case hy61 =>
            intro w hSw
            (go_simp; first | done | with_reducible rfl | exact rfl)
          try simp only [Act.put, List.setIfInBounds_toArray, List.set_cons_zero, List.set_cons_succ, List.getElem_toArray, List.getElem_cons_succ, List.getElem_cons_zero]
          refine wpAnyH_ready (rs := [9]) (by kernel_rfl) (by simp) ?_
          refine AllReadyH.cons rfl (fun K hK => ?_) AllReadyH.nil
          refine step_store_mid rfl 24 (.tmp 89) (.tmp 87) rfl ka (7 + d * 2) #[.bool true, .int .i64 (y.b % 60)] rfl rfl (unhide HTH) Tryd.sizeDateH (one2 _ _) ?_
          refine hK.out _ _ ((Only.setCells (S := fun j => j = ka) (fun _ => rfl) _ _ _ (unhide Q))) (fun hHeld => ?_)
          clear hK K
          try simp only [Act.put, List.setIfInBounds_toArray, List.set_cons_zero, List.set_cons_succ, List.getElem_toArray, List.getElem_cons_succ, List.getElem_cons_zero]
          refine wpAnyH_done (by kernel_rfl) ?_ _
          go_wp2
          go_roundw
          case rel => exact ⟨k + 1, by omega, by omega, by go_num, by show ∃ nv lv cv, _; rw [unhide HNX, unhide HS]; exact ⟨_, _, _, (unhide UD).sets (7 + d * 2) _ _ (set_date o _ _ _ _ (unhide HOK).ten d hd10 true _) rfl rfl rfl rfl⟩⟩
          case measure => simp [intOf]; omega
      · as_aux_lemma =>
          obtain ⟨d, hd⟩ : ∃ d : Nat, y.a % 10 = d := ⟨(y.a % 10).toNat, by omega⟩
          have hd10 : d < 10 := by omega
          have hd10z : (d : Int) < 10 := by omega
          have P10 := hide (fun W => pick_any y.a 10 W (by decide) (by decide))
          have P60 := hide (fun W => pick_any y.b 60 W (by decide) (by decide))
          rw [hd] at P10
          have HS : Hid (hStep o y = { o with dates := o.dates.set d (true, y.b % 60) }) := by show hStep o y = _; unfold hStep; rw [unhide HQ, hd]; rfl
          clear hd
          go_upto_region 12 with fail
          have Q := hide ((Only.refl (fun j => j = ka) wy).drew)
          have UD := hide ((unhide UY).same (Only.refl _ _).drew)
          have HTH : Hid (wy.drew.there ka (7 + d * 2) (#[Value.bool true, .int .i64 (y.b % 60)] : Array Value).size) := (unhide UD).there (unhide HOK).ten (7 + d * 2) 2 (by omega)
          refine wp_region_held_drew (S := (fun w' => Only (fun j => j = ka) wy w')) (by kernel_rfl) ((Only.refl _ _).drew) (fun hHeld => ?_)
          refine wpAnyH_take (i := 0) (v := ?v62) rfl (by kernel_rfl) (by kernel_rfl) (by kernel_rfl) (fun _ _ _ h => h) (Or.inl ⟨by rfl, ?hy62⟩) (by assumption) ?rest62
          case hy62 =>
            intro w hSw
            go_simp
            try with_reducible rfl
          try simp only [Act.put, List.setIfInBounds_toArray, List.set_cons_zero, List.set_cons_succ, List.getElem_toArray, List.getElem_cons_succ, List.getElem_cons_zero]
          refine wpAnyH_take (i := 1) (v := ?v63) rfl (by kernel_rfl) (by kernel_rfl) (by kernel_rfl) (fun _ _ _ h => h) (Or.inl ⟨by rfl, ?hy63⟩) (by assumption) ?rest63
          case hy63 =>
            intro w hSw
            (have q := hSw.cell (unhide Y1) (hyk); go_simp; try with_reducible rfl)
          try simp only [Act.put, List.setIfInBounds_toArray, List.set_cons_zero, List.set_cons_succ, List.getElem_toArray, List.getElem_cons_succ, List.getElem_cons_zero]
          refine wpAnyH_take (i := 3) (v := ?v64) rfl (by kernel_rfl) (by kernel_rfl) (by kernel_rfl) (fun _ _ _ h => h) (Or.inl ⟨by rfl, ?hy64⟩) (by assumption) ?rest64
          case hy64 =>
            intro w hSw
            go_simp
            try with_reducible rfl
          try simp only [Act.put, List.setIfInBounds_toArray, List.set_cons_zero, List.set_cons_succ, List.getElem_toArray, List.getElem_cons_succ, List.getElem_cons_zero]
          refine wpAnyH_take (i := 4) (v := ?v65) rfl (by kernel_rfl) (by kernel_rfl) (by kernel_rfl) (fun _ _ _ h => h) (Or.inl ⟨by rfl, ?hy65⟩) (by assumption) ?rest65
          case hy65 =>
            intro w hSw
            (have q := hSw.cell (unhide Y2) (hyk); go_simp; try with_reducible rfl)
          try simp only [Act.put, List.setIfInBounds_toArray, List.set_cons_zero, List.set_cons_succ, List.getElem_toArray, List.getElem_cons_succ, List.getElem_cons_zero]
          refine wpAnyH_take (i := 7) (v := ?v66) rfl (by kernel_rfl) (by kernel_rfl) (by kernel_rfl) (fun _ _ _ h => h) (Or.inl ⟨by rfl, ?hy66⟩) (by assumption) ?rest66
          case hy66 =>
            intro w hSw
            go_simp
            try with_reducible rfl
          try simp only [Act.put, List.setIfInBounds_toArray, List.set_cons_zero, List.set_cons_succ, List.getElem_toArray, List.getElem_cons_succ, List.getElem_cons_zero]
          refine wpAnyH_ready (rs := [2]) (by kernel_rfl) (by simp) ?_
          refine AllReadyH.cons rfl (fun K hK => ?_) AllReadyH.nil
          go_simp
          go_wp2_with fail; refine (unhide P10 _).mono ?_; rintro e wx ⟨rfl, hwx⟩; rw [hwx]; clear hwx wx
          refine hK.out _ _ ((unhide Q)) (fun hHeld => ?_)
          clear hK K
          try simp only [Act.put, List.setIfInBounds_toArray, List.set_cons_zero, List.set_cons_succ, List.getElem_toArray, List.getElem_cons_succ, List.getElem_cons_zero]
          refine wpAnyH_ready (rs := [5]) (by kernel_rfl) (by simp) ?_
          refine AllReadyH.cons rfl (fun K hK => ?_) AllReadyH.nil
          go_simp
          go_wp2_with fail; refine (unhide P60 _).mono ?_; rintro e wx ⟨rfl, hwx⟩; rw [hwx]; clear hwx wx
          refine hK.out _ _ ((unhide Q)) (fun hHeld => ?_)
          clear hK K
          try simp only [Act.put, List.setIfInBounds_toArray, List.set_cons_zero, List.set_cons_succ, List.getElem_toArray, List.getElem_cons_succ, List.getElem_cons_zero]
          refine wpAnyH_take (i := 6) (v := ?v67) rfl (by kernel_rfl) (by kernel_rfl) (by kernel_rfl) (fun _ _ _ h => h) (Or.inl ⟨by rfl, ?hy67⟩) (by assumption) ?rest67
          case hy67 =>
            intro w hSw
            go_simp
            try with_reducible rfl
          try simp only [Act.put, List.setIfInBounds_toArray, List.set_cons_zero, List.set_cons_succ, List.getElem_toArray, List.getElem_cons_succ, List.getElem_cons_zero]
          refine wpAnyH_take (i := 8) (v := ?v68) rfl (by kernel_rfl) (by kernel_rfl) (by kernel_rfl) (fun _ _ _ h => h) (Or.inl ⟨by rfl, ?hy68⟩) (by assumption) ?rest68
          case hy68 =>
            intro w hSw
            (go_simp; first | done | with_reducible rfl | exact rfl)
          try simp only [Act.put, List.setIfInBounds_toArray, List.set_cons_zero, List.set_cons_succ, List.getElem_toArray, List.getElem_cons_succ, List.getElem_cons_zero]
          refine wpAnyH_ready (rs := [9]) (by kernel_rfl) (by simp) ?_
          refine AllReadyH.cons rfl (fun K hK => ?_) AllReadyH.nil
          refine step_store_mid rfl 24 (.tmp 89) (.tmp 87) rfl ka (7 + d * 2) #[.bool true, .int .i64 (y.b % 60)] rfl rfl (unhide HTH) Tryd.sizeDateH (one2 _ _) ?_
          refine hK.out _ _ ((Only.setCells (S := fun j => j = ka) (fun _ => rfl) _ _ _ (unhide Q))) (fun hHeld => ?_)
          clear hK K
          try simp only [Act.put, List.setIfInBounds_toArray, List.set_cons_zero, List.set_cons_succ, List.getElem_toArray, List.getElem_cons_succ, List.getElem_cons_zero]
          refine wpAnyH_done (by kernel_rfl) ?_ _
          go_wp2
          go_roundw
          case rel => exact ⟨k + 1, by omega, by omega, by go_num, by show ∃ nv lv cv, _; rw [unhide HNX, unhide HS]; exact ⟨_, _, _, (unhide UD).sets (7 + d * 2) _ _ (set_date o _ _ _ _ (unhide HOK).ten d hd10 true _) rfl rfl rfl rfl⟩⟩
          case measure => simp [intOf]; omega
      · as_aux_lemma =>
          obtain ⟨d, hd⟩ : ∃ d : Nat, y.a % 10 = d := ⟨(y.a % 10).toNat, by omega⟩
          have hd10 : d < 10 := by omega
          have hd10z : (d : Int) < 10 := by omega
          have P10 := hide (fun W => pick_any y.a 10 W (by decide) (by decide))
          have P60 := hide (fun W => pick_any y.b 60 W (by decide) (by decide))
          rw [hd] at P10
          have HS : Hid (hStep o y = { o with dates := o.dates.set d (true, y.b % 60) }) := by show hStep o y = _; unfold hStep; rw [unhide HQ, hd]; rfl
          clear hd
          go_upto_region 12 with fail
          have Q := hide ((Only.refl (fun j => j = ka) wy).drew)
          have UD := hide ((unhide UY).same (Only.refl _ _).drew)
          have HTH : Hid (wy.drew.there ka (7 + d * 2) (#[Value.bool true, .int .i64 (y.b % 60)] : Array Value).size) := (unhide UD).there (unhide HOK).ten (7 + d * 2) 2 (by omega)
          refine wp_region_held_drew (S := (fun w' => Only (fun j => j = ka) wy w')) (by kernel_rfl) ((Only.refl _ _).drew) (fun hHeld => ?_)
          refine wpAnyH_take (i := 0) (v := ?v69) rfl (by kernel_rfl) (by kernel_rfl) (by kernel_rfl) (fun _ _ _ h => h) (Or.inl ⟨by rfl, ?hy69⟩) (by assumption) ?rest69
          case hy69 =>
            intro w hSw
            go_simp
            try with_reducible rfl
          try simp only [Act.put, List.setIfInBounds_toArray, List.set_cons_zero, List.set_cons_succ, List.getElem_toArray, List.getElem_cons_succ, List.getElem_cons_zero]
          refine wpAnyH_take (i := 1) (v := ?v70) rfl (by kernel_rfl) (by kernel_rfl) (by kernel_rfl) (fun _ _ _ h => h) (Or.inl ⟨by rfl, ?hy70⟩) (by assumption) ?rest70
          case hy70 =>
            intro w hSw
            (have q := hSw.cell (unhide Y1) (hyk); go_simp; try with_reducible rfl)
          try simp only [Act.put, List.setIfInBounds_toArray, List.set_cons_zero, List.set_cons_succ, List.getElem_toArray, List.getElem_cons_succ, List.getElem_cons_zero]
          refine wpAnyH_take (i := 3) (v := ?v71) rfl (by kernel_rfl) (by kernel_rfl) (by kernel_rfl) (fun _ _ _ h => h) (Or.inl ⟨by rfl, ?hy71⟩) (by assumption) ?rest71
          case hy71 =>
            intro w hSw
            go_simp
            try with_reducible rfl
          try simp only [Act.put, List.setIfInBounds_toArray, List.set_cons_zero, List.set_cons_succ, List.getElem_toArray, List.getElem_cons_succ, List.getElem_cons_zero]
          refine wpAnyH_take (i := 4) (v := ?v72) rfl (by kernel_rfl) (by kernel_rfl) (by kernel_rfl) (fun _ _ _ h => h) (Or.inl ⟨by rfl, ?hy72⟩) (by assumption) ?rest72
          case hy72 =>
            intro w hSw
            (have q := hSw.cell (unhide Y2) (hyk); go_simp; try with_reducible rfl)
          try simp only [Act.put, List.setIfInBounds_toArray, List.set_cons_zero, List.set_cons_succ, List.getElem_toArray, List.getElem_cons_succ, List.getElem_cons_zero]
          refine wpAnyH_take (i := 7) (v := ?v73) rfl (by kernel_rfl) (by kernel_rfl) (by kernel_rfl) (fun _ _ _ h => h) (Or.inl ⟨by rfl, ?hy73⟩) (by assumption) ?rest73
          case hy73 =>
            intro w hSw
            go_simp
            try with_reducible rfl
          try simp only [Act.put, List.setIfInBounds_toArray, List.set_cons_zero, List.set_cons_succ, List.getElem_toArray, List.getElem_cons_succ, List.getElem_cons_zero]
          refine wpAnyH_ready (rs := [2]) (by kernel_rfl) (by simp) ?_
          refine AllReadyH.cons rfl (fun K hK => ?_) AllReadyH.nil
          go_simp
          go_wp2_with fail; refine (unhide P10 _).mono ?_; rintro e wx ⟨rfl, hwx⟩; rw [hwx]; clear hwx wx
          refine hK.out _ _ ((unhide Q)) (fun hHeld => ?_)
          clear hK K
          try simp only [Act.put, List.setIfInBounds_toArray, List.set_cons_zero, List.set_cons_succ, List.getElem_toArray, List.getElem_cons_succ, List.getElem_cons_zero]
          refine wpAnyH_ready (rs := [5]) (by kernel_rfl) (by simp) ?_
          refine AllReadyH.cons rfl (fun K hK => ?_) AllReadyH.nil
          go_simp
          go_wp2_with fail; refine (unhide P60 _).mono ?_; rintro e wx ⟨rfl, hwx⟩; rw [hwx]; clear hwx wx
          refine hK.out _ _ ((unhide Q)) (fun hHeld => ?_)
          clear hK K
          try simp only [Act.put, List.setIfInBounds_toArray, List.set_cons_zero, List.set_cons_succ, List.getElem_toArray, List.getElem_cons_succ, List.getElem_cons_zero]
          refine wpAnyH_take (i := 6) (v := ?v74) rfl (by kernel_rfl) (by kernel_rfl) (by kernel_rfl) (fun _ _ _ h => h) (Or.inl ⟨by rfl, ?hy74⟩) (by assumption) ?rest74
          case hy74 =>
            intro w hSw
            go_simp
            try with_reducible rfl
          try simp only [Act.put, List.setIfInBounds_toArray, List.set_cons_zero, List.set_cons_succ, List.getElem_toArray, List.getElem_cons_succ, List.getElem_cons_zero]
          refine wpAnyH_take (i := 8) (v := ?v75) rfl (by kernel_rfl) (by kernel_rfl) (by kernel_rfl) (fun _ _ _ h => h) (Or.inl ⟨by rfl, ?hy75⟩) (by assumption) ?rest75
          case hy75 =>
            intro w hSw
            (go_simp; first | done | with_reducible rfl | exact rfl)
          try simp only [Act.put, List.setIfInBounds_toArray, List.set_cons_zero, List.set_cons_succ, List.getElem_toArray, List.getElem_cons_succ, List.getElem_cons_zero]
          refine wpAnyH_ready (rs := [9]) (by kernel_rfl) (by simp) ?_
          refine AllReadyH.cons rfl (fun K hK => ?_) AllReadyH.nil
          refine step_store_mid rfl 24 (.tmp 89) (.tmp 87) rfl ka (7 + d * 2) #[.bool true, .int .i64 (y.b % 60)] rfl rfl (unhide HTH) Tryd.sizeDateH (one2 _ _) ?_
          refine hK.out _ _ ((Only.setCells (S := fun j => j = ka) (fun _ => rfl) _ _ _ (unhide Q))) (fun hHeld => ?_)
          clear hK K
          try simp only [Act.put, List.setIfInBounds_toArray, List.set_cons_zero, List.set_cons_succ, List.getElem_toArray, List.getElem_cons_succ, List.getElem_cons_zero]
          refine wpAnyH_done (by kernel_rfl) ?_ _
          go_wp2
          go_roundw
          case rel => exact ⟨k + 1, by omega, by omega, by go_num, by show ∃ nv lv cv, _; rw [unhide HNX, unhide HS]; exact ⟨_, _, _, (unhide UD).sets (7 + d * 2) _ _ (set_date o _ _ _ _ (unhide HOK).ten d hd10 true _) rfl rfl rfl rfl⟩⟩
          case measure => simp [intOf]; omega
      · as_aux_lemma =>
          obtain ⟨s, hs⟩ : ∃ s, s = at0 hNames [] (y.a % 5) := ⟨_, rfl⟩
          have IX : Hid (∀ W, (Instr.index 64 (.agg #[.string ⟨#[111, 110, 101]⟩, .string ⟨#[116, 119, 111]⟩, .string ⟨#[116, 104, 114, 101, 101]⟩, .string ⟨#[102, 111, 117, 114]⟩, .string ⟨#[102, 105, 118, 101]⟩]) (.int .i64 (y.a % 5))).run Tryd.prog W = .ok (.string (str s)) W) := fun W => by rw [hs]; exact index_str 64 5 hNames (y.a % 5) W Tryd.under5s rfl (Int.emod_nonneg _ (by decide)) (Int.emod_lt_of_pos _ (by decide))
          have P5 := hide (fun W => pick_any y.a 5 W (by decide) (by decide))
          have HS : Hid (hStep o y = { o with names := addN 1000 o.names s }) := by show hStep o y = _; unfold hStep; rw [unhide HQ, hs]; rfl
          clear hs
          have y1 := unhide Y1
          go_wp2_with fail
          refine (unhide P5 _).mono ?_
          rintro e wx ⟨rfl, hwx⟩
          rw [hwx]
          clear hwx wx
          have ix := unhide IX
          have c29 := (unhide UY).box.cell 29 _ (cell_names o _ _ _ _ (unhide HOK).ten)
          have HIN := hide (in_any o.names s nv wy (unhide UY).hasN)
          go_wp2_with fail
          refine (unhide HIN).mono ?_
          rintro e w3 ⟨rfl, o3⟩
          have U3 := hide ((unhide UY).same o3)
          clear o3 HIN c29 ix y1
          cases hb : memB s o.names with
          | true =>
            have HSF : Hid (addN 1000 o.names s = o.names) := by show addN _ _ _ = _; unfold addN; rw [if_pos hb]
            clear hb
            go_wp2
            go_roundw
            case rel => exact ⟨k + 1, by omega, by omega, by go_num, by show ∃ nv lv cv, _; rw [unhide HNX, unhide HS]; exact ⟨_, _, _, by rw [unhide HSF]; exact unhide U3⟩⟩
            case measure => simp [intOf]; omega
          | false =>
            have HB := hide hb
            clear hb
            have HSF : Hid (addN 1000 o.names s = o.names ++ [s]) := by show addN _ _ _ = _; unfold addN; rw [if_neg (by rw [unhide HB]; decide), if_pos (by have := (unhide HOK).nn; omega)]
            obtain ⟨x4, g, uo, uc, x5, e4, eg, hrun, hbx, UP⟩ := (unhide U3).appN (unhide HOK).ten (by have := (unhide HOK).nn; omega) s
            have cb := (unhide U3).box.cell 29 _ (cell_names o _ _ _ _ (unhide HOK).ten)
            have cb5 := hbx.cell 29 _ (cell_names o _ _ _ _ (unhide HOK).ten)
            have fb5 := hbx.free 29
            have HE4 := hide e4
            have HEG := hide eg
            have HRUN := hide hrun
            have HUP := hide UP
            clear e4 eg hrun UP hbx
            go_wp2_with (first | (at_builtin; rw [← unhide HE4, ← unhide HEG]; refine wpList_app rfl (.tmp 103) (.tmp 105) 26 rfl nv (.slice (some ⟨g, 0, none⟩) 1 1) _ x5 rfl rfl (unhide HRUN) ?_))
            go_roundw
            case rel => exact ⟨k + 1, by omega, by omega, by go_num, by show ∃ nv lv cv, _; rw [unhide HNX, unhide HS]; exact ⟨_, _, _, by rw [unhide HSF]; exact unhide HUP⟩⟩
            case measure => simp [intOf]; omega
      · as_aux_lemma =>
          have HS : Hid (hStep o y = { o with links := addN 1000 o.links (101 + y.a % 5, hId y.b) }) := by show hStep o y = _; unfold hStep; rw [unhide HQ]; rfl
          have P5 := hide (fun W => pick_any y.a 5 W (by decide) (by decide))
          have PI := hide (fun W => hId_any y.b W)
          have W3 : Hid (IntKind.i64.wrap (101 + y.a % 5) = 101 + y.a % 5) := wr64 _ (by omega) (by omega)
          go_upto_region 18 with fail
          go_cut [9] (fun p wx => ∃ kb, p = .pointer (some ⟨kb, 0, none⟩) ∧ Hid (Bx wx kb 67 (kcells (101 + y.a % 5, hId y.b))) ∧ Hid (Only (fun _ => False) wy wx))
          case first =>
            as_aux_lemma =>
              obtain ⟨ya, kb, eya, ekb, BA0, oa0, -⟩ := boxed wy #[.int .i64 0, .string ⟨#[]⟩] 67
              have Q := hide ((Only.refl (fun _ => False) wy).drew)
              have BA : Hid (Bx ya.drew kb 67 #[.int .i64 0, .string ⟨#[]⟩].toList) := BA0.same ((Only.refl _ _).drew)
              have QA := hide (oa0.drew)
              have HTH : Hid (ya.drew.there kb 0 (#[.int .i64 (101 + y.a % 5), .string (str (hId y.b))] : Array Value).size) := bx_there (unhide BA) _ rfl
              have hkn : ¬ kb < wy.heap.size := by omega
              have HEY := hide eya
              have HEK := hide ekb
              clear eya ekb BA0 oa0
              refine wp_region_held_drew (S := (fun w' => Only (fun _ => False) wy w')) (by kernel_rfl) ((Only.refl _ _).drew) (fun hHeld => ?_)
              refine wpAnyH_take (i := 0) (v := ?v76) rfl (by kernel_rfl) (by kernel_rfl) (by kernel_rfl) (fun _ _ _ h => h) (Or.inl ⟨by rfl, ?hy76⟩) (by assumption) ?rest76
              case hy76 =>
                intro w hSw
                go_simp
                try with_reducible rfl
              try simp only [Act.put, List.setIfInBounds_toArray, List.set_cons_zero, List.set_cons_succ, List.getElem_toArray, List.getElem_cons_succ, List.getElem_cons_zero]
              refine wpAnyH_take (i := 1) (v := ?v77) rfl (by kernel_rfl) (by kernel_rfl) (by kernel_rfl) (fun _ _ _ h => h) (Or.inl ⟨by rfl, ?hy77⟩) (by assumption) ?rest77
              case hy77 =>
                intro w hSw
                (have q := hSw.cell (unhide Y1) (fun e => e); go_simp; try with_reducible rfl)
              try simp only [Act.put, List.setIfInBounds_toArray, List.set_cons_zero, List.set_cons_succ, List.getElem_toArray, List.getElem_cons_succ, List.getElem_cons_zero]
              refine wpAnyH_take (i := 4) (v := ?v78) rfl (by kernel_rfl) (by kernel_rfl) (by kernel_rfl) (fun _ _ _ h => h) (Or.inl ⟨by rfl, ?hy78⟩) (by assumption) ?rest78
              case hy78 =>
                intro w hSw
                go_simp
                try with_reducible rfl
              try simp only [Act.put, List.setIfInBounds_toArray, List.set_cons_zero, List.set_cons_succ, List.getElem_toArray, List.getElem_cons_succ, List.getElem_cons_zero]
              refine wpAnyH_take (i := 5) (v := ?v79) rfl (by kernel_rfl) (by kernel_rfl) (by kernel_rfl) (fun _ _ _ h => h) (Or.inl ⟨by rfl, ?hy79⟩) (by assumption) ?rest79
              case hy79 =>
                intro w hSw
                (have q := hSw.cell (unhide Y2) (fun e => e); go_simp; try with_reducible rfl)
              try simp only [Act.put, List.setIfInBounds_toArray, List.set_cons_zero, List.set_cons_succ, List.getElem_toArray, List.getElem_cons_succ, List.getElem_cons_zero]
              refine wpAnyH_ready (rs := [2, 8]) (by kernel_rfl) (by simp) ?_
              refine (AllReadyH.cons rfl (fun K hK => ?_) (AllReadyH.cons rfl (fun K hK => ?_) AllReadyH.nil))
              · skip
                go_simp
                go_wp2_with fail; refine (unhide P5 _).mono ?_; rintro e wx ⟨rfl, hwx⟩; rw [hwx]; clear hwx wx
                refine hK.out _ _ ((unhide Q)) (fun hHeld => ?_)
                clear hK K
                try simp only [Act.put, List.setIfInBounds_toArray, List.set_cons_zero, List.set_cons_succ, List.getElem_toArray, List.getElem_cons_succ, List.getElem_cons_zero]
                refine wpAnyH_take (i := 3) (v := ?v80) rfl (by kernel_rfl) (by kernel_rfl) (by kernel_rfl) (fun _ _ _ h => h) (Or.inl ⟨by rfl, ?hy80⟩) (by assumption) ?rest80
                case hy80 =>
                  intro w hSw
                  (go_simp; rw [unhide W3]; try with_reducible rfl)
                try simp only [Act.put, List.setIfInBounds_toArray, List.set_cons_zero, List.set_cons_succ, List.getElem_toArray, List.getElem_cons_succ, List.getElem_cons_zero]
                refine wpAnyH_ready (rs := [6, 8]) (by kernel_rfl) (by simp) ?_
                refine (AllReadyH.cons rfl (fun K hK => ?_) (AllReadyH.cons rfl (fun K hK => ?_) AllReadyH.nil))
                · skip
                  go_simp
                  go_wp2_with fail; refine (unhide PI _).mono ?_; rintro e wx ⟨rfl, hwx⟩; rw [hwx]; clear hwx wx
                  refine hK.out _ _ ((unhide Q)) (fun hHeld => ?_)
                  clear hK K
                  try simp only [Act.put, List.setIfInBounds_toArray, List.set_cons_zero, List.set_cons_succ, List.getElem_toArray, List.getElem_cons_succ, List.getElem_cons_zero]
                  refine wpAnyH_take (i := 7) (v := ?v81) rfl (by kernel_rfl) (by kernel_rfl) (by kernel_rfl) (fun _ _ _ h => h) (Or.inl ⟨by rfl, ?hy81⟩) (by assumption) ?rest81
                  case hy81 =>
                    intro w hSw
                    go_simp
                    try with_reducible rfl
                  try simp only [Act.put, List.setIfInBounds_toArray, List.set_cons_zero, List.set_cons_succ, List.getElem_toArray, List.getElem_cons_succ, List.getElem_cons_zero]
                  refine wpAnyH_ready (rs := [8]) (by kernel_rfl) (by simp) ?_
                  refine AllReadyH.cons rfl (fun K hK => ?_) AllReadyH.nil
                  go_simp
                  refine hK.out _ _ ((((Only.refl (fun _ => False) wy).alloc _).drew)) (fun hHeld => ?_)
                  clear hK K
                  try simp only [Act.put, List.setIfInBounds_toArray, List.set_cons_zero, List.set_cons_succ, List.getElem_toArray, List.getElem_cons_succ, List.getElem_cons_zero]
                  rw [← unhide HEK, ← unhide HEY]
                  refine wpAnyH_ready (rs := [9]) (by kernel_rfl) (by simp) ?_
                  refine AllReadyH.cons rfl (fun K hK => ?_) AllReadyH.nil
                  refine step_store_mid rfl 67 (.tmp 9) (.tmp 117) rfl kb 0 #[.int .i64 (101 + y.a % 5), .string (str (hId y.b))] rfl rfl (unhide HTH) Tryd.sizeLinkH (onek _ _) ?_
                  refine hK.out _ _ ((Only.setCells (fun h => absurd h hkn) _ _ _ (unhide QA))) (fun hHeld => ?_)
                  clear hK K
                  try simp only [Act.put, List.setIfInBounds_toArray, List.set_cons_zero, List.set_cons_succ, List.getElem_toArray, List.getElem_cons_succ, List.getElem_cons_zero]
                  refine wpAnyH_done (by kernel_rfl) ?_ _
                  go_step
                  go_step
                  go_meet
                  case rel => exact ⟨kb, rfl, setCells_bx (unhide BA) (kcells (101 + y.a % 5, hId y.b)) rfl, Only.setCells (fun h => absurd h hkn) _ _ _ (unhide QA)⟩
                · skip
                  go_simp
                  refine hK.out _ _ ((((Only.refl (fun _ => False) wy).alloc _).drew)) (fun hHeld => ?_)
                  clear hK K
                  try simp only [Act.put, List.setIfInBounds_toArray, List.set_cons_zero, List.set_cons_succ, List.getElem_toArray, List.getElem_cons_succ, List.getElem_cons_zero]
                  rw [← unhide HEK, ← unhide HEY]
                  refine wpAnyH_ready (rs := [6]) (by kernel_rfl) (by simp) ?_
                  refine AllReadyH.cons rfl (fun K hK => ?_) AllReadyH.nil
                  go_simp
                  go_wp2_with fail; refine (unhide PI _).mono ?_; rintro e wx ⟨rfl, hwx⟩; rw [hwx]; clear hwx wx
                  refine hK.out _ _ ((unhide QA)) (fun hHeld => ?_)
                  clear hK K
                  try simp only [Act.put, List.setIfInBounds_toArray, List.set_cons_zero, List.set_cons_succ, List.getElem_toArray, List.getElem_cons_succ, List.getElem_cons_zero]
                  refine wpAnyH_take (i := 7) (v := ?v82) rfl (by kernel_rfl) (by kernel_rfl) (by kernel_rfl) (fun _ _ _ h => h) (Or.inl ⟨by rfl, ?hy82⟩) (by assumption) ?rest82
                  case hy82 =>
                    intro w hSw
                    go_simp
                    try with_reducible rfl
                  try simp only [Act.put, List.setIfInBounds_toArray, List.set_cons_zero, List.set_cons_succ, List.getElem_toArray, List.getElem_cons_succ, List.getElem_cons_zero]
                  refine wpAnyH_ready (rs := [9]) (by kernel_rfl) (by simp) ?_
                  refine AllReadyH.cons rfl (fun K hK => ?_) AllReadyH.nil
                  refine step_store_mid rfl 67 (.tmp 9) (.tmp 117) rfl kb 0 #[.int .i64 (101 + y.a % 5), .string (str (hId y.b))] rfl rfl (unhide HTH) Tryd.sizeLinkH (onek _ _) ?_
                  refine hK.out _ _ ((Only.setCells (fun h => absurd h hkn) _ _ _ (unhide QA))) (fun hHeld => ?_)
                  clear hK K
                  try simp only [Act.put, List.setIfInBounds_toArray, List.set_cons_zero, List.set_cons_succ, List.getElem_toArray, List.getElem_cons_succ, List.getElem_cons_zero]
                  refine wpAnyH_done (by kernel_rfl) ?_ _
                  go_step
                  go_step
                  go_meet
                  case rel => exact ⟨kb, rfl, setCells_bx (unhide BA) (kcells (101 + y.a % 5, hId y.b)) rfl, Only.setCells (fun h => absurd h hkn) _ _ _ (unhide QA)⟩
              · skip
                go_simp
                refine hK.out _ _ ((((Only.refl (fun _ => False) wy).alloc _).drew)) (fun hHeld => ?_)
                clear hK K
                try simp only [Act.put, List.setIfInBounds_toArray, List.set_cons_zero, List.set_cons_succ, List.getElem_toArray, List.getElem_cons_succ, List.getElem_cons_zero]
                rw [← unhide HEK, ← unhide HEY]
                refine wpAnyH_ready (rs := [2]) (by kernel_rfl) (by simp) ?_
                refine AllReadyH.cons rfl (fun K hK => ?_) AllReadyH.nil
                go_simp
                go_wp2_with fail; refine (unhide P5 _).mono ?_; rintro e wx ⟨rfl, hwx⟩; rw [hwx]; clear hwx wx
                refine hK.out _ _ ((unhide QA)) (fun hHeld => ?_)
                clear hK K
                try simp only [Act.put, List.setIfInBounds_toArray, List.set_cons_zero, List.set_cons_succ, List.getElem_toArray, List.getElem_cons_succ, List.getElem_cons_zero]
                refine wpAnyH_take (i := 3) (v := ?v83) rfl (by kernel_rfl) (by kernel_rfl) (by kernel_rfl) (fun _ _ _ h => h) (Or.inl ⟨by rfl, ?hy83⟩) (by assumption) ?rest83
                case hy83 =>
                  intro w hSw
                  (go_simp; rw [unhide W3]; try with_reducible rfl)
                try simp only [Act.put, List.setIfInBounds_toArray, List.set_cons_zero, List.set_cons_succ, List.getElem_toArray, List.getElem_cons_succ, List.getElem_cons_zero]
                refine wpAnyH_ready (rs := [6]) (by kernel_rfl) (by simp) ?_
                refine AllReadyH.cons rfl (fun K hK => ?_) AllReadyH.nil
                go_simp
                go_wp2_with fail; refine (unhide PI _).mono ?_; rintro e wx ⟨rfl, hwx⟩; rw [hwx]; clear hwx wx
                refine hK.out _ _ ((unhide QA)) (fun hHeld => ?_)
                clear hK K
                try simp only [Act.put, List.setIfInBounds_toArray, List.set_cons_zero, List.set_cons_succ, List.getElem_toArray, List.getElem_cons_succ, List.getElem_cons_zero]
                refine wpAnyH_take (i := 7) (v := ?v84) rfl (by kernel_rfl) (by kernel_rfl) (by kernel_rfl) (fun _ _ _ h => h) (Or.inl ⟨by rfl, ?hy84⟩) (by assumption) ?rest84
                case hy84 =>
                  intro w hSw
                  go_simp
                  try with_reducible rfl
                try simp only [Act.put, List.setIfInBounds_toArray, List.set_cons_zero, List.set_cons_succ, List.getElem_toArray, List.getElem_cons_succ, List.getElem_cons_zero]
                refine wpAnyH_ready (rs := [9]) (by kernel_rfl) (by simp) ?_
                refine AllReadyH.cons rfl (fun K hK => ?_) AllReadyH.nil
                refine step_store_mid rfl 67 (.tmp 9) (.tmp 117) rfl kb 0 #[.int .i64 (101 + y.a % 5), .string (str (hId y.b))] rfl rfl (unhide HTH) Tryd.sizeLinkH (onek _ _) ?_
                refine hK.out _ _ ((Only.setCells (fun h => absurd h hkn) _ _ _ (unhide QA))) (fun hHeld => ?_)
                clear hK K
                try simp only [Act.put, List.setIfInBounds_toArray, List.set_cons_zero, List.set_cons_succ, List.getElem_toArray, List.getElem_cons_succ, List.getElem_cons_zero]
                refine wpAnyH_done (by kernel_rfl) ?_ _
                go_step
                go_step
                go_meet
                case rel => exact ⟨kb, rfl, setCells_bx (unhide BA) (kcells (101 + y.a % 5, hId y.b)) rfl, Only.setCells (fun h => absurd h hkn) _ _ _ (unhide QA)⟩
          case rest =>
            as_aux_lemma =>
              rename World => wq
              obtain ⟨kb, rfl, HBL, OQ⟩ := hcut
              obtain ⟨K, hK⟩ : ∃ K, K = (101 + y.a % 5, hId y.b) := ⟨_, rfl⟩
              rw [← hK] at HBL HS
              clear hK
              have UQ := hide ((unhide UY).same (unhide OQ))
              obtain ⟨lo, lc, elv, hlc, hlm⟩ := (unhide UQ).hasK.shape
              subst elv
              obtain ⟨n, hn⟩ : ∃ n, n = o.links.length := ⟨_, rfl⟩
              have HN := hide hn
              have hnz : (n : Int) < 9223372036854775808 := by rw [← hn] at hlc; unfold maxLen at hlm; omega
              have c30 := (unhide UQ).box.cell 30 _ (cell_links o _ _ _ _ (unhide HOK).ten)
              rw [← hn] at c30
              have HC30 := hide c30
              clear hlc hlm hn
              go_wp2
              go_loopw [10, 11] (fun t j wv => ∃ i : Nat, i ≤ n ∧ j = .int .i64 i ∧ t = .bool (memB K (o.links.take i)) ∧ Hid (Only (fun _ => False) wq wv)) (fun _ j _ => n - (intOf j).toNat)
              case atStart => exact ⟨0, Nat.zero_le _, rfl, rfl, Only.refl _ _⟩
              case round =>
                rename World => wv
                obtain ⟨i, hin, rfl, rfl, OV⟩ := hrel
                have c30v := (unhide OV).cell (unhide HC30) (fun e => e)
                have UV := hide ((unhide UQ).same (unhide OV))
                clear c30
                by_cases hlt : i < n
                case neg =>
                  obtain rfl : i = n := by omega
                  rw [show o.links.take i = o.links from List.take_of_length_le (by have := unhide HN; omega)]
                  have d0 := ((unhide HBL).same (unhide OV)).cell 0 _ rfl
                  have d1 := ((unhide HBL).same (unhide OV)).cell 1 _ rfl
                  cases hb : memB K o.links with
                  | true =>
                    have HSF : Hid (addN 1000 o.links K = o.links) := by show addN _ _ _ = _; unfold addN; rw [if_pos hb]
                    clear hb
                    go_wp2
                    go_roundw
                    case rel => exact ⟨k + 1, by omega, by omega, by go_num, by show ∃ nv lv cv, _; rw [unhide HNX, unhide HS]; exact ⟨_, _, _, by rw [unhide HSF]; exact unhide UV⟩⟩
                    case measure => simp [intOf]; omega
                  | false =>
                    have HB := hide hb
                    clear hb
                    have HSF : Hid (addN 1000 o.links K = o.links ++ [K]) := by show addN _ _ _ = _; unfold addN; rw [if_neg (by rw [unhide HB]; decide), if_pos (by have := (unhide HOK).kn; omega)]
                    obtain ⟨x4, g, uo, uc, x5, e4, eg, hrun, hbx, UP⟩ := (unhide UV).appK (unhide HOK).ten (by have := (unhide HOK).kn; omega) K
                    have cb := (unhide UV).box.cell 30 _ (cell_links o _ _ _ _ (unhide HOK).ten)
                    have cb5 := hbx.cell 30 _ (cell_links o _ _ _ _ (unhide HOK).ten)
                    have fb5 := hbx.free 30
                    have HE4 := hide e4
                    have HEG := hide eg
                    have HRUN := hide hrun
                    have HUP := hide UP
                    clear e4 eg hrun UP hbx
                    rw [← unhide HN] at cb cb5 HRUN HUP
                    obtain ⟨K1, K2⟩ := K
                    go_wp2_with (first | (at_builtin; rw [← unhide HE4, ← unhide HEG]; refine wpList_app rfl (.tmp 138) (.tmp 140) 27 rfl (.slice lo i lc) (.slice (some ⟨g, 0, none⟩) 1 1) _ x5 rfl rfl (unhide HRUN) ?_))
                    go_roundw
                    case rel => exact ⟨k + 1, by omega, by omega, by go_num, by show ∃ nv lv cv, _; rw [unhide HNX, unhide HS]; exact ⟨_, _, _, by rw [unhide HSF]; exact unhide HUP⟩⟩
                    case measure => simp [intOf]; omega
                case pos =>
                  have hiu : i < o.links.length := by have := unhide HN; omega
                  have hiz : (i : Int) < (n : Int) := by omega
                  have HM := hide (mem_take_succ o.links i hiu K)
                  cases hf : memB K (o.links.take i) with
                  | true =>
                    have HF : Hid (memB K (o.links.take (i + 1)) = true) := memB_true ((unhide HM).2 (Or.inl (memB_iff.1 hf)))
                    clear hf
                    go_wp2_with fail
                    go_quiet (fail)
                    go_wp2
                    go_roundw
                    case rel => exact ⟨i + 1, by omega, by go_num, by rw [unhide HF], (unhide OV).drewN _⟩
                    case measure => simp [intOf]; omega
                  | false =>
                    obtain ⟨z, hz⟩ : ∃ z, z = o.links[i] := ⟨_, rfl⟩
                    have HF : Hid (memB K (o.links.take (i + 1)) = decide (z = K)) := by
                      have h0 := memB_not.1 hf
                      by_cases he : z = K
                      · rw [decide_eq_true he]; exact memB_true ((unhide HM).2 (Or.inr (by rw [← hz, he])))
                      · rw [decide_eq_false he]; exact memB_false (fun h => by rcases (unhide HM).1 h with h1 | h1; exact h0 h1; exact he (by rw [hz, ← h1]))
                    have hHK := (unhide UV).hasK
                    have hn2 := unhide HN
                    rw [← hn2] at hHK
                    obtain ⟨ab, ao, rfl, hab, hat⟩ := hHK.at (by omega)
                    have r := hat i z (by rw [List.getElem?_eq_getElem hiu, hz])
                    have z0 := range_at r 0 _ rfl
                    have z1 := range_at r 1 _ rfl
                    rw [Nat.add_zero] at z0
                    have d0 := ((unhide HBL).same (unhide OV)).cell 0 _ rfl
                    have d1 := ((unhide HBL).same (unhide OV)).cell 1 _ rfl
                    have hs2 := str_beq z.2 K.2
                    clear hf hz hat r hab hHK hn2 HM hiu
                    obtain ⟨K1, K2⟩ := K
                    obtain ⟨z1_, z2_⟩ := z
                    simp only at z0 z1 d0 d1 hs2
                    have HP : Hid (decide ((z1_, z2_) = (K1, K2)) = (decide (z1_ = K1) && decide (z2_ = K2))) := by show decide _ = _; by_cases h1 : z1_ = K1 <;> by_cases h2 : z2_ = K2 <;> simp [h1, h2]
                    rw [unhide HP] at HF
                    have hs1 : (z1_ == K1) = decide (z1_ = K1) := rfl
                    generalize decide (z1_ = K1) = B1 at *
                    generalize decide (z2_ = K2) = B2 at *
                    generalize str z2_ = Z2 at *
                    generalize str K2 = S2 at *
                    cases B1 <;> cases B2
                    all_goals
                      go_wp2_with fail
                      go_quiet (fail)
                      go_wp2
                      go_roundw
                      case rel => exact ⟨i + 1, by omega, by go_num, by rw [unhide HF]; rfl, (unhide OV).drewN _⟩
                      case measure => simp [intOf]; omega
      · as_aux_lemma =>
          obtain ⟨r, hr⟩ : ∃ r : Int, r = y.a % 50 := ⟨_, rfl⟩
          have hr0 : 0 ≤ r := by omega
          have hr1 : r < 50 := by omega
          have P50 := hide (fun W => pick_any y.a 50 W (by decide) (by decide))
          have P2 := hide (fun W => pick_any y.c 2 W (by decide) (by decide))
          rw [← hr] at P50
          have PB := hide (fun W => pick_any y.b (2 + r) W (by omega) (by omega))
          have HS : Hid (hStep o y = { o with lh := true, lt := 1 + r, lc := 1 + r - y.b % (2 + r), lu := 1 + y.c % 2 }) := by show hStep o y = _; unfold hStep; rw [unhide HQ, hr]; rfl
          clear hr
          have hq0 := Int.emod_nonneg y.b (show (2 + r) ≠ 0 by omega)
          have hq1 := Int.emod_lt_of_pos y.b (show 0 < 2 + r by omega)
          obtain ⟨p, hp⟩ : ∃ p, p = y.b % (2 + r) := ⟨_, rfl⟩
          rw [← hp] at PB HS hq0 hq1
          clear hp
          have W1 : Hid (IntKind.i64.wrap (1 + r) = 1 + r) := wr64 _ (by omega) (by omega)
          have W2 : Hid (IntKind.i64.wrap (1 + r + 1) = 2 + r) := by show IntKind.i64.wrap _ = _; rw [show 1 + r + 1 = 2 + r by omega]; exact wr64 _ (by omega) (by omega)
          have W3 : Hid (IntKind.i64.wrap (1 + r - p) = 1 + r - p) := wr64 _ (by omega) (by omega)
          have W4 : Hid (IntKind.i64.wrap (1 + y.c % 2) = 1 + y.c % 2) := wr64 _ (by omega) (by omega)
          have y1 := unhide Y1
          go_wp2_with fail
          refine (unhide P50 _).mono ?_
          rintro e wx ⟨rfl, hwx⟩
          rw [hwx]
          clear hwx wx
          have w1_ := unhide W1
          go_upto_region 28 with fail
          clear w1_ y1
          have Q := hide ((Only.refl (fun j => j = ka) wy).drew)
          have UD := hide ((unhide UY).same (Only.refl _ _).drew)
          have HTH : Hid (wy.drew.there ka 32 (#[Value.bool true, .int .i64 (1 + r), .int .i64 (1 + r - p), .int .i64 (1 + y.c % 2)] : Array Value).size) := (unhide UD).there (unhide HOK).ten 32 4 (by omega)
          refine wp_region_held_drew (S := (fun w' => Only (fun j => j = ka) wy w')) (by kernel_rfl) ((Only.refl _ _).drew) (fun hHeld => ?_)
          refine wpAnyH_take (i := 0) (v := ?v85) rfl (by kernel_rfl) (by kernel_rfl) (by kernel_rfl) (fun _ _ _ h => h) (Or.inl ⟨by rfl, ?hy85⟩) (by assumption) ?rest85
          case hy85 =>
            intro w hSw
            go_simp
            try with_reducible rfl
          try simp only [Act.put, List.setIfInBounds_toArray, List.set_cons_zero, List.set_cons_succ, List.getElem_toArray, List.getElem_cons_succ, List.getElem_cons_zero]
          refine wpAnyH_take (i := 1) (v := ?v86) rfl (by kernel_rfl) (by kernel_rfl) (by kernel_rfl) (fun _ _ _ h => h) (Or.inl ⟨by rfl, ?hy86⟩) (by assumption) ?rest86
          case hy86 =>
            intro w hSw
            go_simp
            try with_reducible rfl
          try simp only [Act.put, List.setIfInBounds_toArray, List.set_cons_zero, List.set_cons_succ, List.getElem_toArray, List.getElem_cons_succ, List.getElem_cons_zero]
          refine wpAnyH_take (i := 2) (v := ?v87) rfl (by kernel_rfl) (by kernel_rfl) (by kernel_rfl) (fun _ _ _ h => h) (Or.inl ⟨by rfl, ?hy87⟩) (by assumption) ?rest87
          case hy87 =>
            intro w hSw
            go_simp
            try with_reducible rfl
          try simp only [Act.put, List.setIfInBounds_toArray, List.set_cons_zero, List.set_cons_succ, List.getElem_toArray, List.getElem_cons_succ, List.getElem_cons_zero]
          refine wpAnyH_take (i := 3) (v := ?v88) rfl (by kernel_rfl) (by kernel_rfl) (by kernel_rfl) (fun _ _ _ h => h) (Or.inl ⟨by rfl, ?hy88⟩) (by assumption) ?rest88
          case hy88 =>
            intro w hSw
            (have q := hSw.cell (unhide Y2) (hyk); go_simp; try with_reducible rfl)
          try simp only [Act.put, List.setIfInBounds_toArray, List.set_cons_zero, List.set_cons_succ, List.getElem_toArray, List.getElem_cons_succ, List.getElem_cons_zero]
          refine wpAnyH_take (i := 4) (v := ?v89) rfl (by kernel_rfl) (by kernel_rfl) (by kernel_rfl) (fun _ _ _ h => h) (Or.inl ⟨by rfl, ?hy89⟩) (by assumption) ?rest89
          case hy89 =>
            intro w hSw
            go_simp
            try with_reducible rfl
          try simp only [Act.put, List.setIfInBounds_toArray, List.set_cons_zero, List.set_cons_succ, List.getElem_toArray, List.getElem_cons_succ, List.getElem_cons_zero]
          refine wpAnyH_take (i := 5) (v := ?v90) rfl (by kernel_rfl) (by kernel_rfl) (by kernel_rfl) (fun _ _ _ h => h) (Or.inl ⟨by rfl, ?hy90⟩) (by assumption) ?rest90
          case hy90 =>
            intro w hSw
            (go_simp; try rw [unhide W2]; try with_reducible rfl)
          try simp only [Act.put, List.setIfInBounds_toArray, List.set_cons_zero, List.set_cons_succ, List.getElem_toArray, List.getElem_cons_succ, List.getElem_cons_zero]
          refine wpAnyH_take (i := 8) (v := ?v91) rfl (by kernel_rfl) (by kernel_rfl) (by kernel_rfl) (fun _ _ _ h => h) (Or.inl ⟨by rfl, ?hy91⟩) (by assumption) ?rest91
          case hy91 =>
            intro w hSw
            go_simp
            try with_reducible rfl
          try simp only [Act.put, List.setIfInBounds_toArray, List.set_cons_zero, List.set_cons_succ, List.getElem_toArray, List.getElem_cons_succ, List.getElem_cons_zero]
          refine wpAnyH_take (i := 9) (v := ?v92) rfl (by kernel_rfl) (by kernel_rfl) (by kernel_rfl) (fun _ _ _ h => h) (Or.inl ⟨by rfl, ?hy92⟩) (by assumption) ?rest92
          case hy92 =>
            intro w hSw
            (have q := hSw.cell (unhide Y3) (hyk); go_simp; try with_reducible rfl)
          try simp only [Act.put, List.setIfInBounds_toArray, List.set_cons_zero, List.set_cons_succ, List.getElem_toArray, List.getElem_cons_succ, List.getElem_cons_zero]
          refine wpAnyH_ready (rs := [6]) (by kernel_rfl) (by simp) ?_
          refine AllReadyH.cons rfl (fun K hK => ?_) AllReadyH.nil
          go_simp
          go_wp2_with fail; refine (unhide PB _).mono ?_; rintro e wx ⟨rfl, hwx⟩; rw [hwx]; clear hwx wx
          refine hK.out _ _ ((unhide Q)) (fun hHeld => ?_)
          clear hK K
          try simp only [Act.put, List.setIfInBounds_toArray, List.set_cons_zero, List.set_cons_succ, List.getElem_toArray, List.getElem_cons_succ, List.getElem_cons_zero]
          refine wpAnyH_take (i := 7) (v := ?v93) rfl (by kernel_rfl) (by kernel_rfl) (by kernel_rfl) (fun _ _ _ h => h) (Or.inl ⟨by rfl, ?hy93⟩) (by assumption) ?rest93
          case hy93 =>
            intro w hSw
            (go_simp; try rw [unhide W3]; try with_reducible rfl)
          try simp only [Act.put, List.setIfInBounds_toArray, List.set_cons_zero, List.set_cons_succ, List.getElem_toArray, List.getElem_cons_succ, List.getElem_cons_zero]
          refine wpAnyH_ready (rs := [10]) (by kernel_rfl) (by simp) ?_
          refine AllReadyH.cons rfl (fun K hK => ?_) AllReadyH.nil
          go_simp
          go_wp2_with fail; refine (unhide P2 _).mono ?_; rintro e wx ⟨rfl, hwx⟩; rw [hwx]; clear hwx wx
          refine hK.out _ _ ((unhide Q)) (fun hHeld => ?_)
          clear hK K
          try simp only [Act.put, List.setIfInBounds_toArray, List.set_cons_zero, List.set_cons_succ, List.getElem_toArray, List.getElem_cons_succ, List.getElem_cons_zero]
          refine wpAnyH_take (i := 11) (v := ?v94) rfl (by kernel_rfl) (by kernel_rfl) (by kernel_rfl) (fun _ _ _ h => h) (Or.inl ⟨by rfl, ?hy94⟩) (by assumption) ?rest94
          case hy94 =>
            intro w hSw
            (go_simp; try rw [unhide W4]; try with_reducible rfl)
          try simp only [Act.put, List.setIfInBounds_toArray, List.set_cons_zero, List.set_cons_succ, List.getElem_toArray, List.getElem_cons_succ, List.getElem_cons_zero]
          refine wpAnyH_take (i := 12) (v := ?v95) rfl (by kernel_rfl) (by kernel_rfl) (by kernel_rfl) (fun _ _ _ h => h) (Or.inl ⟨by rfl, ?hy95⟩) (by assumption) ?rest95
          case hy95 =>
            intro w hSw
            go_simp
            try with_reducible rfl
          try simp only [Act.put, List.setIfInBounds_toArray, List.set_cons_zero, List.set_cons_succ, List.getElem_toArray, List.getElem_cons_succ, List.getElem_cons_zero]
          refine wpAnyH_take (i := 13) (v := ?v96) rfl (by kernel_rfl) (by kernel_rfl) (by kernel_rfl) (fun _ _ _ h => h) (Or.inl ⟨by rfl, ?hy96⟩) (by assumption) ?rest96
          case hy96 =>
            intro w hSw
            go_simp
            try with_reducible rfl
          try simp only [Act.put, List.setIfInBounds_toArray, List.set_cons_zero, List.set_cons_succ, List.getElem_toArray, List.getElem_cons_succ, List.getElem_cons_zero]
          refine wpAnyH_ready (rs := [14]) (by kernel_rfl) (by simp) ?_
          refine AllReadyH.cons rfl (fun K hK => ?_) AllReadyH.nil
          refine step_store_mid rfl 30 (.tmp 162) (.tmp 161) rfl ka 32 #[.bool true, .int .i64 (1 + r), .int .i64 (1 + r - p), .int .i64 (1 + y.c % 2)] rfl rfl (unhide HTH) Tryd.sizeLimH (one4 _ _ _ _) ?_
          refine hK.out _ _ ((Only.setCells (S := fun j => j = ka) (fun _ => rfl) _ _ _ (unhide Q))) (fun hHeld => ?_)
          clear hK K
          try simp only [Act.put, List.setIfInBounds_toArray, List.set_cons_zero, List.set_cons_succ, List.getElem_toArray, List.getElem_cons_succ, List.getElem_cons_zero]
          refine wpAnyH_done (by kernel_rfl) ?_ _
          go_wp2
          go_roundw
          case rel => exact ⟨k + 1, by omega, by omega, by go_num, by show ∃ nv lv cv, _; rw [unhide HNX, unhide HS]; exact ⟨_, _, _, (unhide UD).sets 32 _ _ (set_lim o _ _ _ _ (unhide HOK).ten true _ _ _) rfl rfl rfl rfl⟩⟩
          case measure => simp [intOf]; omega
      · as_aux_lemma =>
          obtain ⟨s1, hs1⟩ : ∃ s, s = at0 hCust [] (y.a % 2) := ⟨_, rfl⟩
          obtain ⟨s2, hs2⟩ : ∃ s, s = at0 hNames [] (y.b % 4) := ⟨_, rfl⟩
          have HS : Hid (hStep o y = { o with custom := addN 6 o.custom (s1, s2) }) := by show hStep o y = _; unfold hStep; rw [unhide HQ, hs1, hs2]; rfl
          have IA : Hid (∀ W, (Instr.index 68 (.agg #[.string ⟨#[120, 45, 97]⟩, .string ⟨#[120, 45, 98]⟩]) (.int .i64 (y.a % 2))).run Tryd.prog W = .ok (.string (str s1)) W) := fun W => by rw [hs1]; exact index_str 68 2 hCust (y.a % 2) W Tryd.under2s rfl (Int.emod_nonneg _ (by decide)) (Int.emod_lt_of_pos _ (by decide))
          have IB : Hid (∀ W, (Instr.index 69 (.agg #[.string ⟨#[111, 110, 101]⟩, .string ⟨#[116, 119, 111]⟩, .string ⟨#[116, 104, 114, 101, 101]⟩, .string ⟨#[102, 111, 117, 114]⟩]) (.int .i64 (y.b % 4))).run Tryd.prog W = .ok (.string (str s2)) W) := fun W => by rw [hs2, show at0 hNames [] (y.b % 4) = at0 (hNames.take 4) [] (y.b % 4) from at0_take _ ⟨Int.emod_nonneg _ (by decide), Int.emod_lt_of_pos _ (by decide)⟩]; exact index_str 69 4 (hNames.take 4) (y.b % 4) W Tryd.under4s rfl (Int.emod_nonneg _ (by decide)) (Int.emod_lt_of_pos _ (by decide))
          have P2 := hide (fun W => pick_any y.a 2 W (by decide) (by decide))
          have P4 := hide (fun W => pick_any y.b 4 W (by decide) (by decide))
          clear hs1 hs2
          go_upto_region 30 with fail
          go_cut [13] (fun p wx => ∃ kb, p = .pointer (some ⟨kb, 0, none⟩) ∧ Hid (Bx wx kb 71 (ccells (s1, s2))) ∧ Hid (Only (fun _ => False) wy wx))
          case first =>
            as_aux_lemma =>
              obtain ⟨ya, kb, eya, ekb, BA0, oa0, -⟩ := boxed wy #[.string ⟨#[]⟩, .string ⟨#[]⟩] 71
              have Q := hide ((Only.refl (fun _ => False) wy).drew)
              have BA : Hid (Bx ya.drew kb 71 #[.string ⟨#[]⟩, .string ⟨#[]⟩].toList) := BA0.same ((Only.refl _ _).drew)
              have QA := hide (oa0.drew)
              have HTH : Hid (ya.drew.there kb 0 (#[.string (str s1), .string (str s2)] : Array Value).size) := bx_there (unhide BA) _ rfl
              have hkn : ¬ kb < wy.heap.size := by omega
              have HEY := hide eya
              have HEK := hide ekb
              clear eya ekb BA0 oa0
              refine wp_region_held_drew (S := (fun w' => Only (fun _ => False) wy w')) (by kernel_rfl) ((Only.refl _ _).drew) (fun hHeld => ?_)
              refine wpAnyH_take (i := 0) (v := ?v97) rfl (by kernel_rfl) (by kernel_rfl) (by kernel_rfl) (fun _ _ _ h => h) (Or.inl ⟨by rfl, ?hy97⟩) (by assumption) ?rest97
              case hy97 =>
                intro w hSw
                go_simp
                try with_reducible rfl
              try simp only [Act.put, List.setIfInBounds_toArray, List.set_cons_zero, List.set_cons_succ, List.getElem_toArray, List.getElem_cons_succ, List.getElem_cons_zero]
              refine wpAnyH_take (i := 1) (v := ?v98) rfl (by kernel_rfl) (by kernel_rfl) (by kernel_rfl) (fun _ _ _ h => h) (Or.inl ⟨by rfl, ?hy98⟩) (by assumption) ?rest98
              case hy98 =>
                intro w hSw
                go_simp
                try with_reducible rfl
              try simp only [Act.put, List.setIfInBounds_toArray, List.set_cons_zero, List.set_cons_succ, List.getElem_toArray, List.getElem_cons_succ, List.getElem_cons_zero]
              refine wpAnyH_take (i := 2) (v := ?v99) rfl (by kernel_rfl) (by kernel_rfl) (by kernel_rfl) (fun _ _ _ h => h) (Or.inl ⟨by rfl, ?hy99⟩) (by assumption) ?rest99
              case hy99 =>
                intro w hSw
                (have q := hSw.cell (unhide Y1) (fun e => e); go_simp; try with_reducible rfl)
              try simp only [Act.put, List.setIfInBounds_toArray, List.set_cons_zero, List.set_cons_succ, List.getElem_toArray, List.getElem_cons_succ, List.getElem_cons_zero]
              refine wpAnyH_take (i := 5) (v := ?v100) rfl (by kernel_rfl) (by kernel_rfl) (by kernel_rfl) (fun _ _ _ h => h) (Or.inl ⟨by rfl, ?hy100⟩) (by assumption) ?rest100
              case hy100 =>
                intro w hSw
                go_simp
                try with_reducible rfl
              try simp only [Act.put, List.setIfInBounds_toArray, List.set_cons_zero, List.set_cons_succ, List.getElem_toArray, List.getElem_cons_succ, List.getElem_cons_zero]
              refine wpAnyH_take (i := 6) (v := ?v101) rfl (by kernel_rfl) (by kernel_rfl) (by kernel_rfl) (fun _ _ _ h => h) (Or.inl ⟨by rfl, ?hy101⟩) (by assumption) ?rest101
              case hy101 =>
                intro w hSw
                go_simp
                try with_reducible rfl
              try simp only [Act.put, List.setIfInBounds_toArray, List.set_cons_zero, List.set_cons_succ, List.getElem_toArray, List.getElem_cons_succ, List.getElem_cons_zero]
              refine wpAnyH_take (i := 7) (v := ?v102) rfl (by kernel_rfl) (by kernel_rfl) (by kernel_rfl) (fun _ _ _ h => h) (Or.inl ⟨by rfl, ?hy102⟩) (by assumption) ?rest102
              case hy102 =>
                intro w hSw
                (have q := hSw.cell (unhide Y2) (fun e => e); go_simp; try with_reducible rfl)
              try simp only [Act.put, List.setIfInBounds_toArray, List.set_cons_zero, List.set_cons_succ, List.getElem_toArray, List.getElem_cons_succ, List.getElem_cons_zero]
              refine wpAnyH_ready (rs := [3, 11]) (by kernel_rfl) (by simp) ?_
              refine (AllReadyH.cons rfl (fun K hK => ?_) (AllReadyH.cons rfl (fun K hK => ?_) AllReadyH.nil))
              · skip
                go_simp
                go_wp2_with fail; refine (unhide P2 _).mono ?_; rintro e wx ⟨rfl, hwx⟩; rw [hwx]; clear hwx wx
                refine hK.out _ _ ((unhide Q)) (fun hHeld => ?_)
                clear hK K
                try simp only [Act.put, List.setIfInBounds_toArray, List.set_cons_zero, List.set_cons_succ, List.getElem_toArray, List.getElem_cons_succ, List.getElem_cons_zero]
                refine wpAnyH_take (i := 4) (v := ?v103) rfl (by kernel_rfl) (by kernel_rfl) (by kernel_rfl) (fun _ _ _ h => h) (Or.inl ⟨by rfl, ?hy103⟩) (by assumption) ?rest103
                case hy103 =>
                  intro w hSw
                  (have q := unhide IA w; go_simp; try with_reducible rfl)
                try simp only [Act.put, List.setIfInBounds_toArray, List.set_cons_zero, List.set_cons_succ, List.getElem_toArray, List.getElem_cons_succ, List.getElem_cons_zero]
                refine wpAnyH_ready (rs := [8, 11]) (by kernel_rfl) (by simp) ?_
                refine (AllReadyH.cons rfl (fun K hK => ?_) (AllReadyH.cons rfl (fun K hK => ?_) AllReadyH.nil))
                · skip
                  go_simp
                  go_wp2_with fail; refine (unhide P4 _).mono ?_; rintro e wx ⟨rfl, hwx⟩; rw [hwx]; clear hwx wx
                  refine hK.out _ _ ((unhide Q)) (fun hHeld => ?_)
                  clear hK K
                  try simp only [Act.put, List.setIfInBounds_toArray, List.set_cons_zero, List.set_cons_succ, List.getElem_toArray, List.getElem_cons_succ, List.getElem_cons_zero]
                  refine wpAnyH_take (i := 9) (v := ?v104) rfl (by kernel_rfl) (by kernel_rfl) (by kernel_rfl) (fun _ _ _ h => h) (Or.inl ⟨by rfl, ?hy104⟩) (by assumption) ?rest104
                  case hy104 =>
                    intro w hSw
                    (have q := unhide IB w; go_simp; try with_reducible rfl)
                  try simp only [Act.put, List.setIfInBounds_toArray, List.set_cons_zero, List.set_cons_succ, List.getElem_toArray, List.getElem_cons_succ, List.getElem_cons_zero]
                  refine wpAnyH_take (i := 10) (v := ?v105) rfl (by kernel_rfl) (by kernel_rfl) (by kernel_rfl) (fun _ _ _ h => h) (Or.inl ⟨by rfl, ?hy105⟩) (by assumption) ?rest105
                  case hy105 =>
                    intro w hSw
                    go_simp
                    try with_reducible rfl
                  try simp only [Act.put, List.setIfInBounds_toArray, List.set_cons_zero, List.set_cons_succ, List.getElem_toArray, List.getElem_cons_succ, List.getElem_cons_zero]
                  refine wpAnyH_ready (rs := [11]) (by kernel_rfl) (by simp) ?_
                  refine AllReadyH.cons rfl (fun K hK => ?_) AllReadyH.nil
                  go_simp
                  refine hK.out _ _ ((((Only.refl (fun _ => False) wy).alloc _).drew)) (fun hHeld => ?_)
                  clear hK K
                  try simp only [Act.put, List.setIfInBounds_toArray, List.set_cons_zero, List.set_cons_succ, List.getElem_toArray, List.getElem_cons_succ, List.getElem_cons_zero]
                  rw [← unhide HEK, ← unhide HEY]
                  refine wpAnyH_ready (rs := [12]) (by kernel_rfl) (by simp) ?_
                  refine AllReadyH.cons rfl (fun K hK => ?_) AllReadyH.nil
                  refine step_store_mid rfl 71 (.tmp 13) (.tmp 175) rfl kb 0 #[.string (str s1), .string (str s2)] rfl rfl (unhide HTH) Tryd.sizeCustH (onec _ _) ?_
                  refine hK.out _ _ ((Only.setCells (fun h => absurd h hkn) _ _ _ (unhide QA))) (fun hHeld => ?_)
                  clear hK K
                  try simp only [Act.put, List.setIfInBounds_toArray, List.set_cons_zero, List.set_cons_succ, List.getElem_toArray, List.getElem_cons_succ, List.getElem_cons_zero]
                  refine wpAnyH_done (by kernel_rfl) ?_ _
                  go_step
                  go_step
                  go_meet
                  case rel => exact ⟨kb, rfl, setCells_bx (unhide BA) (ccells (s1, s2)) rfl, Only.setCells (fun h => absurd h hkn) _ _ _ (unhide QA)⟩
                · skip
                  go_simp
                  refine hK.out _ _ ((((Only.refl (fun _ => False) wy).alloc _).drew)) (fun hHeld => ?_)
                  clear hK K
                  try simp only [Act.put, List.setIfInBounds_toArray, List.set_cons_zero, List.set_cons_succ, List.getElem_toArray, List.getElem_cons_succ, List.getElem_cons_zero]
                  rw [← unhide HEK, ← unhide HEY]
                  refine wpAnyH_ready (rs := [8]) (by kernel_rfl) (by simp) ?_
                  refine AllReadyH.cons rfl (fun K hK => ?_) AllReadyH.nil
                  go_simp
                  go_wp2_with fail; refine (unhide P4 _).mono ?_; rintro e wx ⟨rfl, hwx⟩; rw [hwx]; clear hwx wx
                  refine hK.out _ _ ((unhide QA)) (fun hHeld => ?_)
                  clear hK K
                  try simp only [Act.put, List.setIfInBounds_toArray, List.set_cons_zero, List.set_cons_succ, List.getElem_toArray, List.getElem_cons_succ, List.getElem_cons_zero]
                  refine wpAnyH_take (i := 9) (v := ?v106) rfl (by kernel_rfl) (by kernel_rfl) (by kernel_rfl) (fun _ _ _ h => h) (Or.inl ⟨by rfl, ?hy106⟩) (by assumption) ?rest106
                  case hy106 =>
                    intro w hSw
                    (have q := unhide IB w; go_simp; try with_reducible rfl)
                  try simp only [Act.put, List.setIfInBounds_toArray, List.set_cons_zero, List.set_cons_succ, List.getElem_toArray, List.getElem_cons_succ, List.getElem_cons_zero]
                  refine wpAnyH_take (i := 10) (v := ?v107) rfl (by kernel_rfl) (by kernel_rfl) (by kernel_rfl) (fun _ _ _ h => h) (Or.inl ⟨by rfl, ?hy107⟩) (by assumption) ?rest107
                  case hy107 =>
                    intro w hSw
                    go_simp
                    try with_reducible rfl
                  try simp only [Act.put, List.setIfInBounds_toArray, List.set_cons_zero, List.set_cons_succ, List.getElem_toArray, List.getElem_cons_succ, List.getElem_cons_zero]
                  refine wpAnyH_ready (rs := [12]) (by kernel_rfl) (by simp) ?_
                  refine AllReadyH.cons rfl (fun K hK => ?_) AllReadyH.nil
                  refine step_store_mid rfl 71 (.tmp 13) (.tmp 175) rfl kb 0 #[.string (str s1), .string (str s2)] rfl rfl (unhide HTH) Tryd.sizeCustH (onec _ _) ?_
                  refine hK.out _ _ ((Only.setCells (fun h => absurd h hkn) _ _ _ (unhide QA))) (fun hHeld => ?_)
                  clear hK K
                  try simp only [Act.put, List.setIfInBounds_toArray, List.set_cons_zero, List.set_cons_succ, List.getElem_toArray, List.getElem_cons_succ, List.getElem_cons_zero]
                  refine wpAnyH_done (by kernel_rfl) ?_ _
                  go_step
                  go_step
                  go_meet
                  case rel => exact ⟨kb, rfl, setCells_bx (unhide BA) (ccells (s1, s2)) rfl, Only.setCells (fun h => absurd h hkn) _ _ _ (unhide QA)⟩
              · skip
                go_simp
                refine hK.out _ _ ((((Only.refl (fun _ => False) wy).alloc _).drew)) (fun hHeld => ?_)
                clear hK K
                try simp only [Act.put, List.setIfInBounds_toArray, List.set_cons_zero, List.set_cons_succ, List.getElem_toArray, List.getElem_cons_succ, List.getElem_cons_zero]
                rw [← unhide HEK, ← unhide HEY]
                refine wpAnyH_ready (rs := [3]) (by kernel_rfl) (by simp) ?_
                refine AllReadyH.cons rfl (fun K hK => ?_) AllReadyH.nil
                go_simp
                go_wp2_with fail; refine (unhide P2 _).mono ?_; rintro e wx ⟨rfl, hwx⟩; rw [hwx]; clear hwx wx
                refine hK.out _ _ ((unhide QA)) (fun hHeld => ?_)
                clear hK K
                try simp only [Act.put, List.setIfInBounds_toArray, List.set_cons_zero, List.set_cons_succ, List.getElem_toArray, List.getElem_cons_succ, List.getElem_cons_zero]
                refine wpAnyH_take (i := 4) (v := ?v108) rfl (by kernel_rfl) (by kernel_rfl) (by kernel_rfl) (fun _ _ _ h => h) (Or.inl ⟨by rfl, ?hy108⟩) (by assumption) ?rest108
                case hy108 =>
                  intro w hSw
                  (have q := unhide IA w; go_simp; try with_reducible rfl)
                try simp only [Act.put, List.setIfInBounds_toArray, List.set_cons_zero, List.set_cons_succ, List.getElem_toArray, List.getElem_cons_succ, List.getElem_cons_zero]
                refine wpAnyH_ready (rs := [8]) (by kernel_rfl) (by simp) ?_
                refine AllReadyH.cons rfl (fun K hK => ?_) AllReadyH.nil
                go_simp
                go_wp2_with fail; refine (unhide P4 _).mono ?_; rintro e wx ⟨rfl, hwx⟩; rw [hwx]; clear hwx wx
                refine hK.out _ _ ((unhide QA)) (fun hHeld => ?_)
                clear hK K
                try simp only [Act.put, List.setIfInBounds_toArray, List.set_cons_zero, List.set_cons_succ, List.getElem_toArray, List.getElem_cons_succ, List.getElem_cons_zero]
                refine wpAnyH_take (i := 9) (v := ?v109) rfl (by kernel_rfl) (by kernel_rfl) (by kernel_rfl) (fun _ _ _ h => h) (Or.inl ⟨by rfl, ?hy109⟩) (by assumption) ?rest109
                case hy109 =>
                  intro w hSw
                  (have q := unhide IB w; go_simp; try with_reducible rfl)
                try simp only [Act.put, List.setIfInBounds_toArray, List.set_cons_zero, List.set_cons_succ, List.getElem_toArray, List.getElem_cons_succ, List.getElem_cons_zero]
                refine wpAnyH_take (i := 10) (v := ?v110) rfl (by kernel_rfl) (by kernel_rfl) (by kernel_rfl) (fun _ _ _ h => h) (Or.inl ⟨by rfl, ?hy110⟩) (by assumption) ?rest110
                case hy110 =>
                  intro w hSw
                  go_simp
                  try with_reducible rfl
                try simp only [Act.put, List.setIfInBounds_toArray, List.set_cons_zero, List.set_cons_succ, List.getElem_toArray, List.getElem_cons_succ, List.getElem_cons_zero]
                refine wpAnyH_ready (rs := [12]) (by kernel_rfl) (by simp) ?_
                refine AllReadyH.cons rfl (fun K hK => ?_) AllReadyH.nil
                refine step_store_mid rfl 71 (.tmp 13) (.tmp 175) rfl kb 0 #[.string (str s1), .string (str s2)] rfl rfl (unhide HTH) Tryd.sizeCustH (onec _ _) ?_
                refine hK.out _ _ ((Only.setCells (fun h => absurd h hkn) _ _ _ (unhide QA))) (fun hHeld => ?_)
                clear hK K
                try simp only [Act.put, List.setIfInBounds_toArray, List.set_cons_zero, List.set_cons_succ, List.getElem_toArray, List.getElem_cons_succ, List.getElem_cons_zero]
                refine wpAnyH_done (by kernel_rfl) ?_ _
                go_step
                go_step
                go_meet
                case rel => exact ⟨kb, rfl, setCells_bx (unhide BA) (ccells (s1, s2)) rfl, Only.setCells (fun h => absurd h hkn) _ _ _ (unhide QA)⟩
          case rest =>
            as_aux_lemma =>
              rename World => wq
              obtain ⟨kb, rfl, HBL, OQ⟩ := hcut
              obtain ⟨K, hK⟩ : ∃ K, K = (s1, s2) := ⟨_, rfl⟩
              rw [← hK] at HBL HS
              clear hK
              have UQ := hide ((unhide UY).same (unhide OQ))
              obtain ⟨lo, lc, elv, hlc, hlm⟩ := (unhide UQ).hasC.shape
              subst elv
              obtain ⟨n, hn⟩ : ∃ n, n = o.custom.length := ⟨_, rfl⟩
              have HN := hide hn
              have hnz : (n : Int) < 9223372036854775808 := by rw [← hn] at hlc; unfold maxLen at hlm; omega
              have c30 := (unhide UQ).box.cell 31 _ (cell_custom o _ _ _ _ (unhide HOK).ten)
              rw [← hn] at c30
              have HC30 := hide c30
              clear hlc hlm hn
              go_wp2
              go_loopw [14, 15] (fun t j wv => ∃ i : Nat, i ≤ n ∧ j = .int .i64 i ∧ t = .bool (memB K (o.custom.take i)) ∧ Hid (Only (fun _ => False) wq wv)) (fun _ j _ => n - (intOf j).toNat)
              case atStart => exact ⟨0, Nat.zero_le _, rfl, rfl, Only.refl _ _⟩
              case round =>
                rename World => wv
                obtain ⟨i, hin, rfl, rfl, OV⟩ := hrel
                have c30v := (unhide OV).cell (unhide HC30) (fun e => e)
                have UV := hide ((unhide UQ).same (unhide OV))
                clear c30
                by_cases hlt : i < n
                case neg =>
                  obtain rfl : i = n := by omega
                  rw [show o.custom.take i = o.custom from List.take_of_length_le (by have := unhide HN; omega)]
                  have d0 := ((unhide HBL).same (unhide OV)).cell 0 _ rfl
                  have d1 := ((unhide HBL).same (unhide OV)).cell 1 _ rfl
                  cases hb : memB K o.custom with
                  | true =>
                    have HSF : Hid (addN 6 o.custom K = o.custom) := by show addN _ _ _ = _; unfold addN; rw [if_pos hb]
                    clear hb
                    go_wp2
                    go_roundw
                    case rel => exact ⟨k + 1, by omega, by omega, by go_num, by show ∃ nv lv cv, _; rw [unhide HNX, unhide HS]; exact ⟨_, _, _, by rw [unhide HSF]; exact unhide UV⟩⟩
                    case measure => simp [intOf]; omega
                  | false =>
                    have HB := hide hb
                    clear hb
                    by_cases h6 : i < 6
                    case neg =>
                      have HSF : Hid (addN 6 o.custom K = o.custom) := by show addN _ _ _ = _; unfold addN; rw [if_neg (by rw [unhide HB]; decide), if_neg (by have := unhide HN; omega)]
                      have h6z : ¬ (i : Int) < 6 := by omega
                      go_wp2
                      go_roundw
                      case rel => exact ⟨k + 1, by omega, by omega, by go_num, by show ∃ nv lv cv, _; rw [unhide HNX, unhide HS]; exact ⟨_, _, _, by rw [unhide HSF]; exact unhide UV⟩⟩
                      case measure => simp [intOf]; omega
                    case pos =>
                      have h6z : (i : Int) < 6 := by omega
                      have HC6 : Hid (o.custom.length < 6) := by show _ < _; have := unhide HN; omega
                      have HSF : Hid (addN 6 o.custom K = o.custom ++ [K]) := by show addN _ _ _ = _; unfold addN; rw [if_neg (by rw [unhide HB]; decide), if_pos (by have := (unhide HOK).cn; exact unhide HC6)]
                      obtain ⟨x4, g, uo, uc, x5, e4, eg, hrun, hbx, UP⟩ := (unhide UV).appC (unhide HOK).ten (by have := (unhide HOK).cn; omega) K
                      have cb := (unhide UV).box.cell 31 _ (cell_custom o _ _ _ _ (unhide HOK).ten)
                      have cb5 := hbx.cell 31 _ (cell_custom o _ _ _ _ (unhide HOK).ten)
                      have fb5 := hbx.free 31
                      have HE4 := hide e4
                      have HEG := hide eg
                      have HRUN := hide hrun
                      have HUP := hide UP
                      clear e4 eg hrun UP hbx
                      rw [← unhide HN] at cb cb5 HRUN HUP
                      obtain ⟨K1, K2⟩ := K
                      go_wp2_with (first | (at_builtin; rw [← unhide HE4, ← unhide HEG]; refine wpList_app rfl (.tmp 202) (.tmp 204) 28 rfl (.slice lo i lc) (.slice (some ⟨g, 0, none⟩) 1 1) _ x5 rfl rfl (unhide HRUN) ?_))
                      go_roundw
                      case rel => exact ⟨k + 1, by omega, by omega, by go_num, by show ∃ nv lv cv, _; rw [unhide HNX, unhide HS]; exact ⟨_, _, _, by rw [unhide HSF]; exact unhide HUP⟩⟩
                      case measure => simp [intOf]; omega
                case pos =>
                  have hiu : i < o.custom.length := by have := unhide HN; omega
                  have hiz : (i : Int) < (n : Int) := by omega
                  have HM := hide (mem_take_succ o.custom i hiu K)
                  cases hf : memB K (o.custom.take i) with
                  | true =>
                    have HF : Hid (memB K (o.custom.take (i + 1)) = true) := memB_true ((unhide HM).2 (Or.inl (memB_iff.1 hf)))
                    clear hf
                    go_wp2_with fail
                    go_quiet (fail)
                    go_wp2
                    go_roundw
                    case rel => exact ⟨i + 1, by omega, by go_num, by rw [unhide HF], (unhide OV).drewN _⟩
                    case measure => simp [intOf]; omega
                  | false =>
                    obtain ⟨z, hz⟩ : ∃ z, z = o.custom[i] := ⟨_, rfl⟩
                    have HF : Hid (memB K (o.custom.take (i + 1)) = decide (z = K)) := by
                      have h0 := memB_not.1 hf
                      by_cases he : z = K
                      · rw [decide_eq_true he]; exact memB_true ((unhide HM).2 (Or.inr (by rw [← hz, he])))
                      · rw [decide_eq_false he]; exact memB_false (fun h => by rcases (unhide HM).1 h with h1 | h1; exact h0 h1; exact he (by rw [hz, ← h1]))
                    have hHK := (unhide UV).hasC
                    have hn2 := unhide HN
                    rw [← hn2] at hHK
                    obtain ⟨ab, ao, rfl, hab, hat⟩ := hHK.at (by omega)
                    have r := hat i z (by rw [List.getElem?_eq_getElem hiu, hz])
                    have z0 := range_at r 0 _ rfl
                    have z1 := range_at r 1 _ rfl
                    rw [Nat.add_zero] at z0
                    have d0 := ((unhide HBL).same (unhide OV)).cell 0 _ rfl
                    have d1 := ((unhide HBL).same (unhide OV)).cell 1 _ rfl
                    have hs2 := str_beq z.2 K.2
                    have hs1 := str_beq z.1 K.1
                    clear hf hz hat r hab hHK hn2 HM hiu
                    obtain ⟨K1, K2⟩ := K
                    obtain ⟨z1_, z2_⟩ := z
                    simp only at z0 z1 d0 d1 hs2 hs1
                    have HP : Hid (decide ((z1_, z2_) = (K1, K2)) = (decide (z1_ = K1) && decide (z2_ = K2))) := by show decide _ = _; by_cases h1 : z1_ = K1 <;> by_cases h2 : z2_ = K2 <;> simp [h1, h2]
                    rw [unhide HP] at HF
                    generalize decide (z1_ = K1) = B1 at *
                    generalize decide (z2_ = K2) = B2 at *
                    generalize str z2_ = Z2 at *
                    generalize str K2 = S2 at *
                    generalize str z1_ = Z1 at *
                    generalize str K1 = S1 at *
                    cases B1 <;> cases B2
                    all_goals
                      go_wp2_with fail
                      go_quiet (fail)
                      go_wp2
                      go_roundw
                      case rel => exact ⟨i + 1, by omega, by go_num, by rw [unhide HF]; rfl, (unhide OV).drewN _⟩
                      case measure => simp [intOf]; omega
      · as_aux_lemma =>
          obtain ⟨s, hs⟩ : ∃ s, s = at0 hMsgs [] (y.b % 3) := ⟨_, rfl⟩
          have IX : Hid (∀ W, (Instr.index 72 (.agg #[.string ⟨#[]⟩, .string ⟨#[109]⟩, .string ⟨#[108, 111, 115, 116]⟩]) (.int .i64 (y.b % 3))).run Tryd.prog W = .ok (.string (str s)) W) := fun W => by rw [hs]; exact index_str 72 3 hMsgs (y.b % 3) W Tryd.under3s rfl (Int.emod_nonneg _ (by decide)) (Int.emod_lt_of_pos _ (by decide))
          have P7 := hide (fun W => pick_any y.a 7 W (by decide) (by decide))
          have P3 := hide (fun W => pick_any y.b 3 W (by decide) (by decide))
          have HS : Hid (hStep o y = { o with reason := 1 + y.a % 7, msg := s }) := by show hStep o y = _; unfold hStep; rw [unhide HQ, hs]; rfl
          clear hs
          have w7 := wr64 (1 + y.a % 7) (by omega) (by omega)
          have y1 := unhide Y1
          have c27 := (unhide UY).box.cell 27 _ (cells_back o mv nv lv cv (unhide HOK).ten 0)
          have f27 := (unhide UY).box.free 27
          go_wp2_with fail
          refine (unhide P7 _).mono ?_
          rintro e wx ⟨rfl, hwx⟩
          rw [hwx]
          clear hwx wx
          have UR := hide ((unhide UY).set 27 (.int .i64 (1 + y.a % 7)) _ (set_reason o _ _ _ _ (unhide HOK).ten _) rfl rfl rfl rfl)
          have y2 := unhide Y2
          go_upto_region 40 with fail
          obtain ⟨wt, hwt⟩ : ∃ wt, wt = wy.setCell ⟨ka, 27, none⟩ (.int .i64 (1 + y.a % 7)) := ⟨_, rfl⟩
          have OT : Only (fun j => j = ka) wy wt := by rw [hwt]; exact (Only.refl _ _).here _ _
          rw [← hwt] at UR ⊢
          clear hwt y2 y1 c27 f27 w7
          have y2 := OT.cell (unhide Y2) hyk
          clear OT
          have ix := unhide IX
          have c28 := (unhide UR).box.cell 28 _ (cells_back { o with reason := 1 + y.a % 7 } mv nv lv cv (unhide HOK).ten 1)
          have f28 := (unhide UR).box.free 28
          go_wp2_with fail
          refine (unhide P3 _).mono ?_
          rintro e wx ⟨rfl, hwx⟩
          rw [hwx]
          clear hwx wx
          go_wp2
          go_roundw
          case rel => exact ⟨k + 1, by omega, by omega, by go_num, by show ∃ nv lv cv, _; rw [unhide HNX, unhide HS]; exact ⟨_, _, _, (unhide UR).set 28 (.string (str s)) _ (set_msg { o with reason := 1 + y.a % 7 } _ _ _ _ (unhide HOK).ten _) rfl rfl rfl rfl⟩⟩
          case measure => simp [intOf]; omega
      · as_aux_lemma =>
          have y1 := unhide Y1
          have c36 := (unhide UY).box.cell 36 _ (cells_back o mv nv lv cv (unhide HOK).ten 9)
          have f36 := (unhide UY).box.free 36
          have HS : Hid (hStep o y = { o with arch := (y.a.tmod 3 == 0) }) := by show hStep o y = _; unfold hStep; rw [unhide HQ]; rfl
          have hw3 : IntKind.i64.wrap (y.a.tmod 3) = y.a.tmod 3 := by obtain ⟨h1, h2⟩ := (unhide HYK).a; have h3 := Int.tmod_lt_of_pos y.a (show (0 : Int) < 3 by decide); have h4 := Int.lt_tmod_of_pos y.a (show (0 : Int) < 3 by decide); exact wr64 _ (by omega) (by omega)
          go_wp2
          go_roundw
          case rel => exact ⟨k + 1, by omega, by omega, by go_num, by show ∃ nv lv cv, _; rw [unhide HNX, unhide HS]; exact ⟨_, _, _, (unhide UY).set 36 (.bool (y.a.tmod 3 == 0)) _ (set_arch o _ _ _ _ (unhide HOK).ten _) rfl rfl rfl rfl⟩⟩
          case measure => simp [intOf]; omega
end Ob
end Go.Proofs.YtadpmninoghcjaaDoor
