/-
  An item's bytes: the program's lay and Encode.
-/
import Derived.Test.YtedmfjnmclbkpaaDoorTtTakes
import Derived.Test.YtedmfjnmclbkpaaDoorWrLO
import Derived.Deep.RegionHeldLaw
namespace Go.Proofs.YtedmfjnmclbkpaaDoor
open Go.RowKit
set_option linter.unusedSimpArgs false
set_option linter.unusedVariables false
namespace Tt

/-- a new row of n zeros -/
theorem make_noughts (n : Nat) (hn : n ≤ 281474976710656) : ∃ Z : Array Value, (∀ w : World, (Instr.makeSlice 22 (.int .i64 n) (.int .i64 n)).run Tryd.prog w = .ok (.slice (some ⟨w.heap.size, 0, none⟩) n n) (w.alloc (.cells Z 5))) ∧ Z = ((List.replicate n (0 : UInt8)).map bv).toArray := by
  obtain ⟨i0, hi, hz0, hz1, hz2⟩ := info_parts Tryd.info5
  refine ⟨madeCells #[.int .u8 0] n, fun w => ?_, ?_⟩
  · have h := run_make (P := Tryd.prog) w 22 5 i0 (.int .u8 0) Tryd.underlying22 hi hz0 .i64 .i64 n n (by omega) (by omega) (by rw [hz2]; omega) (by omega)
    simp only [hz1, Nat.mul_one, Int.toNat_natCast] at h
    exact h
  · apply Array.ext'
    rw [toList_madeCells_one]
    simp [bv]

theorem shr16 (t : Nat) : Op.shift BinOp.shr IntKind.i64 (t : Int) IntKind.u64 16 = pure (.int .i64 ((t / 65536 : Nat) : Int)) := by
  rw [shift_shr_any _ _ _ _ (by omega)]
  congr 2

theorem be_nat (k n : Nat) (h : n < 18446744073709551616) : be k (toU64 (n : Int)) = be k n := by rw [WO.toU64_nat n h]

/-- what is read lies apart from the writer -/
def Sep (Q : Nat → Prop) (w : World) (b : Nat) (v : Value) : Prop := ∀ k, Q k → k < w.heap.size ∧ k ≠ b ∧ v.ownBlock ≠ some k
theorem Sep.wrote {Q : Nat → Prop} {T : TypeId} {w w' : World} {b : Nat} {v v' : Value} {cs : List UInt8} (h : Sep Q w b v) (hw : Wrote T w b v w' v' cs) : Sep Q w' b v' := fun k hk => by
  obtain ⟨h1, h2, h3⟩ := h k hk
  have := hw.only.size
  refine ⟨by omega, h2, fun e => ?_⟩
  rcases hw.fresh k e with e | e
  · exact h3 e
  · omega
theorem Sep.it {Q : Nat → Prop} {T : TypeId} {w w' : World} {b : Nat} {v v' : Value} {cs : List UInt8} (h : Sep Q w b v) (hw : Wrote T w b v w' v' cs) {n : Nat} {i : It} {dv kv : Value} (hi : ItAt Q w n i dv kv) : ItAt Q w' n i dv kv :=
  ItAt.only hw.only (fun k _ hq e => by obtain ⟨_, h2, h3⟩ := h k hq; rcases e with e | e; exact h2 e; exact h3 e) n hi
theorem wrote_drew {T : TypeId} {w w' : World} {b : Nat} {v v' : Value} {cs : List UInt8} (h : Wrote T w b v w' v' cs) : Wrote T w b v w'.drew v' cs :=
  ⟨h.now.only ((Only.refl (fun _ => False) w').drew) (fun e => e) (fun _ _ e => e), h.only.drew, h.fresh⟩
theorem cell_of_heap {w : World} {b j : Nat} {cs : Array Value} {t : TypeId} (h : w.heap[b]? = some (.cells cs t (0, 0))) : w.cell? ⟨b, j, none⟩ = cs[j]? := by
  simp [World.cell?, h]
/-- a block that was made behind the writer -/
theorem wrote_box {w w1 w' : World} {b g : Nat} {v v' : Value} {bs cs : List UInt8} (h : WrAt 91 w b v bs) (hg : w.heap.size ≤ g) (hw : Wrote 91 w1 b v w' v' cs) {j : Nat} {x : Value} (hc : w1.cell? ⟨g, j, none⟩ = some x) : w'.cell? ⟨g, j, none⟩ = some x :=
  hw.only.cell hc (fun e => by
    have hb := lt_of_block h.blk
    rcases e with e | e
    · simp only at e; omega
    · have := (h.own.lt _ e).2; simp only at this; omega)

section
variable {w : World} {b : Nat} {v : Value} {bs : List UInt8}
theorem layNarrow_any (t y n : Int) (da : Option Addr) (dl dc : Nat) (ka : Option Addr) (kl kc : Nat) (h : WrAt 91 w b v bs) (hr : bs.length + 9 ≤ 140737488355328) :
    Calls Tryd.prog 55 #[iv t y n da dl dc ka kl kc, .pointer (some ⟨b, 0, none⟩)] w fun e w' => e = .returned (.tuple #[]) ∧ ∃ v', Wrote 91 w b v w' v' (bs ++ be 4 (toU64 n)) := by
  obtain ⟨⟨c0, c1, c2, c3, c4⟩, oA⟩ := boxed w (.int .i64 t) (.int .i64 y) (.int .i64 n) (.slice da dl dc) (.slice ka kl kc)
  have hb := h.laid (.cells #[.int .i64 t, .int .i64 y, .int .i64 n, .slice da dl dc, .slice ka kl kc] 25)
  have HB := hide hb
  have HC := hide (WO.u32_any b v bs n _ hb.now hr)
  unfold iv
  clear h oA hb
  go_enter Tryd.func55, Tryd.ntmps55
  go_wp2_with fail
  refine (unhide HC).mono ?_
  rintro e w2 ⟨rfl, v', hm⟩
  have HM := hide hm
  clear hm
  go_wp2
  go_end0
  exact ⟨rfl, v', (unhide HB).trans (unhide HM)⟩
theorem layWide_any (t y n : Int) (da : Option Addr) (dl dc : Nat) (ka : Option Addr) (kl kc : Nat) (h : WrAt 91 w b v bs) (hr : bs.length + 9 ≤ 140737488355328) :
    Calls Tryd.prog 56 #[iv t y n da dl dc ka kl kc, .pointer (some ⟨b, 0, none⟩)] w fun e w' => e = .returned (.tuple #[]) ∧ ∃ v', Wrote 91 w b v w' v' (bs ++ be 8 (toU64 n)) := by
  obtain ⟨⟨c0, c1, c2, c3, c4⟩, oA⟩ := boxed w (.int .i64 t) (.int .i64 y) (.int .i64 n) (.slice da dl dc) (.slice ka kl kc)
  have hb := h.laid (.cells #[.int .i64 t, .int .i64 y, .int .i64 n, .slice da dl dc, .slice ka kl kc] 25)
  have HB := hide hb
  have hc := WO.u64_any b v bs (toU64 n) _ (WO.u64_lt n) hb.now hr
  rw [WO.conv_u64] at hc
  have HC := hide hc
  unfold iv
  clear h oA hb hc
  go_enter Tryd.func56, Tryd.ntmps56
  go_wp2_with fail
  refine (unhide HC).mono ?_
  rintro e w2 ⟨rfl, v', hm⟩
  have HM := hide hm
  clear hm
  go_wp2
  go_end0
  exact ⟨rfl, v', (unhide HB).trans (unhide HM)⟩
theorem layData_any (t y n : Int) (da : Option Addr) (d : List UInt8) (dc : Nat) (ka : Option Addr) (kl kc : Nat) (h : WrAt 91 w b v bs) (hx : Has w (.slice da d.length dc) d) (hr : bs.length + d.length ≤ 140737488355328) :
    Calls Tryd.prog 57 #[iv t y n da d.length dc ka kl kc, .pointer (some ⟨b, 0, none⟩)] w fun e w' => e = .returned (.tuple #[]) ∧ ∃ v', Wrote 91 w b v w' v' (bs ++ d) := by
  obtain ⟨⟨c0, c1, c2, c3, c4⟩, oA⟩ := boxed w (.int .i64 t) (.int .i64 y) (.int .i64 n) (.slice da d.length dc) (.slice ka kl kc)
  have hb := h.laid (.cells #[.int .i64 t, .int .i64 y, .int .i64 n, .slice da d.length dc, .slice ka kl kc] 25)
  have HB := hide hb
  have HC := hide (WO.raw_any b v bs _ d _ (hx.only oA (fun _ _ _ e => e)) hb.now hr)
  unfold iv
  clear h oA hb hx
  generalize d.length = dl at *
  go_enter Tryd.func57, Tryd.ntmps57
  go_wp2_with fail
  refine (unhide HC).mono ?_
  rintro e w2 ⟨rfl, v', hm⟩
  have HM := hide hm
  clear hm
  go_wp2
  go_end0
  exact ⟨rfl, v', (unhide HB).trans (unhide HM)⟩
end

set_option maxHeartbeats 4000000 in
set_option maxRecDepth 100000 in
theorem lay_1 (t : Nat) (n : Int) (da : Option Addr) (dl dc : Nat) (ka : Option Addr) (kl kc L b : Nat) (v : Value) (bs body : List UInt8) (w : World) (hW : WrAt 91 w b v bs) (ht : t < 16777216) (hL : L < 4294967296) (hbl : body.length ≤ 4294967296) (hr : bs.length ≤ 4294967296)
    (HL : Hid (Calls Tryd.prog 50 #[.pointer (some ⟨w.heap.size, 0, none⟩), .int .i64 1] (w.alloc (.cells #[.int .i64 t, .int .i64 1, .int .i64 n, .slice da dl dc, .slice ka kl kc] 25)) fun e w' => e = .returned (.int .i64 L) ∧ w' = w.alloc (.cells #[.int .i64 t, .int .i64 1, .int .i64 n, .slice da dl dc, .slice ka kl kc] 25)))
    (HC : Hid (∀ W v1, Wrote 91 w b v W v1 (bs ++ headL t 1 L) → Calls Tryd.prog 54 #[iv t 1 n da dl dc ka kl kc, .pointer (some ⟨b, 0, none⟩)] W fun e w' => e = .returned (.tuple #[]) ∧ ∃ v2, Wrote 91 W b v1 w' v2 ((bs ++ headL t 1 L) ++ body))) :
    Calls Tryd.prog 28 #[iv t 1 n da dl dc ka kl kc, .pointer (some ⟨b, 0, none⟩)] w fun e w' => e = .returned (.tuple #[]) ∧ ∃ v', Wrote 91 w b v w' v' (((bs ++ headL t 1 L) ++ body) ++ List.replicate (pad8 L - L) 0) := by
  obtain ⟨⟨c0, c1, c2, c3, c4⟩, oA⟩ := boxed w (.int .i64 t) (.int .i64 1) (.int .i64 n) (.slice da dl dc) (.slice ka kl kc)
  have hl := hW.laid (.cells #[.int .i64 t, .int .i64 1, .int .i64 n, .slice da dl dc, .slice ka kl kc] 25)
  have HLD := hide hl
  have HW := hide hW
  have HK : Hid (∀ W v1 cs, Wrote 91 (w.alloc (.cells #[.int .i64 t, .int .i64 1, .int .i64 n, .slice da dl dc, .slice ka kl kc] 25)) b v W v1 cs → W.cell? ⟨w.heap.size, 0, none⟩ = some (.int .i64 t) ∧ W.cell? ⟨w.heap.size, 1, none⟩ = some (.int .i64 1) ∧ W.cell? ⟨w.heap.size, 2, none⟩ = some (.int .i64 n) ∧ W.cell? ⟨w.heap.size, 3, none⟩ = some (.slice da dl dc) ∧ W.cell? ⟨w.heap.size, 4, none⟩ = some (.slice ka kl kc)) := fun W v1 cs hw =>
    ⟨wrote_box hW (Nat.le_refl _) hw c0, wrote_box hW (Nat.le_refl _) hw c1, wrote_box hW (Nat.le_refl _) hw c2, wrote_box hW (Nat.le_refl _) hw c3, wrote_box hW (Nat.le_refl _) hw c4⟩
  have H1 := hide (WO.u8_any b v bs ((t / 65536 : Nat) : Int) _ hl.now (by omega))
  rw [be_nat 1 (t / 65536) (by omega)] at H1
  rw [show ((t / 65536 : Nat) : Int) = (t : Int) / 65536 by omega] at H1
  have HS : Hid (w.heap.size + 1 = (w.alloc (.cells #[.int .i64 t, .int .i64 1, .int .i64 n, .slice da dl dc, .slice ka kl kc] 25)).heap.size) := by show _ = _; simp
  obtain ⟨p, hp⟩ : ∃ p, pad8 L = p := ⟨_, rfl⟩
  obtain ⟨q, hq⟩ : ∃ q, p - L = q := ⟨_, rfl⟩
  have hple := pad8_ge L
  have hplt : pad8 L < L + 8 := by unfold pad8; omega
  rw [hp, hq]
  rw [hp] at hple hplt
  have HP := hide hp
  have HPQ : Hid (p = L + q) := by show _ = _; omega
  clear hp hq hple
  unfold iv at HC ⊢
  have hsh := shr16 t
  go_enter Tryd.func28, Tryd.ntmps28
  clear hl hW
  go_wp2_with fail
  refine (unhide HL).mono ?_
  rintro e w2 ⟨rfl, rfl⟩
  generalize w.alloc (.cells #[.int .i64 t, .int .i64 1, .int .i64 n, .slice da dl dc, .slice ka kl kc] 25) = w1 at *
  clear HL
  go_wp2_with fail
  refine (unhide H1).mono ?_
  rintro e w2 ⟨rfl, v2, hr2⟩
  obtain ⟨d0, d1, d2, d3, d4⟩ := unhide HK _ _ _ hr2
  have HR2 := hide hr2
  have H2 := hide (WO.u16_any b v2 _ ((t : Nat) : Int) _ hr2.now (by simp [be_length]; omega))
  rw [be_nat 2 t (by omega)] at H2
  clear hr2 c0 c1 c2 c3 c4 H1 hsh
  go_wp2_with fail
  refine (unhide H2).mono ?_
  rintro e w3 ⟨rfl, v3, hr3⟩
  have HR3 := hide ((unhide HR2).trans hr3)
  obtain ⟨e0, e1, e2, e3, e4⟩ := unhide HK _ _ _ (unhide HR3)
  have H3 := hide (WO.u8_any b v3 _ ((1 : Nat) : Int) _ hr3.now (by simp [be_length]; omega))
  rw [be_nat 1 1 (by omega), show ((1 : Nat) : Int) = 1 from rfl] at H3
  clear hr3 d0 d1 d2 d3 d4 H2 HR2
  go_wp2_with fail
  refine (unhide H3).mono ?_
  rintro e w4 ⟨rfl, v4, hr4⟩
  have HR4 := hide ((unhide HR3).trans hr4)
  have H4 := hide (WO.u32_any b v4 _ ((L : Nat) : Int) _ hr4.now (by simp [be_length]; omega))
  rw [be_nat 4 L (by omega)] at H4
  clear hr4 e0 e1 e2 e3 e4 H3 HR3
  go_wp2_with fail
  refine (unhide H4).mono ?_
  rintro e w5 ⟨rfl, v5, hr5⟩
  have h5 := (unhide HR4).trans hr5
  obtain ⟨d0, d1, d2, d3, d4⟩ := unhide HK _ _ _ h5
  rw [show bs ++ be 1 (t / 65536) ++ be 2 t ++ be 1 1 ++ be 4 L = bs ++ headL t 1 L by unfold headL; rw [Int.toNat_natCast]; simp [List.append_assoc]] at h5
  have HR5 := hide h5
  have hs5 := h5.only.size
  clear hr5 H4 HR4 h5
  -- the row of layers
  have oR : Only (fun _ => False) w5 (w5.alloc (.cells #[Value.nilFunc, Value.func (Fn.func 54) #[] #[], Value.func (Fn.func 55) #[] #[], Value.func (Fn.func 56) #[] #[], Value.func (Fn.func 57) #[] #[], Value.func (Fn.func 55) #[] #[], Value.func (Fn.func 56) #[] #[], Value.func (Fn.func 57) #[] #[], Value.func (Fn.func 57) #[] #[], Value.func (Fn.func 56) #[] #[], Value.func (Fn.func 55) #[] #[]] 95)) := (Only.refl _ _).alloc _
  have hR : (w5.alloc (.cells #[Value.nilFunc, Value.func (Fn.func 54) #[] #[], Value.func (Fn.func 55) #[] #[], Value.func (Fn.func 56) #[] #[], Value.func (Fn.func 57) #[] #[], Value.func (Fn.func 55) #[] #[], Value.func (Fn.func 56) #[] #[], Value.func (Fn.func 57) #[] #[], Value.func (Fn.func 57) #[] #[], Value.func (Fn.func 56) #[] #[], Value.func (Fn.func 55) #[] #[]] 95)).cell? ⟨w5.heap.size, 1, none⟩ = some (Value.func (Fn.func 54) #[] #[]) := (cell_of_heap (heap_alloc_new w5 (.cells #[Value.nilFunc, Value.func (Fn.func 54) #[] #[], Value.func (Fn.func 55) #[] #[], Value.func (Fn.func 56) #[] #[], Value.func (Fn.func 57) #[] #[], Value.func (Fn.func 55) #[] #[], Value.func (Fn.func 56) #[] #[], Value.func (Fn.func 57) #[] #[], Value.func (Fn.func 57) #[] #[], Value.func (Fn.func 56) #[] #[], Value.func (Fn.func 55) #[] #[]] 95))).trans rfl
  have hl5 := (unhide HR5).trans ((unhide HR5).now.laid (.cells #[Value.nilFunc, Value.func (Fn.func 54) #[] #[], Value.func (Fn.func 55) #[] #[], Value.func (Fn.func 56) #[] #[], Value.func (Fn.func 57) #[] #[], Value.func (Fn.func 55) #[] #[], Value.func (Fn.func 56) #[] #[], Value.func (Fn.func 57) #[] #[], Value.func (Fn.func 57) #[] #[], Value.func (Fn.func 56) #[] #[], Value.func (Fn.func 55) #[] #[]] 95))
  have HR6 := hide hl5
  have HW5 := hide (unhide HR5).now
  have HUp : Hid (w.heap.size ≤ w5.heap.size) := by have := (unhide HS); show _ ≤ _; omega
  have e0 := oR.cell d0 (fun e => e)
  have e1 := oR.cell d1 (fun e => e)
  have e2 := oR.cell d2 (fun e => e)
  have e3 := oR.cell d3 (fun e => e)
  have e4 := oR.cell d4 (fun e => e)
  clear oR hl5 d0 d1 d2 d3 d4
  go_wp2_with fail
  generalize hw6 : w5.alloc (.cells #[Value.nilFunc, Value.func (Fn.func 54) #[] #[], Value.func (Fn.func 55) #[] #[], Value.func (Fn.func 56) #[] #[], Value.func (Fn.func 57) #[] #[], Value.func (Fn.func 55) #[] #[], Value.func (Fn.func 56) #[] #[], Value.func (Fn.func 57) #[] #[], Value.func (Fn.func 57) #[] #[], Value.func (Fn.func 56) #[] #[], Value.func (Fn.func 55) #[] #[]] 95) = w6 at *
  clear hw6 HR5
  clear hs5 HS
  refine wp_region_held_drew (S := (fun w' => (w'.cell? ⟨w.heap.size, 0, none⟩ = some (.int .i64 t) ∧ w'.cell? ⟨w.heap.size, 1, none⟩ = some (.int .i64 1) ∧ w'.cell? ⟨w.heap.size, 2, none⟩ = some (.int .i64 n) ∧ w'.cell? ⟨w.heap.size, 3, none⟩ = some (.slice da dl dc) ∧ w'.cell? ⟨w.heap.size, 4, none⟩ = some (.slice ka kl kc)) ∧ w'.cell? ⟨w5.heap.size, 1, none⟩ = some (Value.func (Fn.func 54) #[] #[]))) (by kernel_rfl) (⟨⟨e0, e1, e2, e3, e4⟩, hR⟩) (fun hHeld => ?_)
  refine wpAnyH_take (i := 0) (v := ?v1) rfl (by kernel_rfl) (by kernel_rfl) (by kernel_rfl) (fun _ _ _ h => h) (Or.inl ⟨by rfl, ?hy1⟩) (by assumption) ?rest1
  case hy1 =>
    intro w hSw
    go_simp
    try with_reducible rfl
  try simp only [Act.put, List.setIfInBounds_toArray, List.set_cons_zero, List.set_cons_succ, List.getElem_toArray, List.getElem_cons_succ, List.getElem_cons_zero]
  refine wpAnyH_take (i := 1) (v := ?v2) rfl (by kernel_rfl) (by kernel_rfl) (by kernel_rfl) (fun _ _ _ h => h) (Or.inl ⟨by rfl, ?hy2⟩) (by assumption) ?rest2
  case hy2 =>
    intro w hSw
    go_simp
    try with_reducible rfl
  try simp only [Act.put, List.setIfInBounds_toArray, List.set_cons_zero, List.set_cons_succ, List.getElem_toArray, List.getElem_cons_succ, List.getElem_cons_zero]
  refine wpAnyH_take (i := 2) (v := ?v3) rfl (by kernel_rfl) (by kernel_rfl) (by kernel_rfl) (fun _ _ _ h => h) (Or.inl ⟨by rfl, ?hy3⟩) (by assumption) ?rest3
  case hy3 =>
    intro w hSw
    (obtain ⟨⟨q0, q1, q2, q3, q4⟩, q5⟩ := hSw; go_simp; try with_reducible rfl)
  try simp only [Act.put, List.setIfInBounds_toArray, List.set_cons_zero, List.set_cons_succ, List.getElem_toArray, List.getElem_cons_succ, List.getElem_cons_zero]
  refine wpAnyH_take (i := 3) (v := ?v4) rfl (by kernel_rfl) (by kernel_rfl) (by kernel_rfl) (fun _ _ _ h => h) (Or.inl ⟨by rfl, ?hy4⟩) (by assumption) ?rest4
  case hy4 =>
    intro w hSw
    go_simp
    try with_reducible rfl
  try simp only [Act.put, List.setIfInBounds_toArray, List.set_cons_zero, List.set_cons_succ, List.getElem_toArray, List.getElem_cons_succ, List.getElem_cons_zero]
  refine wpAnyH_take (i := 4) (v := ?v5) rfl (by kernel_rfl) (by kernel_rfl) (by kernel_rfl) (fun _ _ _ h => h) (Or.inl ⟨by rfl, ?hy5⟩) (by assumption) ?rest5
  case hy5 =>
    intro w hSw
    (obtain ⟨⟨q0, q1, q2, q3, q4⟩, q5⟩ := hSw; go_simp; try with_reducible rfl)
  try simp only [Act.put, List.setIfInBounds_toArray, List.set_cons_zero, List.set_cons_succ, List.getElem_toArray, List.getElem_cons_succ, List.getElem_cons_zero]
  refine wpAnyH_take (i := 5) (v := ?v6) rfl (by kernel_rfl) (by kernel_rfl) (by kernel_rfl) (fun _ _ _ h => h) (Or.inl ⟨by rfl, ?hy6⟩) (by assumption) ?rest6
  case hy6 =>
    intro w hSw
    (obtain ⟨⟨q0, q1, q2, q3, q4⟩, q5⟩ := hSw; go_simp; try with_reducible rfl)
  try simp only [Act.put, List.setIfInBounds_toArray, List.set_cons_zero, List.set_cons_succ, List.getElem_toArray, List.getElem_cons_succ, List.getElem_cons_zero]
  refine wpAnyH_take (i := 6) (v := ?v7) rfl (by kernel_rfl) (by kernel_rfl) (by kernel_rfl) (fun _ _ _ h => h) (Or.inl ⟨by rfl, ?hy7⟩) (by assumption) ?rest7
  case hy7 =>
    intro w hSw
    go_simp
    try with_reducible rfl
  try simp only [Act.put, List.setIfInBounds_toArray, List.set_cons_zero, List.set_cons_succ, List.getElem_toArray, List.getElem_cons_succ, List.getElem_cons_zero]
  refine wpAnyH_ready (rs := [7]) (by kernel_rfl) (by simp) ?_
  refine AllReadyH.cons rfl (fun K hK => ?_) AllReadyH.nil
  go_simp
  go_wp2_with fail; refine (unhide HC _ _ ((unhide HLD).trans (wrote_drew (unhide HR6)))).mono ?_; rintro e w8 ⟨rfl, v8, hr8⟩; have h8 := (wrote_drew (unhide HR6)).trans hr8
  refine hK.out _ _ (⟨unhide HK _ _ _ h8, wrote_box (unhide HW5) (Nat.le_refl _) hr8 (((Only.refl (fun _ => False) w6).drew).cell hR (fun e => e))⟩) (fun hHeld => ?_)
  clear hK K
  try simp only [Act.put, List.setIfInBounds_toArray, List.set_cons_zero, List.set_cons_succ, List.getElem_toArray, List.getElem_cons_succ, List.getElem_cons_zero]
  refine wpAnyH_done (by kernel_rfl) ?_ _
  have HR8 := hide ((unhide HLD).trans h8)
  clear hHeld h8 hr8 e0 e1 e2 e3 e4 hR HC HK HLD HR6 HW5 HUp
  have HF := hide (filled_any L w8 (by omega))
  rw [unhide HP] at HF
  have hsub : (p : Int) - (L : Int) = (q : Int) := by have := unhide HPQ; omega
  obtain ⟨Z, hmk, hZ⟩ := make_noughts q (by have := unhide HPQ; omega)
  have hlz := (unhide HR8).trans ((unhide HR8).now.laid (.cells Z 5))
  have HR9 := hide hlz
  have HRaw := hide (WO.raw_any b v8 _ (.slice (some ⟨w8.heap.size, 0, none⟩) q q) (List.replicate q 0) _ (has_row (heap_alloc_new w8 (.cells Z 5)) hZ (by simp) (by have := unhide HPQ; unfold maxLen; omega)) hlz.now (by have := unhide HPQ; simp [headL_length]; omega))
  clear hlz hZ
  go_wp2_with fail
  refine (unhide HF).mono ?_
  rintro e w9 ⟨rfl, rfl⟩
  clear HF
  go_wp2_with fail
  refine (unhide HRaw).mono ?_
  rintro e w10 ⟨rfl, v10, hr10⟩
  have HR10 := hide ((unhide HR9).trans hr10)
  clear hr10 HR9 HR8 HRaw hmk
  go_wp2
  go_end0
  exact ⟨rfl, v10, unhide HR10⟩

set_option maxHeartbeats 4000000 in
set_option maxRecDepth 100000 in
theorem lay_2 (t : Nat) (n : Int) (da : Option Addr) (dl dc : Nat) (ka : Option Addr) (kl kc L b : Nat) (v : Value) (bs body : List UInt8) (w : World) (hW : WrAt 91 w b v bs) (ht : t < 16777216) (hL : L < 4294967296) (hbl : body.length ≤ 4294967296) (hr : bs.length ≤ 4294967296)
    (HL : Hid (Calls Tryd.prog 50 #[.pointer (some ⟨w.heap.size, 0, none⟩), .int .i64 1] (w.alloc (.cells #[.int .i64 t, .int .i64 2, .int .i64 n, .slice da dl dc, .slice ka kl kc] 25)) fun e w' => e = .returned (.int .i64 L) ∧ w' = w.alloc (.cells #[.int .i64 t, .int .i64 2, .int .i64 n, .slice da dl dc, .slice ka kl kc] 25)))
    (HC : Hid (∀ W v1, Wrote 91 w b v W v1 (bs ++ headL t 2 L) → Calls Tryd.prog 55 #[iv t 2 n da dl dc ka kl kc, .pointer (some ⟨b, 0, none⟩)] W fun e w' => e = .returned (.tuple #[]) ∧ ∃ v2, Wrote 91 W b v1 w' v2 ((bs ++ headL t 2 L) ++ body))) :
    Calls Tryd.prog 28 #[iv t 2 n da dl dc ka kl kc, .pointer (some ⟨b, 0, none⟩)] w fun e w' => e = .returned (.tuple #[]) ∧ ∃ v', Wrote 91 w b v w' v' (((bs ++ headL t 2 L) ++ body) ++ List.replicate (pad8 L - L) 0) := by
  obtain ⟨⟨c0, c1, c2, c3, c4⟩, oA⟩ := boxed w (.int .i64 t) (.int .i64 2) (.int .i64 n) (.slice da dl dc) (.slice ka kl kc)
  have hl := hW.laid (.cells #[.int .i64 t, .int .i64 2, .int .i64 n, .slice da dl dc, .slice ka kl kc] 25)
  have HLD := hide hl
  have HW := hide hW
  have HK : Hid (∀ W v1 cs, Wrote 91 (w.alloc (.cells #[.int .i64 t, .int .i64 2, .int .i64 n, .slice da dl dc, .slice ka kl kc] 25)) b v W v1 cs → W.cell? ⟨w.heap.size, 0, none⟩ = some (.int .i64 t) ∧ W.cell? ⟨w.heap.size, 1, none⟩ = some (.int .i64 2) ∧ W.cell? ⟨w.heap.size, 2, none⟩ = some (.int .i64 n) ∧ W.cell? ⟨w.heap.size, 3, none⟩ = some (.slice da dl dc) ∧ W.cell? ⟨w.heap.size, 4, none⟩ = some (.slice ka kl kc)) := fun W v1 cs hw =>
    ⟨wrote_box hW (Nat.le_refl _) hw c0, wrote_box hW (Nat.le_refl _) hw c1, wrote_box hW (Nat.le_refl _) hw c2, wrote_box hW (Nat.le_refl _) hw c3, wrote_box hW (Nat.le_refl _) hw c4⟩
  have H1 := hide (WO.u8_any b v bs ((t / 65536 : Nat) : Int) _ hl.now (by omega))
  rw [be_nat 1 (t / 65536) (by omega)] at H1
  rw [show ((t / 65536 : Nat) : Int) = (t : Int) / 65536 by omega] at H1
  have HS : Hid (w.heap.size + 1 = (w.alloc (.cells #[.int .i64 t, .int .i64 2, .int .i64 n, .slice da dl dc, .slice ka kl kc] 25)).heap.size) := by show _ = _; simp
  obtain ⟨p, hp⟩ : ∃ p, pad8 L = p := ⟨_, rfl⟩
  obtain ⟨q, hq⟩ : ∃ q, p - L = q := ⟨_, rfl⟩
  have hple := pad8_ge L
  have hplt : pad8 L < L + 8 := by unfold pad8; omega
  rw [hp, hq]
  rw [hp] at hple hplt
  have HP := hide hp
  have HPQ : Hid (p = L + q) := by show _ = _; omega
  clear hp hq hple
  unfold iv at HC ⊢
  have hsh := shr16 t
  go_enter Tryd.func28, Tryd.ntmps28
  clear hl hW
  go_wp2_with fail
  refine (unhide HL).mono ?_
  rintro e w2 ⟨rfl, rfl⟩
  generalize w.alloc (.cells #[.int .i64 t, .int .i64 2, .int .i64 n, .slice da dl dc, .slice ka kl kc] 25) = w1 at *
  clear HL
  go_wp2_with fail
  refine (unhide H1).mono ?_
  rintro e w2 ⟨rfl, v2, hr2⟩
  obtain ⟨d0, d1, d2, d3, d4⟩ := unhide HK _ _ _ hr2
  have HR2 := hide hr2
  have H2 := hide (WO.u16_any b v2 _ ((t : Nat) : Int) _ hr2.now (by simp [be_length]; omega))
  rw [be_nat 2 t (by omega)] at H2
  clear hr2 c0 c1 c2 c3 c4 H1 hsh
  go_wp2_with fail
  refine (unhide H2).mono ?_
  rintro e w3 ⟨rfl, v3, hr3⟩
  have HR3 := hide ((unhide HR2).trans hr3)
  obtain ⟨e0, e1, e2, e3, e4⟩ := unhide HK _ _ _ (unhide HR3)
  have H3 := hide (WO.u8_any b v3 _ ((2 : Nat) : Int) _ hr3.now (by simp [be_length]; omega))
  rw [be_nat 1 2 (by omega), show ((2 : Nat) : Int) = 2 from rfl] at H3
  clear hr3 d0 d1 d2 d3 d4 H2 HR2
  go_wp2_with fail
  refine (unhide H3).mono ?_
  rintro e w4 ⟨rfl, v4, hr4⟩
  have HR4 := hide ((unhide HR3).trans hr4)
  have H4 := hide (WO.u32_any b v4 _ ((L : Nat) : Int) _ hr4.now (by simp [be_length]; omega))
  rw [be_nat 4 L (by omega)] at H4
  clear hr4 e0 e1 e2 e3 e4 H3 HR3
  go_wp2_with fail
  refine (unhide H4).mono ?_
  rintro e w5 ⟨rfl, v5, hr5⟩
  have h5 := (unhide HR4).trans hr5
  obtain ⟨d0, d1, d2, d3, d4⟩ := unhide HK _ _ _ h5
  rw [show bs ++ be 1 (t / 65536) ++ be 2 t ++ be 1 2 ++ be 4 L = bs ++ headL t 2 L by unfold headL; rw [Int.toNat_natCast]; simp [List.append_assoc]] at h5
  have HR5 := hide h5
  have hs5 := h5.only.size
  clear hr5 H4 HR4 h5
  -- the row of layers
  have oR : Only (fun _ => False) w5 (w5.alloc (.cells #[Value.nilFunc, Value.func (Fn.func 54) #[] #[], Value.func (Fn.func 55) #[] #[], Value.func (Fn.func 56) #[] #[], Value.func (Fn.func 57) #[] #[], Value.func (Fn.func 55) #[] #[], Value.func (Fn.func 56) #[] #[], Value.func (Fn.func 57) #[] #[], Value.func (Fn.func 57) #[] #[], Value.func (Fn.func 56) #[] #[], Value.func (Fn.func 55) #[] #[]] 95)) := (Only.refl _ _).alloc _
  have hR : (w5.alloc (.cells #[Value.nilFunc, Value.func (Fn.func 54) #[] #[], Value.func (Fn.func 55) #[] #[], Value.func (Fn.func 56) #[] #[], Value.func (Fn.func 57) #[] #[], Value.func (Fn.func 55) #[] #[], Value.func (Fn.func 56) #[] #[], Value.func (Fn.func 57) #[] #[], Value.func (Fn.func 57) #[] #[], Value.func (Fn.func 56) #[] #[], Value.func (Fn.func 55) #[] #[]] 95)).cell? ⟨w5.heap.size, 2, none⟩ = some (Value.func (Fn.func 55) #[] #[]) := (cell_of_heap (heap_alloc_new w5 (.cells #[Value.nilFunc, Value.func (Fn.func 54) #[] #[], Value.func (Fn.func 55) #[] #[], Value.func (Fn.func 56) #[] #[], Value.func (Fn.func 57) #[] #[], Value.func (Fn.func 55) #[] #[], Value.func (Fn.func 56) #[] #[], Value.func (Fn.func 57) #[] #[], Value.func (Fn.func 57) #[] #[], Value.func (Fn.func 56) #[] #[], Value.func (Fn.func 55) #[] #[]] 95))).trans rfl
  have hl5 := (unhide HR5).trans ((unhide HR5).now.laid (.cells #[Value.nilFunc, Value.func (Fn.func 54) #[] #[], Value.func (Fn.func 55) #[] #[], Value.func (Fn.func 56) #[] #[], Value.func (Fn.func 57) #[] #[], Value.func (Fn.func 55) #[] #[], Value.func (Fn.func 56) #[] #[], Value.func (Fn.func 57) #[] #[], Value.func (Fn.func 57) #[] #[], Value.func (Fn.func 56) #[] #[], Value.func (Fn.func 55) #[] #[]] 95))
  have HR6 := hide hl5
  have HW5 := hide (unhide HR5).now
  have HUp : Hid (w.heap.size ≤ w5.heap.size) := by have := (unhide HS); show _ ≤ _; omega
  have e0 := oR.cell d0 (fun e => e)
  have e1 := oR.cell d1 (fun e => e)
  have e2 := oR.cell d2 (fun e => e)
  have e3 := oR.cell d3 (fun e => e)
  have e4 := oR.cell d4 (fun e => e)
  clear oR hl5 d0 d1 d2 d3 d4
  go_wp2_with fail
  generalize hw6 : w5.alloc (.cells #[Value.nilFunc, Value.func (Fn.func 54) #[] #[], Value.func (Fn.func 55) #[] #[], Value.func (Fn.func 56) #[] #[], Value.func (Fn.func 57) #[] #[], Value.func (Fn.func 55) #[] #[], Value.func (Fn.func 56) #[] #[], Value.func (Fn.func 57) #[] #[], Value.func (Fn.func 57) #[] #[], Value.func (Fn.func 56) #[] #[], Value.func (Fn.func 55) #[] #[]] 95) = w6 at *
  clear hw6 HR5
  clear hs5 HS
  refine wp_region_held_drew (S := (fun w' => (w'.cell? ⟨w.heap.size, 0, none⟩ = some (.int .i64 t) ∧ w'.cell? ⟨w.heap.size, 1, none⟩ = some (.int .i64 2) ∧ w'.cell? ⟨w.heap.size, 2, none⟩ = some (.int .i64 n) ∧ w'.cell? ⟨w.heap.size, 3, none⟩ = some (.slice da dl dc) ∧ w'.cell? ⟨w.heap.size, 4, none⟩ = some (.slice ka kl kc)) ∧ w'.cell? ⟨w5.heap.size, 2, none⟩ = some (Value.func (Fn.func 55) #[] #[]))) (by kernel_rfl) (⟨⟨e0, e1, e2, e3, e4⟩, hR⟩) (fun hHeld => ?_)
  refine wpAnyH_take (i := 0) (v := ?v8) rfl (by kernel_rfl) (by kernel_rfl) (by kernel_rfl) (fun _ _ _ h => h) (Or.inl ⟨by rfl, ?hy8⟩) (by assumption) ?rest8
  case hy8 =>
    intro w hSw
    go_simp
    try with_reducible rfl
  try simp only [Act.put, List.setIfInBounds_toArray, List.set_cons_zero, List.set_cons_succ, List.getElem_toArray, List.getElem_cons_succ, List.getElem_cons_zero]
  refine wpAnyH_take (i := 1) (v := ?v9) rfl (by kernel_rfl) (by kernel_rfl) (by kernel_rfl) (fun _ _ _ h => h) (Or.inl ⟨by rfl, ?hy9⟩) (by assumption) ?rest9
  case hy9 =>
    intro w hSw
    go_simp
    try with_reducible rfl
  try simp only [Act.put, List.setIfInBounds_toArray, List.set_cons_zero, List.set_cons_succ, List.getElem_toArray, List.getElem_cons_succ, List.getElem_cons_zero]
  refine wpAnyH_take (i := 2) (v := ?v10) rfl (by kernel_rfl) (by kernel_rfl) (by kernel_rfl) (fun _ _ _ h => h) (Or.inl ⟨by rfl, ?hy10⟩) (by assumption) ?rest10
  case hy10 =>
    intro w hSw
    (obtain ⟨⟨q0, q1, q2, q3, q4⟩, q5⟩ := hSw; go_simp; try with_reducible rfl)
  try simp only [Act.put, List.setIfInBounds_toArray, List.set_cons_zero, List.set_cons_succ, List.getElem_toArray, List.getElem_cons_succ, List.getElem_cons_zero]
  refine wpAnyH_take (i := 3) (v := ?v11) rfl (by kernel_rfl) (by kernel_rfl) (by kernel_rfl) (fun _ _ _ h => h) (Or.inl ⟨by rfl, ?hy11⟩) (by assumption) ?rest11
  case hy11 =>
    intro w hSw
    go_simp
    try with_reducible rfl
  try simp only [Act.put, List.setIfInBounds_toArray, List.set_cons_zero, List.set_cons_succ, List.getElem_toArray, List.getElem_cons_succ, List.getElem_cons_zero]
  refine wpAnyH_take (i := 4) (v := ?v12) rfl (by kernel_rfl) (by kernel_rfl) (by kernel_rfl) (fun _ _ _ h => h) (Or.inl ⟨by rfl, ?hy12⟩) (by assumption) ?rest12
  case hy12 =>
    intro w hSw
    (obtain ⟨⟨q0, q1, q2, q3, q4⟩, q5⟩ := hSw; go_simp; try with_reducible rfl)
  try simp only [Act.put, List.setIfInBounds_toArray, List.set_cons_zero, List.set_cons_succ, List.getElem_toArray, List.getElem_cons_succ, List.getElem_cons_zero]
  refine wpAnyH_take (i := 5) (v := ?v13) rfl (by kernel_rfl) (by kernel_rfl) (by kernel_rfl) (fun _ _ _ h => h) (Or.inl ⟨by rfl, ?hy13⟩) (by assumption) ?rest13
  case hy13 =>
    intro w hSw
    (obtain ⟨⟨q0, q1, q2, q3, q4⟩, q5⟩ := hSw; go_simp; try with_reducible rfl)
  try simp only [Act.put, List.setIfInBounds_toArray, List.set_cons_zero, List.set_cons_succ, List.getElem_toArray, List.getElem_cons_succ, List.getElem_cons_zero]
  refine wpAnyH_take (i := 6) (v := ?v14) rfl (by kernel_rfl) (by kernel_rfl) (by kernel_rfl) (fun _ _ _ h => h) (Or.inl ⟨by rfl, ?hy14⟩) (by assumption) ?rest14
  case hy14 =>
    intro w hSw
    go_simp
    try with_reducible rfl
  try simp only [Act.put, List.setIfInBounds_toArray, List.set_cons_zero, List.set_cons_succ, List.getElem_toArray, List.getElem_cons_succ, List.getElem_cons_zero]
  refine wpAnyH_ready (rs := [7]) (by kernel_rfl) (by simp) ?_
  refine AllReadyH.cons rfl (fun K hK => ?_) AllReadyH.nil
  go_simp
  go_wp2_with fail; refine (unhide HC _ _ ((unhide HLD).trans (wrote_drew (unhide HR6)))).mono ?_; rintro e w8 ⟨rfl, v8, hr8⟩; have h8 := (wrote_drew (unhide HR6)).trans hr8
  refine hK.out _ _ (⟨unhide HK _ _ _ h8, wrote_box (unhide HW5) (Nat.le_refl _) hr8 (((Only.refl (fun _ => False) w6).drew).cell hR (fun e => e))⟩) (fun hHeld => ?_)
  clear hK K
  try simp only [Act.put, List.setIfInBounds_toArray, List.set_cons_zero, List.set_cons_succ, List.getElem_toArray, List.getElem_cons_succ, List.getElem_cons_zero]
  refine wpAnyH_done (by kernel_rfl) ?_ _
  have HR8 := hide ((unhide HLD).trans h8)
  clear hHeld h8 hr8 e0 e1 e2 e3 e4 hR HC HK HLD HR6 HW5 HUp
  have HF := hide (filled_any L w8 (by omega))
  rw [unhide HP] at HF
  have hsub : (p : Int) - (L : Int) = (q : Int) := by have := unhide HPQ; omega
  obtain ⟨Z, hmk, hZ⟩ := make_noughts q (by have := unhide HPQ; omega)
  have hlz := (unhide HR8).trans ((unhide HR8).now.laid (.cells Z 5))
  have HR9 := hide hlz
  have HRaw := hide (WO.raw_any b v8 _ (.slice (some ⟨w8.heap.size, 0, none⟩) q q) (List.replicate q 0) _ (has_row (heap_alloc_new w8 (.cells Z 5)) hZ (by simp) (by have := unhide HPQ; unfold maxLen; omega)) hlz.now (by have := unhide HPQ; simp [headL_length]; omega))
  clear hlz hZ
  go_wp2_with fail
  refine (unhide HF).mono ?_
  rintro e w9 ⟨rfl, rfl⟩
  clear HF
  go_wp2_with fail
  refine (unhide HRaw).mono ?_
  rintro e w10 ⟨rfl, v10, hr10⟩
  have HR10 := hide ((unhide HR9).trans hr10)
  clear hr10 HR9 HR8 HRaw hmk
  go_wp2
  go_end0
  exact ⟨rfl, v10, unhide HR10⟩

set_option maxHeartbeats 4000000 in
set_option maxRecDepth 100000 in
theorem lay_3 (t : Nat) (n : Int) (da : Option Addr) (dl dc : Nat) (ka : Option Addr) (kl kc L b : Nat) (v : Value) (bs body : List UInt8) (w : World) (hW : WrAt 91 w b v bs) (ht : t < 16777216) (hL : L < 4294967296) (hbl : body.length ≤ 4294967296) (hr : bs.length ≤ 4294967296)
    (HL : Hid (Calls Tryd.prog 50 #[.pointer (some ⟨w.heap.size, 0, none⟩), .int .i64 1] (w.alloc (.cells #[.int .i64 t, .int .i64 3, .int .i64 n, .slice da dl dc, .slice ka kl kc] 25)) fun e w' => e = .returned (.int .i64 L) ∧ w' = w.alloc (.cells #[.int .i64 t, .int .i64 3, .int .i64 n, .slice da dl dc, .slice ka kl kc] 25)))
    (HC : Hid (∀ W v1, Wrote 91 w b v W v1 (bs ++ headL t 3 L) → Calls Tryd.prog 56 #[iv t 3 n da dl dc ka kl kc, .pointer (some ⟨b, 0, none⟩)] W fun e w' => e = .returned (.tuple #[]) ∧ ∃ v2, Wrote 91 W b v1 w' v2 ((bs ++ headL t 3 L) ++ body))) :
    Calls Tryd.prog 28 #[iv t 3 n da dl dc ka kl kc, .pointer (some ⟨b, 0, none⟩)] w fun e w' => e = .returned (.tuple #[]) ∧ ∃ v', Wrote 91 w b v w' v' (((bs ++ headL t 3 L) ++ body) ++ List.replicate (pad8 L - L) 0) := by
  obtain ⟨⟨c0, c1, c2, c3, c4⟩, oA⟩ := boxed w (.int .i64 t) (.int .i64 3) (.int .i64 n) (.slice da dl dc) (.slice ka kl kc)
  have hl := hW.laid (.cells #[.int .i64 t, .int .i64 3, .int .i64 n, .slice da dl dc, .slice ka kl kc] 25)
  have HLD := hide hl
  have HW := hide hW
  have HK : Hid (∀ W v1 cs, Wrote 91 (w.alloc (.cells #[.int .i64 t, .int .i64 3, .int .i64 n, .slice da dl dc, .slice ka kl kc] 25)) b v W v1 cs → W.cell? ⟨w.heap.size, 0, none⟩ = some (.int .i64 t) ∧ W.cell? ⟨w.heap.size, 1, none⟩ = some (.int .i64 3) ∧ W.cell? ⟨w.heap.size, 2, none⟩ = some (.int .i64 n) ∧ W.cell? ⟨w.heap.size, 3, none⟩ = some (.slice da dl dc) ∧ W.cell? ⟨w.heap.size, 4, none⟩ = some (.slice ka kl kc)) := fun W v1 cs hw =>
    ⟨wrote_box hW (Nat.le_refl _) hw c0, wrote_box hW (Nat.le_refl _) hw c1, wrote_box hW (Nat.le_refl _) hw c2, wrote_box hW (Nat.le_refl _) hw c3, wrote_box hW (Nat.le_refl _) hw c4⟩
  have H1 := hide (WO.u8_any b v bs ((t / 65536 : Nat) : Int) _ hl.now (by omega))
  rw [be_nat 1 (t / 65536) (by omega)] at H1
  rw [show ((t / 65536 : Nat) : Int) = (t : Int) / 65536 by omega] at H1
  have HS : Hid (w.heap.size + 1 = (w.alloc (.cells #[.int .i64 t, .int .i64 3, .int .i64 n, .slice da dl dc, .slice ka kl kc] 25)).heap.size) := by show _ = _; simp
  obtain ⟨p, hp⟩ : ∃ p, pad8 L = p := ⟨_, rfl⟩
  obtain ⟨q, hq⟩ : ∃ q, p - L = q := ⟨_, rfl⟩
  have hple := pad8_ge L
  have hplt : pad8 L < L + 8 := by unfold pad8; omega
  rw [hp, hq]
  rw [hp] at hple hplt
  have HP := hide hp
  have HPQ : Hid (p = L + q) := by show _ = _; omega
  clear hp hq hple
  unfold iv at HC ⊢
  have hsh := shr16 t
  go_enter Tryd.func28, Tryd.ntmps28
  clear hl hW
  go_wp2_with fail
  refine (unhide HL).mono ?_
  rintro e w2 ⟨rfl, rfl⟩
  generalize w.alloc (.cells #[.int .i64 t, .int .i64 3, .int .i64 n, .slice da dl dc, .slice ka kl kc] 25) = w1 at *
  clear HL
  go_wp2_with fail
  refine (unhide H1).mono ?_
  rintro e w2 ⟨rfl, v2, hr2⟩
  obtain ⟨d0, d1, d2, d3, d4⟩ := unhide HK _ _ _ hr2
  have HR2 := hide hr2
  have H2 := hide (WO.u16_any b v2 _ ((t : Nat) : Int) _ hr2.now (by simp [be_length]; omega))
  rw [be_nat 2 t (by omega)] at H2
  clear hr2 c0 c1 c2 c3 c4 H1 hsh
  go_wp2_with fail
  refine (unhide H2).mono ?_
  rintro e w3 ⟨rfl, v3, hr3⟩
  have HR3 := hide ((unhide HR2).trans hr3)
  obtain ⟨e0, e1, e2, e3, e4⟩ := unhide HK _ _ _ (unhide HR3)
  have H3 := hide (WO.u8_any b v3 _ ((3 : Nat) : Int) _ hr3.now (by simp [be_length]; omega))
  rw [be_nat 1 3 (by omega), show ((3 : Nat) : Int) = 3 from rfl] at H3
  clear hr3 d0 d1 d2 d3 d4 H2 HR2
  go_wp2_with fail
  refine (unhide H3).mono ?_
  rintro e w4 ⟨rfl, v4, hr4⟩
  have HR4 := hide ((unhide HR3).trans hr4)
  have H4 := hide (WO.u32_any b v4 _ ((L : Nat) : Int) _ hr4.now (by simp [be_length]; omega))
  rw [be_nat 4 L (by omega)] at H4
  clear hr4 e0 e1 e2 e3 e4 H3 HR3
  go_wp2_with fail
  refine (unhide H4).mono ?_
  rintro e w5 ⟨rfl, v5, hr5⟩
  have h5 := (unhide HR4).trans hr5
  obtain ⟨d0, d1, d2, d3, d4⟩ := unhide HK _ _ _ h5
  rw [show bs ++ be 1 (t / 65536) ++ be 2 t ++ be 1 3 ++ be 4 L = bs ++ headL t 3 L by unfold headL; rw [Int.toNat_natCast]; simp [List.append_assoc]] at h5
  have HR5 := hide h5
  have hs5 := h5.only.size
  clear hr5 H4 HR4 h5
  -- the row of layers
  have oR : Only (fun _ => False) w5 (w5.alloc (.cells #[Value.nilFunc, Value.func (Fn.func 54) #[] #[], Value.func (Fn.func 55) #[] #[], Value.func (Fn.func 56) #[] #[], Value.func (Fn.func 57) #[] #[], Value.func (Fn.func 55) #[] #[], Value.func (Fn.func 56) #[] #[], Value.func (Fn.func 57) #[] #[], Value.func (Fn.func 57) #[] #[], Value.func (Fn.func 56) #[] #[], Value.func (Fn.func 55) #[] #[]] 95)) := (Only.refl _ _).alloc _
  have hR : (w5.alloc (.cells #[Value.nilFunc, Value.func (Fn.func 54) #[] #[], Value.func (Fn.func 55) #[] #[], Value.func (Fn.func 56) #[] #[], Value.func (Fn.func 57) #[] #[], Value.func (Fn.func 55) #[] #[], Value.func (Fn.func 56) #[] #[], Value.func (Fn.func 57) #[] #[], Value.func (Fn.func 57) #[] #[], Value.func (Fn.func 56) #[] #[], Value.func (Fn.func 55) #[] #[]] 95)).cell? ⟨w5.heap.size, 3, none⟩ = some (Value.func (Fn.func 56) #[] #[]) := (cell_of_heap (heap_alloc_new w5 (.cells #[Value.nilFunc, Value.func (Fn.func 54) #[] #[], Value.func (Fn.func 55) #[] #[], Value.func (Fn.func 56) #[] #[], Value.func (Fn.func 57) #[] #[], Value.func (Fn.func 55) #[] #[], Value.func (Fn.func 56) #[] #[], Value.func (Fn.func 57) #[] #[], Value.func (Fn.func 57) #[] #[], Value.func (Fn.func 56) #[] #[], Value.func (Fn.func 55) #[] #[]] 95))).trans rfl
  have hl5 := (unhide HR5).trans ((unhide HR5).now.laid (.cells #[Value.nilFunc, Value.func (Fn.func 54) #[] #[], Value.func (Fn.func 55) #[] #[], Value.func (Fn.func 56) #[] #[], Value.func (Fn.func 57) #[] #[], Value.func (Fn.func 55) #[] #[], Value.func (Fn.func 56) #[] #[], Value.func (Fn.func 57) #[] #[], Value.func (Fn.func 57) #[] #[], Value.func (Fn.func 56) #[] #[], Value.func (Fn.func 55) #[] #[]] 95))
  have HR6 := hide hl5
  have HW5 := hide (unhide HR5).now
  have HUp : Hid (w.heap.size ≤ w5.heap.size) := by have := (unhide HS); show _ ≤ _; omega
  have e0 := oR.cell d0 (fun e => e)
  have e1 := oR.cell d1 (fun e => e)
  have e2 := oR.cell d2 (fun e => e)
  have e3 := oR.cell d3 (fun e => e)
  have e4 := oR.cell d4 (fun e => e)
  clear oR hl5 d0 d1 d2 d3 d4
  go_wp2_with fail
  generalize hw6 : w5.alloc (.cells #[Value.nilFunc, Value.func (Fn.func 54) #[] #[], Value.func (Fn.func 55) #[] #[], Value.func (Fn.func 56) #[] #[], Value.func (Fn.func 57) #[] #[], Value.func (Fn.func 55) #[] #[], Value.func (Fn.func 56) #[] #[], Value.func (Fn.func 57) #[] #[], Value.func (Fn.func 57) #[] #[], Value.func (Fn.func 56) #[] #[], Value.func (Fn.func 55) #[] #[]] 95) = w6 at *
  clear hw6 HR5
  clear hs5 HS
  refine wp_region_held_drew (S := (fun w' => (w'.cell? ⟨w.heap.size, 0, none⟩ = some (.int .i64 t) ∧ w'.cell? ⟨w.heap.size, 1, none⟩ = some (.int .i64 3) ∧ w'.cell? ⟨w.heap.size, 2, none⟩ = some (.int .i64 n) ∧ w'.cell? ⟨w.heap.size, 3, none⟩ = some (.slice da dl dc) ∧ w'.cell? ⟨w.heap.size, 4, none⟩ = some (.slice ka kl kc)) ∧ w'.cell? ⟨w5.heap.size, 3, none⟩ = some (Value.func (Fn.func 56) #[] #[]))) (by kernel_rfl) (⟨⟨e0, e1, e2, e3, e4⟩, hR⟩) (fun hHeld => ?_)
  refine wpAnyH_take (i := 0) (v := ?v15) rfl (by kernel_rfl) (by kernel_rfl) (by kernel_rfl) (fun _ _ _ h => h) (Or.inl ⟨by rfl, ?hy15⟩) (by assumption) ?rest15
  case hy15 =>
    intro w hSw
    go_simp
    try with_reducible rfl
  try simp only [Act.put, List.setIfInBounds_toArray, List.set_cons_zero, List.set_cons_succ, List.getElem_toArray, List.getElem_cons_succ, List.getElem_cons_zero]
  refine wpAnyH_take (i := 1) (v := ?v16) rfl (by kernel_rfl) (by kernel_rfl) (by kernel_rfl) (fun _ _ _ h => h) (Or.inl ⟨by rfl, ?hy16⟩) (by assumption) ?rest16
  case hy16 =>
    intro w hSw
    go_simp
    try with_reducible rfl
  try simp only [Act.put, List.setIfInBounds_toArray, List.set_cons_zero, List.set_cons_succ, List.getElem_toArray, List.getElem_cons_succ, List.getElem_cons_zero]
  refine wpAnyH_take (i := 2) (v := ?v17) rfl (by kernel_rfl) (by kernel_rfl) (by kernel_rfl) (fun _ _ _ h => h) (Or.inl ⟨by rfl, ?hy17⟩) (by assumption) ?rest17
  case hy17 =>
    intro w hSw
    (obtain ⟨⟨q0, q1, q2, q3, q4⟩, q5⟩ := hSw; go_simp; try with_reducible rfl)
  try simp only [Act.put, List.setIfInBounds_toArray, List.set_cons_zero, List.set_cons_succ, List.getElem_toArray, List.getElem_cons_succ, List.getElem_cons_zero]
  refine wpAnyH_take (i := 3) (v := ?v18) rfl (by kernel_rfl) (by kernel_rfl) (by kernel_rfl) (fun _ _ _ h => h) (Or.inl ⟨by rfl, ?hy18⟩) (by assumption) ?rest18
  case hy18 =>
    intro w hSw
    go_simp
    try with_reducible rfl
  try simp only [Act.put, List.setIfInBounds_toArray, List.set_cons_zero, List.set_cons_succ, List.getElem_toArray, List.getElem_cons_succ, List.getElem_cons_zero]
  refine wpAnyH_take (i := 4) (v := ?v19) rfl (by kernel_rfl) (by kernel_rfl) (by kernel_rfl) (fun _ _ _ h => h) (Or.inl ⟨by rfl, ?hy19⟩) (by assumption) ?rest19
  case hy19 =>
    intro w hSw
    (obtain ⟨⟨q0, q1, q2, q3, q4⟩, q5⟩ := hSw; go_simp; try with_reducible rfl)
  try simp only [Act.put, List.setIfInBounds_toArray, List.set_cons_zero, List.set_cons_succ, List.getElem_toArray, List.getElem_cons_succ, List.getElem_cons_zero]
  refine wpAnyH_take (i := 5) (v := ?v20) rfl (by kernel_rfl) (by kernel_rfl) (by kernel_rfl) (fun _ _ _ h => h) (Or.inl ⟨by rfl, ?hy20⟩) (by assumption) ?rest20
  case hy20 =>
    intro w hSw
    (obtain ⟨⟨q0, q1, q2, q3, q4⟩, q5⟩ := hSw; go_simp; try with_reducible rfl)
  try simp only [Act.put, List.setIfInBounds_toArray, List.set_cons_zero, List.set_cons_succ, List.getElem_toArray, List.getElem_cons_succ, List.getElem_cons_zero]
  refine wpAnyH_take (i := 6) (v := ?v21) rfl (by kernel_rfl) (by kernel_rfl) (by kernel_rfl) (fun _ _ _ h => h) (Or.inl ⟨by rfl, ?hy21⟩) (by assumption) ?rest21
  case hy21 =>
    intro w hSw
    go_simp
    try with_reducible rfl
  try simp only [Act.put, List.setIfInBounds_toArray, List.set_cons_zero, List.set_cons_succ, List.getElem_toArray, List.getElem_cons_succ, List.getElem_cons_zero]
  refine wpAnyH_ready (rs := [7]) (by kernel_rfl) (by simp) ?_
  refine AllReadyH.cons rfl (fun K hK => ?_) AllReadyH.nil
  go_simp
  go_wp2_with fail; refine (unhide HC _ _ ((unhide HLD).trans (wrote_drew (unhide HR6)))).mono ?_; rintro e w8 ⟨rfl, v8, hr8⟩; have h8 := (wrote_drew (unhide HR6)).trans hr8
  refine hK.out _ _ (⟨unhide HK _ _ _ h8, wrote_box (unhide HW5) (Nat.le_refl _) hr8 (((Only.refl (fun _ => False) w6).drew).cell hR (fun e => e))⟩) (fun hHeld => ?_)
  clear hK K
  try simp only [Act.put, List.setIfInBounds_toArray, List.set_cons_zero, List.set_cons_succ, List.getElem_toArray, List.getElem_cons_succ, List.getElem_cons_zero]
  refine wpAnyH_done (by kernel_rfl) ?_ _
  have HR8 := hide ((unhide HLD).trans h8)
  clear hHeld h8 hr8 e0 e1 e2 e3 e4 hR HC HK HLD HR6 HW5 HUp
  have HF := hide (filled_any L w8 (by omega))
  rw [unhide HP] at HF
  have hsub : (p : Int) - (L : Int) = (q : Int) := by have := unhide HPQ; omega
  obtain ⟨Z, hmk, hZ⟩ := make_noughts q (by have := unhide HPQ; omega)
  have hlz := (unhide HR8).trans ((unhide HR8).now.laid (.cells Z 5))
  have HR9 := hide hlz
  have HRaw := hide (WO.raw_any b v8 _ (.slice (some ⟨w8.heap.size, 0, none⟩) q q) (List.replicate q 0) _ (has_row (heap_alloc_new w8 (.cells Z 5)) hZ (by simp) (by have := unhide HPQ; unfold maxLen; omega)) hlz.now (by have := unhide HPQ; simp [headL_length]; omega))
  clear hlz hZ
  go_wp2_with fail
  refine (unhide HF).mono ?_
  rintro e w9 ⟨rfl, rfl⟩
  clear HF
  go_wp2_with fail
  refine (unhide HRaw).mono ?_
  rintro e w10 ⟨rfl, v10, hr10⟩
  have HR10 := hide ((unhide HR9).trans hr10)
  clear hr10 HR9 HR8 HRaw hmk
  go_wp2
  go_end0
  exact ⟨rfl, v10, unhide HR10⟩

set_option maxHeartbeats 4000000 in
set_option maxRecDepth 100000 in
theorem lay_4 (t : Nat) (n : Int) (da : Option Addr) (dl dc : Nat) (ka : Option Addr) (kl kc L b : Nat) (v : Value) (bs body : List UInt8) (w : World) (hW : WrAt 91 w b v bs) (ht : t < 16777216) (hL : L < 4294967296) (hbl : body.length ≤ 4294967296) (hr : bs.length ≤ 4294967296)
    (HL : Hid (Calls Tryd.prog 50 #[.pointer (some ⟨w.heap.size, 0, none⟩), .int .i64 1] (w.alloc (.cells #[.int .i64 t, .int .i64 4, .int .i64 n, .slice da dl dc, .slice ka kl kc] 25)) fun e w' => e = .returned (.int .i64 L) ∧ w' = w.alloc (.cells #[.int .i64 t, .int .i64 4, .int .i64 n, .slice da dl dc, .slice ka kl kc] 25)))
    (HC : Hid (∀ W v1, Wrote 91 w b v W v1 (bs ++ headL t 4 L) → Calls Tryd.prog 57 #[iv t 4 n da dl dc ka kl kc, .pointer (some ⟨b, 0, none⟩)] W fun e w' => e = .returned (.tuple #[]) ∧ ∃ v2, Wrote 91 W b v1 w' v2 ((bs ++ headL t 4 L) ++ body))) :
    Calls Tryd.prog 28 #[iv t 4 n da dl dc ka kl kc, .pointer (some ⟨b, 0, none⟩)] w fun e w' => e = .returned (.tuple #[]) ∧ ∃ v', Wrote 91 w b v w' v' (((bs ++ headL t 4 L) ++ body) ++ List.replicate (pad8 L - L) 0) := by
  obtain ⟨⟨c0, c1, c2, c3, c4⟩, oA⟩ := boxed w (.int .i64 t) (.int .i64 4) (.int .i64 n) (.slice da dl dc) (.slice ka kl kc)
  have hl := hW.laid (.cells #[.int .i64 t, .int .i64 4, .int .i64 n, .slice da dl dc, .slice ka kl kc] 25)
  have HLD := hide hl
  have HW := hide hW
  have HK : Hid (∀ W v1 cs, Wrote 91 (w.alloc (.cells #[.int .i64 t, .int .i64 4, .int .i64 n, .slice da dl dc, .slice ka kl kc] 25)) b v W v1 cs → W.cell? ⟨w.heap.size, 0, none⟩ = some (.int .i64 t) ∧ W.cell? ⟨w.heap.size, 1, none⟩ = some (.int .i64 4) ∧ W.cell? ⟨w.heap.size, 2, none⟩ = some (.int .i64 n) ∧ W.cell? ⟨w.heap.size, 3, none⟩ = some (.slice da dl dc) ∧ W.cell? ⟨w.heap.size, 4, none⟩ = some (.slice ka kl kc)) := fun W v1 cs hw =>
    ⟨wrote_box hW (Nat.le_refl _) hw c0, wrote_box hW (Nat.le_refl _) hw c1, wrote_box hW (Nat.le_refl _) hw c2, wrote_box hW (Nat.le_refl _) hw c3, wrote_box hW (Nat.le_refl _) hw c4⟩
  have H1 := hide (WO.u8_any b v bs ((t / 65536 : Nat) : Int) _ hl.now (by omega))
  rw [be_nat 1 (t / 65536) (by omega)] at H1
  rw [show ((t / 65536 : Nat) : Int) = (t : Int) / 65536 by omega] at H1
  have HS : Hid (w.heap.size + 1 = (w.alloc (.cells #[.int .i64 t, .int .i64 4, .int .i64 n, .slice da dl dc, .slice ka kl kc] 25)).heap.size) := by show _ = _; simp
  obtain ⟨p, hp⟩ : ∃ p, pad8 L = p := ⟨_, rfl⟩
  obtain ⟨q, hq⟩ : ∃ q, p - L = q := ⟨_, rfl⟩
  have hple := pad8_ge L
  have hplt : pad8 L < L + 8 := by unfold pad8; omega
  rw [hp, hq]
  rw [hp] at hple hplt
  have HP := hide hp
  have HPQ : Hid (p = L + q) := by show _ = _; omega
  clear hp hq hple
  unfold iv at HC ⊢
  have hsh := shr16 t
  go_enter Tryd.func28, Tryd.ntmps28
  clear hl hW
  go_wp2_with fail
  refine (unhide HL).mono ?_
  rintro e w2 ⟨rfl, rfl⟩
  generalize w.alloc (.cells #[.int .i64 t, .int .i64 4, .int .i64 n, .slice da dl dc, .slice ka kl kc] 25) = w1 at *
  clear HL
  go_wp2_with fail
  refine (unhide H1).mono ?_
  rintro e w2 ⟨rfl, v2, hr2⟩
  obtain ⟨d0, d1, d2, d3, d4⟩ := unhide HK _ _ _ hr2
  have HR2 := hide hr2
  have H2 := hide (WO.u16_any b v2 _ ((t : Nat) : Int) _ hr2.now (by simp [be_length]; omega))
  rw [be_nat 2 t (by omega)] at H2
  clear hr2 c0 c1 c2 c3 c4 H1 hsh
  go_wp2_with fail
  refine (unhide H2).mono ?_
  rintro e w3 ⟨rfl, v3, hr3⟩
  have HR3 := hide ((unhide HR2).trans hr3)
  obtain ⟨e0, e1, e2, e3, e4⟩ := unhide HK _ _ _ (unhide HR3)
  have H3 := hide (WO.u8_any b v3 _ ((4 : Nat) : Int) _ hr3.now (by simp [be_length]; omega))
  rw [be_nat 1 4 (by omega), show ((4 : Nat) : Int) = 4 from rfl] at H3
  clear hr3 d0 d1 d2 d3 d4 H2 HR2
  go_wp2_with fail
  refine (unhide H3).mono ?_
  rintro e w4 ⟨rfl, v4, hr4⟩
  have HR4 := hide ((unhide HR3).trans hr4)
  have H4 := hide (WO.u32_any b v4 _ ((L : Nat) : Int) _ hr4.now (by simp [be_length]; omega))
  rw [be_nat 4 L (by omega)] at H4
  clear hr4 e0 e1 e2 e3 e4 H3 HR3
  go_wp2_with fail
  refine (unhide H4).mono ?_
  rintro e w5 ⟨rfl, v5, hr5⟩
  have h5 := (unhide HR4).trans hr5
  obtain ⟨d0, d1, d2, d3, d4⟩ := unhide HK _ _ _ h5
  rw [show bs ++ be 1 (t / 65536) ++ be 2 t ++ be 1 4 ++ be 4 L = bs ++ headL t 4 L by unfold headL; rw [Int.toNat_natCast]; simp [List.append_assoc]] at h5
  have HR5 := hide h5
  have hs5 := h5.only.size
  clear hr5 H4 HR4 h5
  -- the row of layers
  have oR : Only (fun _ => False) w5 (w5.alloc (.cells #[Value.nilFunc, Value.func (Fn.func 54) #[] #[], Value.func (Fn.func 55) #[] #[], Value.func (Fn.func 56) #[] #[], Value.func (Fn.func 57) #[] #[], Value.func (Fn.func 55) #[] #[], Value.func (Fn.func 56) #[] #[], Value.func (Fn.func 57) #[] #[], Value.func (Fn.func 57) #[] #[], Value.func (Fn.func 56) #[] #[], Value.func (Fn.func 55) #[] #[]] 95)) := (Only.refl _ _).alloc _
  have hR : (w5.alloc (.cells #[Value.nilFunc, Value.func (Fn.func 54) #[] #[], Value.func (Fn.func 55) #[] #[], Value.func (Fn.func 56) #[] #[], Value.func (Fn.func 57) #[] #[], Value.func (Fn.func 55) #[] #[], Value.func (Fn.func 56) #[] #[], Value.func (Fn.func 57) #[] #[], Value.func (Fn.func 57) #[] #[], Value.func (Fn.func 56) #[] #[], Value.func (Fn.func 55) #[] #[]] 95)).cell? ⟨w5.heap.size, 4, none⟩ = some (Value.func (Fn.func 57) #[] #[]) := (cell_of_heap (heap_alloc_new w5 (.cells #[Value.nilFunc, Value.func (Fn.func 54) #[] #[], Value.func (Fn.func 55) #[] #[], Value.func (Fn.func 56) #[] #[], Value.func (Fn.func 57) #[] #[], Value.func (Fn.func 55) #[] #[], Value.func (Fn.func 56) #[] #[], Value.func (Fn.func 57) #[] #[], Value.func (Fn.func 57) #[] #[], Value.func (Fn.func 56) #[] #[], Value.func (Fn.func 55) #[] #[]] 95))).trans rfl
  have hl5 := (unhide HR5).trans ((unhide HR5).now.laid (.cells #[Value.nilFunc, Value.func (Fn.func 54) #[] #[], Value.func (Fn.func 55) #[] #[], Value.func (Fn.func 56) #[] #[], Value.func (Fn.func 57) #[] #[], Value.func (Fn.func 55) #[] #[], Value.func (Fn.func 56) #[] #[], Value.func (Fn.func 57) #[] #[], Value.func (Fn.func 57) #[] #[], Value.func (Fn.func 56) #[] #[], Value.func (Fn.func 55) #[] #[]] 95))
  have HR6 := hide hl5
  have HW5 := hide (unhide HR5).now
  have HUp : Hid (w.heap.size ≤ w5.heap.size) := by have := (unhide HS); show _ ≤ _; omega
  have e0 := oR.cell d0 (fun e => e)
  have e1 := oR.cell d1 (fun e => e)
  have e2 := oR.cell d2 (fun e => e)
  have e3 := oR.cell d3 (fun e => e)
  have e4 := oR.cell d4 (fun e => e)
  clear oR hl5 d0 d1 d2 d3 d4
  go_wp2_with fail
  generalize hw6 : w5.alloc (.cells #[Value.nilFunc, Value.func (Fn.func 54) #[] #[], Value.func (Fn.func 55) #[] #[], Value.func (Fn.func 56) #[] #[], Value.func (Fn.func 57) #[] #[], Value.func (Fn.func 55) #[] #[], Value.func (Fn.func 56) #[] #[], Value.func (Fn.func 57) #[] #[], Value.func (Fn.func 57) #[] #[], Value.func (Fn.func 56) #[] #[], Value.func (Fn.func 55) #[] #[]] 95) = w6 at *
  clear hw6 HR5
  clear hs5 HS
  refine wp_region_held_drew (S := (fun w' => (w'.cell? ⟨w.heap.size, 0, none⟩ = some (.int .i64 t) ∧ w'.cell? ⟨w.heap.size, 1, none⟩ = some (.int .i64 4) ∧ w'.cell? ⟨w.heap.size, 2, none⟩ = some (.int .i64 n) ∧ w'.cell? ⟨w.heap.size, 3, none⟩ = some (.slice da dl dc) ∧ w'.cell? ⟨w.heap.size, 4, none⟩ = some (.slice ka kl kc)) ∧ w'.cell? ⟨w5.heap.size, 4, none⟩ = some (Value.func (Fn.func 57) #[] #[]))) (by kernel_rfl) (⟨⟨e0, e1, e2, e3, e4⟩, hR⟩) (fun hHeld => ?_)
  refine wpAnyH_take (i := 0) (v := ?v22) rfl (by kernel_rfl) (by kernel_rfl) (by kernel_rfl) (fun _ _ _ h => h) (Or.inl ⟨by rfl, ?hy22⟩) (by assumption) ?rest22
  case hy22 =>
    intro w hSw
    go_simp
    try with_reducible rfl
  try simp only [Act.put, List.setIfInBounds_toArray, List.set_cons_zero, List.set_cons_succ, List.getElem_toArray, List.getElem_cons_succ, List.getElem_cons_zero]
  refine wpAnyH_take (i := 1) (v := ?v23) rfl (by kernel_rfl) (by kernel_rfl) (by kernel_rfl) (fun _ _ _ h => h) (Or.inl ⟨by rfl, ?hy23⟩) (by assumption) ?rest23
  case hy23 =>
    intro w hSw
    go_simp
    try with_reducible rfl
  try simp only [Act.put, List.setIfInBounds_toArray, List.set_cons_zero, List.set_cons_succ, List.getElem_toArray, List.getElem_cons_succ, List.getElem_cons_zero]
  refine wpAnyH_take (i := 2) (v := ?v24) rfl (by kernel_rfl) (by kernel_rfl) (by kernel_rfl) (fun _ _ _ h => h) (Or.inl ⟨by rfl, ?hy24⟩) (by assumption) ?rest24
  case hy24 =>
    intro w hSw
    (obtain ⟨⟨q0, q1, q2, q3, q4⟩, q5⟩ := hSw; go_simp; try with_reducible rfl)
  try simp only [Act.put, List.setIfInBounds_toArray, List.set_cons_zero, List.set_cons_succ, List.getElem_toArray, List.getElem_cons_succ, List.getElem_cons_zero]
  refine wpAnyH_take (i := 3) (v := ?v25) rfl (by kernel_rfl) (by kernel_rfl) (by kernel_rfl) (fun _ _ _ h => h) (Or.inl ⟨by rfl, ?hy25⟩) (by assumption) ?rest25
  case hy25 =>
    intro w hSw
    go_simp
    try with_reducible rfl
  try simp only [Act.put, List.setIfInBounds_toArray, List.set_cons_zero, List.set_cons_succ, List.getElem_toArray, List.getElem_cons_succ, List.getElem_cons_zero]
  refine wpAnyH_take (i := 4) (v := ?v26) rfl (by kernel_rfl) (by kernel_rfl) (by kernel_rfl) (fun _ _ _ h => h) (Or.inl ⟨by rfl, ?hy26⟩) (by assumption) ?rest26
  case hy26 =>
    intro w hSw
    (obtain ⟨⟨q0, q1, q2, q3, q4⟩, q5⟩ := hSw; go_simp; try with_reducible rfl)
  try simp only [Act.put, List.setIfInBounds_toArray, List.set_cons_zero, List.set_cons_succ, List.getElem_toArray, List.getElem_cons_succ, List.getElem_cons_zero]
  refine wpAnyH_take (i := 5) (v := ?v27) rfl (by kernel_rfl) (by kernel_rfl) (by kernel_rfl) (fun _ _ _ h => h) (Or.inl ⟨by rfl, ?hy27⟩) (by assumption) ?rest27
  case hy27 =>
    intro w hSw
    (obtain ⟨⟨q0, q1, q2, q3, q4⟩, q5⟩ := hSw; go_simp; try with_reducible rfl)
  try simp only [Act.put, List.setIfInBounds_toArray, List.set_cons_zero, List.set_cons_succ, List.getElem_toArray, List.getElem_cons_succ, List.getElem_cons_zero]
  refine wpAnyH_take (i := 6) (v := ?v28) rfl (by kernel_rfl) (by kernel_rfl) (by kernel_rfl) (fun _ _ _ h => h) (Or.inl ⟨by rfl, ?hy28⟩) (by assumption) ?rest28
  case hy28 =>
    intro w hSw
    go_simp
    try with_reducible rfl
  try simp only [Act.put, List.setIfInBounds_toArray, List.set_cons_zero, List.set_cons_succ, List.getElem_toArray, List.getElem_cons_succ, List.getElem_cons_zero]
  refine wpAnyH_ready (rs := [7]) (by kernel_rfl) (by simp) ?_
  refine AllReadyH.cons rfl (fun K hK => ?_) AllReadyH.nil
  go_simp
  go_wp2_with fail; refine (unhide HC _ _ ((unhide HLD).trans (wrote_drew (unhide HR6)))).mono ?_; rintro e w8 ⟨rfl, v8, hr8⟩; have h8 := (wrote_drew (unhide HR6)).trans hr8
  refine hK.out _ _ (⟨unhide HK _ _ _ h8, wrote_box (unhide HW5) (Nat.le_refl _) hr8 (((Only.refl (fun _ => False) w6).drew).cell hR (fun e => e))⟩) (fun hHeld => ?_)
  clear hK K
  try simp only [Act.put, List.setIfInBounds_toArray, List.set_cons_zero, List.set_cons_succ, List.getElem_toArray, List.getElem_cons_succ, List.getElem_cons_zero]
  refine wpAnyH_done (by kernel_rfl) ?_ _
  have HR8 := hide ((unhide HLD).trans h8)
  clear hHeld h8 hr8 e0 e1 e2 e3 e4 hR HC HK HLD HR6 HW5 HUp
  have HF := hide (filled_any L w8 (by omega))
  rw [unhide HP] at HF
  have hsub : (p : Int) - (L : Int) = (q : Int) := by have := unhide HPQ; omega
  obtain ⟨Z, hmk, hZ⟩ := make_noughts q (by have := unhide HPQ; omega)
  have hlz := (unhide HR8).trans ((unhide HR8).now.laid (.cells Z 5))
  have HR9 := hide hlz
  have HRaw := hide (WO.raw_any b v8 _ (.slice (some ⟨w8.heap.size, 0, none⟩) q q) (List.replicate q 0) _ (has_row (heap_alloc_new w8 (.cells Z 5)) hZ (by simp) (by have := unhide HPQ; unfold maxLen; omega)) hlz.now (by have := unhide HPQ; simp [headL_length]; omega))
  clear hlz hZ
  go_wp2_with fail
  refine (unhide HF).mono ?_
  rintro e w9 ⟨rfl, rfl⟩
  clear HF
  go_wp2_with fail
  refine (unhide HRaw).mono ?_
  rintro e w10 ⟨rfl, v10, hr10⟩
  have HR10 := hide ((unhide HR9).trans hr10)
  clear hr10 HR9 HR8 HRaw hmk
  go_wp2
  go_end0
  exact ⟨rfl, v10, unhide HR10⟩

set_option maxHeartbeats 4000000 in
set_option maxRecDepth 100000 in
theorem lay_5 (t : Nat) (n : Int) (da : Option Addr) (dl dc : Nat) (ka : Option Addr) (kl kc L b : Nat) (v : Value) (bs body : List UInt8) (w : World) (hW : WrAt 91 w b v bs) (ht : t < 16777216) (hL : L < 4294967296) (hbl : body.length ≤ 4294967296) (hr : bs.length ≤ 4294967296)
    (HL : Hid (Calls Tryd.prog 50 #[.pointer (some ⟨w.heap.size, 0, none⟩), .int .i64 1] (w.alloc (.cells #[.int .i64 t, .int .i64 5, .int .i64 n, .slice da dl dc, .slice ka kl kc] 25)) fun e w' => e = .returned (.int .i64 L) ∧ w' = w.alloc (.cells #[.int .i64 t, .int .i64 5, .int .i64 n, .slice da dl dc, .slice ka kl kc] 25)))
    (HC : Hid (∀ W v1, Wrote 91 w b v W v1 (bs ++ headL t 5 L) → Calls Tryd.prog 55 #[iv t 5 n da dl dc ka kl kc, .pointer (some ⟨b, 0, none⟩)] W fun e w' => e = .returned (.tuple #[]) ∧ ∃ v2, Wrote 91 W b v1 w' v2 ((bs ++ headL t 5 L) ++ body))) :
    Calls Tryd.prog 28 #[iv t 5 n da dl dc ka kl kc, .pointer (some ⟨b, 0, none⟩)] w fun e w' => e = .returned (.tuple #[]) ∧ ∃ v', Wrote 91 w b v w' v' (((bs ++ headL t 5 L) ++ body) ++ List.replicate (pad8 L - L) 0) := by
  obtain ⟨⟨c0, c1, c2, c3, c4⟩, oA⟩ := boxed w (.int .i64 t) (.int .i64 5) (.int .i64 n) (.slice da dl dc) (.slice ka kl kc)
  have hl := hW.laid (.cells #[.int .i64 t, .int .i64 5, .int .i64 n, .slice da dl dc, .slice ka kl kc] 25)
  have HLD := hide hl
  have HW := hide hW
  have HK : Hid (∀ W v1 cs, Wrote 91 (w.alloc (.cells #[.int .i64 t, .int .i64 5, .int .i64 n, .slice da dl dc, .slice ka kl kc] 25)) b v W v1 cs → W.cell? ⟨w.heap.size, 0, none⟩ = some (.int .i64 t) ∧ W.cell? ⟨w.heap.size, 1, none⟩ = some (.int .i64 5) ∧ W.cell? ⟨w.heap.size, 2, none⟩ = some (.int .i64 n) ∧ W.cell? ⟨w.heap.size, 3, none⟩ = some (.slice da dl dc) ∧ W.cell? ⟨w.heap.size, 4, none⟩ = some (.slice ka kl kc)) := fun W v1 cs hw =>
    ⟨wrote_box hW (Nat.le_refl _) hw c0, wrote_box hW (Nat.le_refl _) hw c1, wrote_box hW (Nat.le_refl _) hw c2, wrote_box hW (Nat.le_refl _) hw c3, wrote_box hW (Nat.le_refl _) hw c4⟩
  have H1 := hide (WO.u8_any b v bs ((t / 65536 : Nat) : Int) _ hl.now (by omega))
  rw [be_nat 1 (t / 65536) (by omega)] at H1
  rw [show ((t / 65536 : Nat) : Int) = (t : Int) / 65536 by omega] at H1
  have HS : Hid (w.heap.size + 1 = (w.alloc (.cells #[.int .i64 t, .int .i64 5, .int .i64 n, .slice da dl dc, .slice ka kl kc] 25)).heap.size) := by show _ = _; simp
  obtain ⟨p, hp⟩ : ∃ p, pad8 L = p := ⟨_, rfl⟩
  obtain ⟨q, hq⟩ : ∃ q, p - L = q := ⟨_, rfl⟩
  have hple := pad8_ge L
  have hplt : pad8 L < L + 8 := by unfold pad8; omega
  rw [hp, hq]
  rw [hp] at hple hplt
  have HP := hide hp
  have HPQ : Hid (p = L + q) := by show _ = _; omega
  clear hp hq hple
  unfold iv at HC ⊢
  have hsh := shr16 t
  go_enter Tryd.func28, Tryd.ntmps28
  clear hl hW
  go_wp2_with fail
  refine (unhide HL).mono ?_
  rintro e w2 ⟨rfl, rfl⟩
  generalize w.alloc (.cells #[.int .i64 t, .int .i64 5, .int .i64 n, .slice da dl dc, .slice ka kl kc] 25) = w1 at *
  clear HL
  go_wp2_with fail
  refine (unhide H1).mono ?_
  rintro e w2 ⟨rfl, v2, hr2⟩
  obtain ⟨d0, d1, d2, d3, d4⟩ := unhide HK _ _ _ hr2
  have HR2 := hide hr2
  have H2 := hide (WO.u16_any b v2 _ ((t : Nat) : Int) _ hr2.now (by simp [be_length]; omega))
  rw [be_nat 2 t (by omega)] at H2
  clear hr2 c0 c1 c2 c3 c4 H1 hsh
  go_wp2_with fail
  refine (unhide H2).mono ?_
  rintro e w3 ⟨rfl, v3, hr3⟩
  have HR3 := hide ((unhide HR2).trans hr3)
  obtain ⟨e0, e1, e2, e3, e4⟩ := unhide HK _ _ _ (unhide HR3)
  have H3 := hide (WO.u8_any b v3 _ ((5 : Nat) : Int) _ hr3.now (by simp [be_length]; omega))
  rw [be_nat 1 5 (by omega), show ((5 : Nat) : Int) = 5 from rfl] at H3
  clear hr3 d0 d1 d2 d3 d4 H2 HR2
  go_wp2_with fail
  refine (unhide H3).mono ?_
  rintro e w4 ⟨rfl, v4, hr4⟩
  have HR4 := hide ((unhide HR3).trans hr4)
  have H4 := hide (WO.u32_any b v4 _ ((L : Nat) : Int) _ hr4.now (by simp [be_length]; omega))
  rw [be_nat 4 L (by omega)] at H4
  clear hr4 e0 e1 e2 e3 e4 H3 HR3
  go_wp2_with fail
  refine (unhide H4).mono ?_
  rintro e w5 ⟨rfl, v5, hr5⟩
  have h5 := (unhide HR4).trans hr5
  obtain ⟨d0, d1, d2, d3, d4⟩ := unhide HK _ _ _ h5
  rw [show bs ++ be 1 (t / 65536) ++ be 2 t ++ be 1 5 ++ be 4 L = bs ++ headL t 5 L by unfold headL; rw [Int.toNat_natCast]; simp [List.append_assoc]] at h5
  have HR5 := hide h5
  have hs5 := h5.only.size
  clear hr5 H4 HR4 h5
  -- the row of layers
  have oR : Only (fun _ => False) w5 (w5.alloc (.cells #[Value.nilFunc, Value.func (Fn.func 54) #[] #[], Value.func (Fn.func 55) #[] #[], Value.func (Fn.func 56) #[] #[], Value.func (Fn.func 57) #[] #[], Value.func (Fn.func 55) #[] #[], Value.func (Fn.func 56) #[] #[], Value.func (Fn.func 57) #[] #[], Value.func (Fn.func 57) #[] #[], Value.func (Fn.func 56) #[] #[], Value.func (Fn.func 55) #[] #[]] 95)) := (Only.refl _ _).alloc _
  have hR : (w5.alloc (.cells #[Value.nilFunc, Value.func (Fn.func 54) #[] #[], Value.func (Fn.func 55) #[] #[], Value.func (Fn.func 56) #[] #[], Value.func (Fn.func 57) #[] #[], Value.func (Fn.func 55) #[] #[], Value.func (Fn.func 56) #[] #[], Value.func (Fn.func 57) #[] #[], Value.func (Fn.func 57) #[] #[], Value.func (Fn.func 56) #[] #[], Value.func (Fn.func 55) #[] #[]] 95)).cell? ⟨w5.heap.size, 5, none⟩ = some (Value.func (Fn.func 55) #[] #[]) := (cell_of_heap (heap_alloc_new w5 (.cells #[Value.nilFunc, Value.func (Fn.func 54) #[] #[], Value.func (Fn.func 55) #[] #[], Value.func (Fn.func 56) #[] #[], Value.func (Fn.func 57) #[] #[], Value.func (Fn.func 55) #[] #[], Value.func (Fn.func 56) #[] #[], Value.func (Fn.func 57) #[] #[], Value.func (Fn.func 57) #[] #[], Value.func (Fn.func 56) #[] #[], Value.func (Fn.func 55) #[] #[]] 95))).trans rfl
  have hl5 := (unhide HR5).trans ((unhide HR5).now.laid (.cells #[Value.nilFunc, Value.func (Fn.func 54) #[] #[], Value.func (Fn.func 55) #[] #[], Value.func (Fn.func 56) #[] #[], Value.func (Fn.func 57) #[] #[], Value.func (Fn.func 55) #[] #[], Value.func (Fn.func 56) #[] #[], Value.func (Fn.func 57) #[] #[], Value.func (Fn.func 57) #[] #[], Value.func (Fn.func 56) #[] #[], Value.func (Fn.func 55) #[] #[]] 95))
  have HR6 := hide hl5
  have HW5 := hide (unhide HR5).now
  have HUp : Hid (w.heap.size ≤ w5.heap.size) := by have := (unhide HS); show _ ≤ _; omega
  have e0 := oR.cell d0 (fun e => e)
  have e1 := oR.cell d1 (fun e => e)
  have e2 := oR.cell d2 (fun e => e)
  have e3 := oR.cell d3 (fun e => e)
  have e4 := oR.cell d4 (fun e => e)
  clear oR hl5 d0 d1 d2 d3 d4
  go_wp2_with fail
  generalize hw6 : w5.alloc (.cells #[Value.nilFunc, Value.func (Fn.func 54) #[] #[], Value.func (Fn.func 55) #[] #[], Value.func (Fn.func 56) #[] #[], Value.func (Fn.func 57) #[] #[], Value.func (Fn.func 55) #[] #[], Value.func (Fn.func 56) #[] #[], Value.func (Fn.func 57) #[] #[], Value.func (Fn.func 57) #[] #[], Value.func (Fn.func 56) #[] #[], Value.func (Fn.func 55) #[] #[]] 95) = w6 at *
  clear hw6 HR5
  clear hs5 HS
  refine wp_region_held_drew (S := (fun w' => (w'.cell? ⟨w.heap.size, 0, none⟩ = some (.int .i64 t) ∧ w'.cell? ⟨w.heap.size, 1, none⟩ = some (.int .i64 5) ∧ w'.cell? ⟨w.heap.size, 2, none⟩ = some (.int .i64 n) ∧ w'.cell? ⟨w.heap.size, 3, none⟩ = some (.slice da dl dc) ∧ w'.cell? ⟨w.heap.size, 4, none⟩ = some (.slice ka kl kc)) ∧ w'.cell? ⟨w5.heap.size, 5, none⟩ = some (Value.func (Fn.func 55) #[] #[]))) (by kernel_rfl) (⟨⟨e0, e1, e2, e3, e4⟩, hR⟩) (fun hHeld => ?_)
  refine wpAnyH_take (i := 0) (v := ?v29) rfl (by kernel_rfl) (by kernel_rfl) (by kernel_rfl) (fun _ _ _ h => h) (Or.inl ⟨by rfl, ?hy29⟩) (by assumption) ?rest29
  case hy29 =>
    intro w hSw
    go_simp
    try with_reducible rfl
  try simp only [Act.put, List.setIfInBounds_toArray, List.set_cons_zero, List.set_cons_succ, List.getElem_toArray, List.getElem_cons_succ, List.getElem_cons_zero]
  refine wpAnyH_take (i := 1) (v := ?v30) rfl (by kernel_rfl) (by kernel_rfl) (by kernel_rfl) (fun _ _ _ h => h) (Or.inl ⟨by rfl, ?hy30⟩) (by assumption) ?rest30
  case hy30 =>
    intro w hSw
    go_simp
    try with_reducible rfl
  try simp only [Act.put, List.setIfInBounds_toArray, List.set_cons_zero, List.set_cons_succ, List.getElem_toArray, List.getElem_cons_succ, List.getElem_cons_zero]
  refine wpAnyH_take (i := 2) (v := ?v31) rfl (by kernel_rfl) (by kernel_rfl) (by kernel_rfl) (fun _ _ _ h => h) (Or.inl ⟨by rfl, ?hy31⟩) (by assumption) ?rest31
  case hy31 =>
    intro w hSw
    (obtain ⟨⟨q0, q1, q2, q3, q4⟩, q5⟩ := hSw; go_simp; try with_reducible rfl)
  try simp only [Act.put, List.setIfInBounds_toArray, List.set_cons_zero, List.set_cons_succ, List.getElem_toArray, List.getElem_cons_succ, List.getElem_cons_zero]
  refine wpAnyH_take (i := 3) (v := ?v32) rfl (by kernel_rfl) (by kernel_rfl) (by kernel_rfl) (fun _ _ _ h => h) (Or.inl ⟨by rfl, ?hy32⟩) (by assumption) ?rest32
  case hy32 =>
    intro w hSw
    go_simp
    try with_reducible rfl
  try simp only [Act.put, List.setIfInBounds_toArray, List.set_cons_zero, List.set_cons_succ, List.getElem_toArray, List.getElem_cons_succ, List.getElem_cons_zero]
  refine wpAnyH_take (i := 4) (v := ?v33) rfl (by kernel_rfl) (by kernel_rfl) (by kernel_rfl) (fun _ _ _ h => h) (Or.inl ⟨by rfl, ?hy33⟩) (by assumption) ?rest33
  case hy33 =>
    intro w hSw
    (obtain ⟨⟨q0, q1, q2, q3, q4⟩, q5⟩ := hSw; go_simp; try with_reducible rfl)
  try simp only [Act.put, List.setIfInBounds_toArray, List.set_cons_zero, List.set_cons_succ, List.getElem_toArray, List.getElem_cons_succ, List.getElem_cons_zero]
  refine wpAnyH_take (i := 5) (v := ?v34) rfl (by kernel_rfl) (by kernel_rfl) (by kernel_rfl) (fun _ _ _ h => h) (Or.inl ⟨by rfl, ?hy34⟩) (by assumption) ?rest34
  case hy34 =>
    intro w hSw
    (obtain ⟨⟨q0, q1, q2, q3, q4⟩, q5⟩ := hSw; go_simp; try with_reducible rfl)
  try simp only [Act.put, List.setIfInBounds_toArray, List.set_cons_zero, List.set_cons_succ, List.getElem_toArray, List.getElem_cons_succ, List.getElem_cons_zero]
  refine wpAnyH_take (i := 6) (v := ?v35) rfl (by kernel_rfl) (by kernel_rfl) (by kernel_rfl) (fun _ _ _ h => h) (Or.inl ⟨by rfl, ?hy35⟩) (by assumption) ?rest35
  case hy35 =>
    intro w hSw
    go_simp
    try with_reducible rfl
  try simp only [Act.put, List.setIfInBounds_toArray, List.set_cons_zero, List.set_cons_succ, List.getElem_toArray, List.getElem_cons_succ, List.getElem_cons_zero]
  refine wpAnyH_ready (rs := [7]) (by kernel_rfl) (by simp) ?_
  refine AllReadyH.cons rfl (fun K hK => ?_) AllReadyH.nil
  go_simp
  go_wp2_with fail; refine (unhide HC _ _ ((unhide HLD).trans (wrote_drew (unhide HR6)))).mono ?_; rintro e w8 ⟨rfl, v8, hr8⟩; have h8 := (wrote_drew (unhide HR6)).trans hr8
  refine hK.out _ _ (⟨unhide HK _ _ _ h8, wrote_box (unhide HW5) (Nat.le_refl _) hr8 (((Only.refl (fun _ => False) w6).drew).cell hR (fun e => e))⟩) (fun hHeld => ?_)
  clear hK K
  try simp only [Act.put, List.setIfInBounds_toArray, List.set_cons_zero, List.set_cons_succ, List.getElem_toArray, List.getElem_cons_succ, List.getElem_cons_zero]
  refine wpAnyH_done (by kernel_rfl) ?_ _
  have HR8 := hide ((unhide HLD).trans h8)
  clear hHeld h8 hr8 e0 e1 e2 e3 e4 hR HC HK HLD HR6 HW5 HUp
  have HF := hide (filled_any L w8 (by omega))
  rw [unhide HP] at HF
  have hsub : (p : Int) - (L : Int) = (q : Int) := by have := unhide HPQ; omega
  obtain ⟨Z, hmk, hZ⟩ := make_noughts q (by have := unhide HPQ; omega)
  have hlz := (unhide HR8).trans ((unhide HR8).now.laid (.cells Z 5))
  have HR9 := hide hlz
  have HRaw := hide (WO.raw_any b v8 _ (.slice (some ⟨w8.heap.size, 0, none⟩) q q) (List.replicate q 0) _ (has_row (heap_alloc_new w8 (.cells Z 5)) hZ (by simp) (by have := unhide HPQ; unfold maxLen; omega)) hlz.now (by have := unhide HPQ; simp [headL_length]; omega))
  clear hlz hZ
  go_wp2_with fail
  refine (unhide HF).mono ?_
  rintro e w9 ⟨rfl, rfl⟩
  clear HF
  go_wp2_with fail
  refine (unhide HRaw).mono ?_
  rintro e w10 ⟨rfl, v10, hr10⟩
  have HR10 := hide ((unhide HR9).trans hr10)
  clear hr10 HR9 HR8 HRaw hmk
  go_wp2
  go_end0
  exact ⟨rfl, v10, unhide HR10⟩

set_option maxHeartbeats 4000000 in
set_option maxRecDepth 100000 in
theorem lay_6 (t : Nat) (n : Int) (da : Option Addr) (dl dc : Nat) (ka : Option Addr) (kl kc L b : Nat) (v : Value) (bs body : List UInt8) (w : World) (hW : WrAt 91 w b v bs) (ht : t < 16777216) (hL : L < 4294967296) (hbl : body.length ≤ 4294967296) (hr : bs.length ≤ 4294967296)
    (HL : Hid (Calls Tryd.prog 50 #[.pointer (some ⟨w.heap.size, 0, none⟩), .int .i64 1] (w.alloc (.cells #[.int .i64 t, .int .i64 6, .int .i64 n, .slice da dl dc, .slice ka kl kc] 25)) fun e w' => e = .returned (.int .i64 L) ∧ w' = w.alloc (.cells #[.int .i64 t, .int .i64 6, .int .i64 n, .slice da dl dc, .slice ka kl kc] 25)))
    (HC : Hid (∀ W v1, Wrote 91 w b v W v1 (bs ++ headL t 6 L) → Calls Tryd.prog 56 #[iv t 6 n da dl dc ka kl kc, .pointer (some ⟨b, 0, none⟩)] W fun e w' => e = .returned (.tuple #[]) ∧ ∃ v2, Wrote 91 W b v1 w' v2 ((bs ++ headL t 6 L) ++ body))) :
    Calls Tryd.prog 28 #[iv t 6 n da dl dc ka kl kc, .pointer (some ⟨b, 0, none⟩)] w fun e w' => e = .returned (.tuple #[]) ∧ ∃ v', Wrote 91 w b v w' v' (((bs ++ headL t 6 L) ++ body) ++ List.replicate (pad8 L - L) 0) := by
  obtain ⟨⟨c0, c1, c2, c3, c4⟩, oA⟩ := boxed w (.int .i64 t) (.int .i64 6) (.int .i64 n) (.slice da dl dc) (.slice ka kl kc)
  have hl := hW.laid (.cells #[.int .i64 t, .int .i64 6, .int .i64 n, .slice da dl dc, .slice ka kl kc] 25)
  have HLD := hide hl
  have HW := hide hW
  have HK : Hid (∀ W v1 cs, Wrote 91 (w.alloc (.cells #[.int .i64 t, .int .i64 6, .int .i64 n, .slice da dl dc, .slice ka kl kc] 25)) b v W v1 cs → W.cell? ⟨w.heap.size, 0, none⟩ = some (.int .i64 t) ∧ W.cell? ⟨w.heap.size, 1, none⟩ = some (.int .i64 6) ∧ W.cell? ⟨w.heap.size, 2, none⟩ = some (.int .i64 n) ∧ W.cell? ⟨w.heap.size, 3, none⟩ = some (.slice da dl dc) ∧ W.cell? ⟨w.heap.size, 4, none⟩ = some (.slice ka kl kc)) := fun W v1 cs hw =>
    ⟨wrote_box hW (Nat.le_refl _) hw c0, wrote_box hW (Nat.le_refl _) hw c1, wrote_box hW (Nat.le_refl _) hw c2, wrote_box hW (Nat.le_refl _) hw c3, wrote_box hW (Nat.le_refl _) hw c4⟩
  have H1 := hide (WO.u8_any b v bs ((t / 65536 : Nat) : Int) _ hl.now (by omega))
  rw [be_nat 1 (t / 65536) (by omega)] at H1
  rw [show ((t / 65536 : Nat) : Int) = (t : Int) / 65536 by omega] at H1
  have HS : Hid (w.heap.size + 1 = (w.alloc (.cells #[.int .i64 t, .int .i64 6, .int .i64 n, .slice da dl dc, .slice ka kl kc] 25)).heap.size) := by show _ = _; simp
  obtain ⟨p, hp⟩ : ∃ p, pad8 L = p := ⟨_, rfl⟩
  obtain ⟨q, hq⟩ : ∃ q, p - L = q := ⟨_, rfl⟩
  have hple := pad8_ge L
  have hplt : pad8 L < L + 8 := by unfold pad8; omega
  rw [hp, hq]
  rw [hp] at hple hplt
  have HP := hide hp
  have HPQ : Hid (p = L + q) := by show _ = _; omega
  clear hp hq hple
  unfold iv at HC ⊢
  have hsh := shr16 t
  go_enter Tryd.func28, Tryd.ntmps28
  clear hl hW
  go_wp2_with fail
  refine (unhide HL).mono ?_
  rintro e w2 ⟨rfl, rfl⟩
  generalize w.alloc (.cells #[.int .i64 t, .int .i64 6, .int .i64 n, .slice da dl dc, .slice ka kl kc] 25) = w1 at *
  clear HL
  go_wp2_with fail
  refine (unhide H1).mono ?_
  rintro e w2 ⟨rfl, v2, hr2⟩
  obtain ⟨d0, d1, d2, d3, d4⟩ := unhide HK _ _ _ hr2
  have HR2 := hide hr2
  have H2 := hide (WO.u16_any b v2 _ ((t : Nat) : Int) _ hr2.now (by simp [be_length]; omega))
  rw [be_nat 2 t (by omega)] at H2
  clear hr2 c0 c1 c2 c3 c4 H1 hsh
  go_wp2_with fail
  refine (unhide H2).mono ?_
  rintro e w3 ⟨rfl, v3, hr3⟩
  have HR3 := hide ((unhide HR2).trans hr3)
  obtain ⟨e0, e1, e2, e3, e4⟩ := unhide HK _ _ _ (unhide HR3)
  have H3 := hide (WO.u8_any b v3 _ ((6 : Nat) : Int) _ hr3.now (by simp [be_length]; omega))
  rw [be_nat 1 6 (by omega), show ((6 : Nat) : Int) = 6 from rfl] at H3
  clear hr3 d0 d1 d2 d3 d4 H2 HR2
  go_wp2_with fail
  refine (unhide H3).mono ?_
  rintro e w4 ⟨rfl, v4, hr4⟩
  have HR4 := hide ((unhide HR3).trans hr4)
  have H4 := hide (WO.u32_any b v4 _ ((L : Nat) : Int) _ hr4.now (by simp [be_length]; omega))
  rw [be_nat 4 L (by omega)] at H4
  clear hr4 e0 e1 e2 e3 e4 H3 HR3
  go_wp2_with fail
  refine (unhide H4).mono ?_
  rintro e w5 ⟨rfl, v5, hr5⟩
  have h5 := (unhide HR4).trans hr5
  obtain ⟨d0, d1, d2, d3, d4⟩ := unhide HK _ _ _ h5
  rw [show bs ++ be 1 (t / 65536) ++ be 2 t ++ be 1 6 ++ be 4 L = bs ++ headL t 6 L by unfold headL; rw [Int.toNat_natCast]; simp [List.append_assoc]] at h5
  have HR5 := hide h5
  have hs5 := h5.only.size
  clear hr5 H4 HR4 h5
  -- the row of layers
  have oR : Only (fun _ => False) w5 (w5.alloc (.cells #[Value.nilFunc, Value.func (Fn.func 54) #[] #[], Value.func (Fn.func 55) #[] #[], Value.func (Fn.func 56) #[] #[], Value.func (Fn.func 57) #[] #[], Value.func (Fn.func 55) #[] #[], Value.func (Fn.func 56) #[] #[], Value.func (Fn.func 57) #[] #[], Value.func (Fn.func 57) #[] #[], Value.func (Fn.func 56) #[] #[], Value.func (Fn.func 55) #[] #[]] 95)) := (Only.refl _ _).alloc _
  have hR : (w5.alloc (.cells #[Value.nilFunc, Value.func (Fn.func 54) #[] #[], Value.func (Fn.func 55) #[] #[], Value.func (Fn.func 56) #[] #[], Value.func (Fn.func 57) #[] #[], Value.func (Fn.func 55) #[] #[], Value.func (Fn.func 56) #[] #[], Value.func (Fn.func 57) #[] #[], Value.func (Fn.func 57) #[] #[], Value.func (Fn.func 56) #[] #[], Value.func (Fn.func 55) #[] #[]] 95)).cell? ⟨w5.heap.size, 6, none⟩ = some (Value.func (Fn.func 56) #[] #[]) := (cell_of_heap (heap_alloc_new w5 (.cells #[Value.nilFunc, Value.func (Fn.func 54) #[] #[], Value.func (Fn.func 55) #[] #[], Value.func (Fn.func 56) #[] #[], Value.func (Fn.func 57) #[] #[], Value.func (Fn.func 55) #[] #[], Value.func (Fn.func 56) #[] #[], Value.func (Fn.func 57) #[] #[], Value.func (Fn.func 57) #[] #[], Value.func (Fn.func 56) #[] #[], Value.func (Fn.func 55) #[] #[]] 95))).trans rfl
  have hl5 := (unhide HR5).trans ((unhide HR5).now.laid (.cells #[Value.nilFunc, Value.func (Fn.func 54) #[] #[], Value.func (Fn.func 55) #[] #[], Value.func (Fn.func 56) #[] #[], Value.func (Fn.func 57) #[] #[], Value.func (Fn.func 55) #[] #[], Value.func (Fn.func 56) #[] #[], Value.func (Fn.func 57) #[] #[], Value.func (Fn.func 57) #[] #[], Value.func (Fn.func 56) #[] #[], Value.func (Fn.func 55) #[] #[]] 95))
  have HR6 := hide hl5
  have HW5 := hide (unhide HR5).now
  have HUp : Hid (w.heap.size ≤ w5.heap.size) := by have := (unhide HS); show _ ≤ _; omega
  have e0 := oR.cell d0 (fun e => e)
  have e1 := oR.cell d1 (fun e => e)
  have e2 := oR.cell d2 (fun e => e)
  have e3 := oR.cell d3 (fun e => e)
  have e4 := oR.cell d4 (fun e => e)
  clear oR hl5 d0 d1 d2 d3 d4
  go_wp2_with fail
  generalize hw6 : w5.alloc (.cells #[Value.nilFunc, Value.func (Fn.func 54) #[] #[], Value.func (Fn.func 55) #[] #[], Value.func (Fn.func 56) #[] #[], Value.func (Fn.func 57) #[] #[], Value.func (Fn.func 55) #[] #[], Value.func (Fn.func 56) #[] #[], Value.func (Fn.func 57) #[] #[], Value.func (Fn.func 57) #[] #[], Value.func (Fn.func 56) #[] #[], Value.func (Fn.func 55) #[] #[]] 95) = w6 at *
  clear hw6 HR5
  clear hs5 HS
  refine wp_region_held_drew (S := (fun w' => (w'.cell? ⟨w.heap.size, 0, none⟩ = some (.int .i64 t) ∧ w'.cell? ⟨w.heap.size, 1, none⟩ = some (.int .i64 6) ∧ w'.cell? ⟨w.heap.size, 2, none⟩ = some (.int .i64 n) ∧ w'.cell? ⟨w.heap.size, 3, none⟩ = some (.slice da dl dc) ∧ w'.cell? ⟨w.heap.size, 4, none⟩ = some (.slice ka kl kc)) ∧ w'.cell? ⟨w5.heap.size, 6, none⟩ = some (Value.func (Fn.func 56) #[] #[]))) (by kernel_rfl) (⟨⟨e0, e1, e2, e3, e4⟩, hR⟩) (fun hHeld => ?_)
  refine wpAnyH_take (i := 0) (v := ?v36) rfl (by kernel_rfl) (by kernel_rfl) (by kernel_rfl) (fun _ _ _ h => h) (Or.inl ⟨by rfl, ?hy36⟩) (by assumption) ?rest36
  case hy36 =>
    intro w hSw
    go_simp
    try with_reducible rfl
  try simp only [Act.put, List.setIfInBounds_toArray, List.set_cons_zero, List.set_cons_succ, List.getElem_toArray, List.getElem_cons_succ, List.getElem_cons_zero]
  refine wpAnyH_take (i := 1) (v := ?v37) rfl (by kernel_rfl) (by kernel_rfl) (by kernel_rfl) (fun _ _ _ h => h) (Or.inl ⟨by rfl, ?hy37⟩) (by assumption) ?rest37
  case hy37 =>
    intro w hSw
    go_simp
    try with_reducible rfl
  try simp only [Act.put, List.setIfInBounds_toArray, List.set_cons_zero, List.set_cons_succ, List.getElem_toArray, List.getElem_cons_succ, List.getElem_cons_zero]
  refine wpAnyH_take (i := 2) (v := ?v38) rfl (by kernel_rfl) (by kernel_rfl) (by kernel_rfl) (fun _ _ _ h => h) (Or.inl ⟨by rfl, ?hy38⟩) (by assumption) ?rest38
  case hy38 =>
    intro w hSw
    (obtain ⟨⟨q0, q1, q2, q3, q4⟩, q5⟩ := hSw; go_simp; try with_reducible rfl)
  try simp only [Act.put, List.setIfInBounds_toArray, List.set_cons_zero, List.set_cons_succ, List.getElem_toArray, List.getElem_cons_succ, List.getElem_cons_zero]
  refine wpAnyH_take (i := 3) (v := ?v39) rfl (by kernel_rfl) (by kernel_rfl) (by kernel_rfl) (fun _ _ _ h => h) (Or.inl ⟨by rfl, ?hy39⟩) (by assumption) ?rest39
  case hy39 =>
    intro w hSw
    go_simp
    try with_reducible rfl
  try simp only [Act.put, List.setIfInBounds_toArray, List.set_cons_zero, List.set_cons_succ, List.getElem_toArray, List.getElem_cons_succ, List.getElem_cons_zero]
  refine wpAnyH_take (i := 4) (v := ?v40) rfl (by kernel_rfl) (by kernel_rfl) (by kernel_rfl) (fun _ _ _ h => h) (Or.inl ⟨by rfl, ?hy40⟩) (by assumption) ?rest40
  case hy40 =>
    intro w hSw
    (obtain ⟨⟨q0, q1, q2, q3, q4⟩, q5⟩ := hSw; go_simp; try with_reducible rfl)
  try simp only [Act.put, List.setIfInBounds_toArray, List.set_cons_zero, List.set_cons_succ, List.getElem_toArray, List.getElem_cons_succ, List.getElem_cons_zero]
  refine wpAnyH_take (i := 5) (v := ?v41) rfl (by kernel_rfl) (by kernel_rfl) (by kernel_rfl) (fun _ _ _ h => h) (Or.inl ⟨by rfl, ?hy41⟩) (by assumption) ?rest41
  case hy41 =>
    intro w hSw
    (obtain ⟨⟨q0, q1, q2, q3, q4⟩, q5⟩ := hSw; go_simp; try with_reducible rfl)
  try simp only [Act.put, List.setIfInBounds_toArray, List.set_cons_zero, List.set_cons_succ, List.getElem_toArray, List.getElem_cons_succ, List.getElem_cons_zero]
  refine wpAnyH_take (i := 6) (v := ?v42) rfl (by kernel_rfl) (by kernel_rfl) (by kernel_rfl) (fun _ _ _ h => h) (Or.inl ⟨by rfl, ?hy42⟩) (by assumption) ?rest42
  case hy42 =>
    intro w hSw
    go_simp
    try with_reducible rfl
  try simp only [Act.put, List.setIfInBounds_toArray, List.set_cons_zero, List.set_cons_succ, List.getElem_toArray, List.getElem_cons_succ, List.getElem_cons_zero]
  refine wpAnyH_ready (rs := [7]) (by kernel_rfl) (by simp) ?_
  refine AllReadyH.cons rfl (fun K hK => ?_) AllReadyH.nil
  go_simp
  go_wp2_with fail; refine (unhide HC _ _ ((unhide HLD).trans (wrote_drew (unhide HR6)))).mono ?_; rintro e w8 ⟨rfl, v8, hr8⟩; have h8 := (wrote_drew (unhide HR6)).trans hr8
  refine hK.out _ _ (⟨unhide HK _ _ _ h8, wrote_box (unhide HW5) (Nat.le_refl _) hr8 (((Only.refl (fun _ => False) w6).drew).cell hR (fun e => e))⟩) (fun hHeld => ?_)
  clear hK K
  try simp only [Act.put, List.setIfInBounds_toArray, List.set_cons_zero, List.set_cons_succ, List.getElem_toArray, List.getElem_cons_succ, List.getElem_cons_zero]
  refine wpAnyH_done (by kernel_rfl) ?_ _
  have HR8 := hide ((unhide HLD).trans h8)
  clear hHeld h8 hr8 e0 e1 e2 e3 e4 hR HC HK HLD HR6 HW5 HUp
  have HF := hide (filled_any L w8 (by omega))
  rw [unhide HP] at HF
  have hsub : (p : Int) - (L : Int) = (q : Int) := by have := unhide HPQ; omega
  obtain ⟨Z, hmk, hZ⟩ := make_noughts q (by have := unhide HPQ; omega)
  have hlz := (unhide HR8).trans ((unhide HR8).now.laid (.cells Z 5))
  have HR9 := hide hlz
  have HRaw := hide (WO.raw_any b v8 _ (.slice (some ⟨w8.heap.size, 0, none⟩) q q) (List.replicate q 0) _ (has_row (heap_alloc_new w8 (.cells Z 5)) hZ (by simp) (by have := unhide HPQ; unfold maxLen; omega)) hlz.now (by have := unhide HPQ; simp [headL_length]; omega))
  clear hlz hZ
  go_wp2_with fail
  refine (unhide HF).mono ?_
  rintro e w9 ⟨rfl, rfl⟩
  clear HF
  go_wp2_with fail
  refine (unhide HRaw).mono ?_
  rintro e w10 ⟨rfl, v10, hr10⟩
  have HR10 := hide ((unhide HR9).trans hr10)
  clear hr10 HR9 HR8 HRaw hmk
  go_wp2
  go_end0
  exact ⟨rfl, v10, unhide HR10⟩

set_option maxHeartbeats 4000000 in
set_option maxRecDepth 100000 in
theorem lay_7 (t : Nat) (n : Int) (da : Option Addr) (dl dc : Nat) (ka : Option Addr) (kl kc L b : Nat) (v : Value) (bs body : List UInt8) (w : World) (hW : WrAt 91 w b v bs) (ht : t < 16777216) (hL : L < 4294967296) (hbl : body.length ≤ 4294967296) (hr : bs.length ≤ 4294967296)
    (HL : Hid (Calls Tryd.prog 50 #[.pointer (some ⟨w.heap.size, 0, none⟩), .int .i64 1] (w.alloc (.cells #[.int .i64 t, .int .i64 7, .int .i64 n, .slice da dl dc, .slice ka kl kc] 25)) fun e w' => e = .returned (.int .i64 L) ∧ w' = w.alloc (.cells #[.int .i64 t, .int .i64 7, .int .i64 n, .slice da dl dc, .slice ka kl kc] 25)))
    (HC : Hid (∀ W v1, Wrote 91 w b v W v1 (bs ++ headL t 7 L) → Calls Tryd.prog 57 #[iv t 7 n da dl dc ka kl kc, .pointer (some ⟨b, 0, none⟩)] W fun e w' => e = .returned (.tuple #[]) ∧ ∃ v2, Wrote 91 W b v1 w' v2 ((bs ++ headL t 7 L) ++ body))) :
    Calls Tryd.prog 28 #[iv t 7 n da dl dc ka kl kc, .pointer (some ⟨b, 0, none⟩)] w fun e w' => e = .returned (.tuple #[]) ∧ ∃ v', Wrote 91 w b v w' v' (((bs ++ headL t 7 L) ++ body) ++ List.replicate (pad8 L - L) 0) := by
  obtain ⟨⟨c0, c1, c2, c3, c4⟩, oA⟩ := boxed w (.int .i64 t) (.int .i64 7) (.int .i64 n) (.slice da dl dc) (.slice ka kl kc)
  have hl := hW.laid (.cells #[.int .i64 t, .int .i64 7, .int .i64 n, .slice da dl dc, .slice ka kl kc] 25)
  have HLD := hide hl
  have HW := hide hW
  have HK : Hid (∀ W v1 cs, Wrote 91 (w.alloc (.cells #[.int .i64 t, .int .i64 7, .int .i64 n, .slice da dl dc, .slice ka kl kc] 25)) b v W v1 cs → W.cell? ⟨w.heap.size, 0, none⟩ = some (.int .i64 t) ∧ W.cell? ⟨w.heap.size, 1, none⟩ = some (.int .i64 7) ∧ W.cell? ⟨w.heap.size, 2, none⟩ = some (.int .i64 n) ∧ W.cell? ⟨w.heap.size, 3, none⟩ = some (.slice da dl dc) ∧ W.cell? ⟨w.heap.size, 4, none⟩ = some (.slice ka kl kc)) := fun W v1 cs hw =>
    ⟨wrote_box hW (Nat.le_refl _) hw c0, wrote_box hW (Nat.le_refl _) hw c1, wrote_box hW (Nat.le_refl _) hw c2, wrote_box hW (Nat.le_refl _) hw c3, wrote_box hW (Nat.le_refl _) hw c4⟩
  have H1 := hide (WO.u8_any b v bs ((t / 65536 : Nat) : Int) _ hl.now (by omega))
  rw [be_nat 1 (t / 65536) (by omega)] at H1
  rw [show ((t / 65536 : Nat) : Int) = (t : Int) / 65536 by omega] at H1
  have HS : Hid (w.heap.size + 1 = (w.alloc (.cells #[.int .i64 t, .int .i64 7, .int .i64 n, .slice da dl dc, .slice ka kl kc] 25)).heap.size) := by show _ = _; simp
  obtain ⟨p, hp⟩ : ∃ p, pad8 L = p := ⟨_, rfl⟩
  obtain ⟨q, hq⟩ : ∃ q, p - L = q := ⟨_, rfl⟩
  have hple := pad8_ge L
  have hplt : pad8 L < L + 8 := by unfold pad8; omega
  rw [hp, hq]
  rw [hp] at hple hplt
  have HP := hide hp
  have HPQ : Hid (p = L + q) := by show _ = _; omega
  clear hp hq hple
  unfold iv at HC ⊢
  have hsh := shr16 t
  go_enter Tryd.func28, Tryd.ntmps28
  clear hl hW
  go_wp2_with fail
  refine (unhide HL).mono ?_
  rintro e w2 ⟨rfl, rfl⟩
  generalize w.alloc (.cells #[.int .i64 t, .int .i64 7, .int .i64 n, .slice da dl dc, .slice ka kl kc] 25) = w1 at *
  clear HL
  go_wp2_with fail
  refine (unhide H1).mono ?_
  rintro e w2 ⟨rfl, v2, hr2⟩
  obtain ⟨d0, d1, d2, d3, d4⟩ := unhide HK _ _ _ hr2
  have HR2 := hide hr2
  have H2 := hide (WO.u16_any b v2 _ ((t : Nat) : Int) _ hr2.now (by simp [be_length]; omega))
  rw [be_nat 2 t (by omega)] at H2
  clear hr2 c0 c1 c2 c3 c4 H1 hsh
  go_wp2_with fail
  refine (unhide H2).mono ?_
  rintro e w3 ⟨rfl, v3, hr3⟩
  have HR3 := hide ((unhide HR2).trans hr3)
  obtain ⟨e0, e1, e2, e3, e4⟩ := unhide HK _ _ _ (unhide HR3)
  have H3 := hide (WO.u8_any b v3 _ ((7 : Nat) : Int) _ hr3.now (by simp [be_length]; omega))
  rw [be_nat 1 7 (by omega), show ((7 : Nat) : Int) = 7 from rfl] at H3
  clear hr3 d0 d1 d2 d3 d4 H2 HR2
  go_wp2_with fail
  refine (unhide H3).mono ?_
  rintro e w4 ⟨rfl, v4, hr4⟩
  have HR4 := hide ((unhide HR3).trans hr4)
  have H4 := hide (WO.u32_any b v4 _ ((L : Nat) : Int) _ hr4.now (by simp [be_length]; omega))
  rw [be_nat 4 L (by omega)] at H4
  clear hr4 e0 e1 e2 e3 e4 H3 HR3
  go_wp2_with fail
  refine (unhide H4).mono ?_
  rintro e w5 ⟨rfl, v5, hr5⟩
  have h5 := (unhide HR4).trans hr5
  obtain ⟨d0, d1, d2, d3, d4⟩ := unhide HK _ _ _ h5
  rw [show bs ++ be 1 (t / 65536) ++ be 2 t ++ be 1 7 ++ be 4 L = bs ++ headL t 7 L by unfold headL; rw [Int.toNat_natCast]; simp [List.append_assoc]] at h5
  have HR5 := hide h5
  have hs5 := h5.only.size
  clear hr5 H4 HR4 h5
  -- the row of layers
  have oR : Only (fun _ => False) w5 (w5.alloc (.cells #[Value.nilFunc, Value.func (Fn.func 54) #[] #[], Value.func (Fn.func 55) #[] #[], Value.func (Fn.func 56) #[] #[], Value.func (Fn.func 57) #[] #[], Value.func (Fn.func 55) #[] #[], Value.func (Fn.func 56) #[] #[], Value.func (Fn.func 57) #[] #[], Value.func (Fn.func 57) #[] #[], Value.func (Fn.func 56) #[] #[], Value.func (Fn.func 55) #[] #[]] 95)) := (Only.refl _ _).alloc _
  have hR : (w5.alloc (.cells #[Value.nilFunc, Value.func (Fn.func 54) #[] #[], Value.func (Fn.func 55) #[] #[], Value.func (Fn.func 56) #[] #[], Value.func (Fn.func 57) #[] #[], Value.func (Fn.func 55) #[] #[], Value.func (Fn.func 56) #[] #[], Value.func (Fn.func 57) #[] #[], Value.func (Fn.func 57) #[] #[], Value.func (Fn.func 56) #[] #[], Value.func (Fn.func 55) #[] #[]] 95)).cell? ⟨w5.heap.size, 7, none⟩ = some (Value.func (Fn.func 57) #[] #[]) := (cell_of_heap (heap_alloc_new w5 (.cells #[Value.nilFunc, Value.func (Fn.func 54) #[] #[], Value.func (Fn.func 55) #[] #[], Value.func (Fn.func 56) #[] #[], Value.func (Fn.func 57) #[] #[], Value.func (Fn.func 55) #[] #[], Value.func (Fn.func 56) #[] #[], Value.func (Fn.func 57) #[] #[], Value.func (Fn.func 57) #[] #[], Value.func (Fn.func 56) #[] #[], Value.func (Fn.func 55) #[] #[]] 95))).trans rfl
  have hl5 := (unhide HR5).trans ((unhide HR5).now.laid (.cells #[Value.nilFunc, Value.func (Fn.func 54) #[] #[], Value.func (Fn.func 55) #[] #[], Value.func (Fn.func 56) #[] #[], Value.func (Fn.func 57) #[] #[], Value.func (Fn.func 55) #[] #[], Value.func (Fn.func 56) #[] #[], Value.func (Fn.func 57) #[] #[], Value.func (Fn.func 57) #[] #[], Value.func (Fn.func 56) #[] #[], Value.func (Fn.func 55) #[] #[]] 95))
  have HR6 := hide hl5
  have HW5 := hide (unhide HR5).now
  have HUp : Hid (w.heap.size ≤ w5.heap.size) := by have := (unhide HS); show _ ≤ _; omega
  have e0 := oR.cell d0 (fun e => e)
  have e1 := oR.cell d1 (fun e => e)
  have e2 := oR.cell d2 (fun e => e)
  have e3 := oR.cell d3 (fun e => e)
  have e4 := oR.cell d4 (fun e => e)
  clear oR hl5 d0 d1 d2 d3 d4
  go_wp2_with fail
  generalize hw6 : w5.alloc (.cells #[Value.nilFunc, Value.func (Fn.func 54) #[] #[], Value.func (Fn.func 55) #[] #[], Value.func (Fn.func 56) #[] #[], Value.func (Fn.func 57) #[] #[], Value.func (Fn.func 55) #[] #[], Value.func (Fn.func 56) #[] #[], Value.func (Fn.func 57) #[] #[], Value.func (Fn.func 57) #[] #[], Value.func (Fn.func 56) #[] #[], Value.func (Fn.func 55) #[] #[]] 95) = w6 at *
  clear hw6 HR5
  clear hs5 HS
  refine wp_region_held_drew (S := (fun w' => (w'.cell? ⟨w.heap.size, 0, none⟩ = some (.int .i64 t) ∧ w'.cell? ⟨w.heap.size, 1, none⟩ = some (.int .i64 7) ∧ w'.cell? ⟨w.heap.size, 2, none⟩ = some (.int .i64 n) ∧ w'.cell? ⟨w.heap.size, 3, none⟩ = some (.slice da dl dc) ∧ w'.cell? ⟨w.heap.size, 4, none⟩ = some (.slice ka kl kc)) ∧ w'.cell? ⟨w5.heap.size, 7, none⟩ = some (Value.func (Fn.func 57) #[] #[]))) (by kernel_rfl) (⟨⟨e0, e1, e2, e3, e4⟩, hR⟩) (fun hHeld => ?_)
  refine wpAnyH_take (i := 0) (v := ?v43) rfl (by kernel_rfl) (by kernel_rfl) (by kernel_rfl) (fun _ _ _ h => h) (Or.inl ⟨by rfl, ?hy43⟩) (by assumption) ?rest43
  case hy43 =>
    intro w hSw
    go_simp
    try with_reducible rfl
  try simp only [Act.put, List.setIfInBounds_toArray, List.set_cons_zero, List.set_cons_succ, List.getElem_toArray, List.getElem_cons_succ, List.getElem_cons_zero]
  refine wpAnyH_take (i := 1) (v := ?v44) rfl (by kernel_rfl) (by kernel_rfl) (by kernel_rfl) (fun _ _ _ h => h) (Or.inl ⟨by rfl, ?hy44⟩) (by assumption) ?rest44
  case hy44 =>
    intro w hSw
    go_simp
    try with_reducible rfl
  try simp only [Act.put, List.setIfInBounds_toArray, List.set_cons_zero, List.set_cons_succ, List.getElem_toArray, List.getElem_cons_succ, List.getElem_cons_zero]
  refine wpAnyH_take (i := 2) (v := ?v45) rfl (by kernel_rfl) (by kernel_rfl) (by kernel_rfl) (fun _ _ _ h => h) (Or.inl ⟨by rfl, ?hy45⟩) (by assumption) ?rest45
  case hy45 =>
    intro w hSw
    (obtain ⟨⟨q0, q1, q2, q3, q4⟩, q5⟩ := hSw; go_simp; try with_reducible rfl)
  try simp only [Act.put, List.setIfInBounds_toArray, List.set_cons_zero, List.set_cons_succ, List.getElem_toArray, List.getElem_cons_succ, List.getElem_cons_zero]
  refine wpAnyH_take (i := 3) (v := ?v46) rfl (by kernel_rfl) (by kernel_rfl) (by kernel_rfl) (fun _ _ _ h => h) (Or.inl ⟨by rfl, ?hy46⟩) (by assumption) ?rest46
  case hy46 =>
    intro w hSw
    go_simp
    try with_reducible rfl
  try simp only [Act.put, List.setIfInBounds_toArray, List.set_cons_zero, List.set_cons_succ, List.getElem_toArray, List.getElem_cons_succ, List.getElem_cons_zero]
  refine wpAnyH_take (i := 4) (v := ?v47) rfl (by kernel_rfl) (by kernel_rfl) (by kernel_rfl) (fun _ _ _ h => h) (Or.inl ⟨by rfl, ?hy47⟩) (by assumption) ?rest47
  case hy47 =>
    intro w hSw
    (obtain ⟨⟨q0, q1, q2, q3, q4⟩, q5⟩ := hSw; go_simp; try with_reducible rfl)
  try simp only [Act.put, List.setIfInBounds_toArray, List.set_cons_zero, List.set_cons_succ, List.getElem_toArray, List.getElem_cons_succ, List.getElem_cons_zero]
  refine wpAnyH_take (i := 5) (v := ?v48) rfl (by kernel_rfl) (by kernel_rfl) (by kernel_rfl) (fun _ _ _ h => h) (Or.inl ⟨by rfl, ?hy48⟩) (by assumption) ?rest48
  case hy48 =>
    intro w hSw
    (obtain ⟨⟨q0, q1, q2, q3, q4⟩, q5⟩ := hSw; go_simp; try with_reducible rfl)
  try simp only [Act.put, List.setIfInBounds_toArray, List.set_cons_zero, List.set_cons_succ, List.getElem_toArray, List.getElem_cons_succ, List.getElem_cons_zero]
  refine wpAnyH_take (i := 6) (v := ?v49) rfl (by kernel_rfl) (by kernel_rfl) (by kernel_rfl) (fun _ _ _ h => h) (Or.inl ⟨by rfl, ?hy49⟩) (by assumption) ?rest49
  case hy49 =>
    intro w hSw
    go_simp
    try with_reducible rfl
  try simp only [Act.put, List.setIfInBounds_toArray, List.set_cons_zero, List.set_cons_succ, List.getElem_toArray, List.getElem_cons_succ, List.getElem_cons_zero]
  refine wpAnyH_ready (rs := [7]) (by kernel_rfl) (by simp) ?_
  refine AllReadyH.cons rfl (fun K hK => ?_) AllReadyH.nil
  go_simp
  go_wp2_with fail; refine (unhide HC _ _ ((unhide HLD).trans (wrote_drew (unhide HR6)))).mono ?_; rintro e w8 ⟨rfl, v8, hr8⟩; have h8 := (wrote_drew (unhide HR6)).trans hr8
  refine hK.out _ _ (⟨unhide HK _ _ _ h8, wrote_box (unhide HW5) (Nat.le_refl _) hr8 (((Only.refl (fun _ => False) w6).drew).cell hR (fun e => e))⟩) (fun hHeld => ?_)
  clear hK K
  try simp only [Act.put, List.setIfInBounds_toArray, List.set_cons_zero, List.set_cons_succ, List.getElem_toArray, List.getElem_cons_succ, List.getElem_cons_zero]
  refine wpAnyH_done (by kernel_rfl) ?_ _
  have HR8 := hide ((unhide HLD).trans h8)
  clear hHeld h8 hr8 e0 e1 e2 e3 e4 hR HC HK HLD HR6 HW5 HUp
  have HF := hide (filled_any L w8 (by omega))
  rw [unhide HP] at HF
  have hsub : (p : Int) - (L : Int) = (q : Int) := by have := unhide HPQ; omega
  obtain ⟨Z, hmk, hZ⟩ := make_noughts q (by have := unhide HPQ; omega)
  have hlz := (unhide HR8).trans ((unhide HR8).now.laid (.cells Z 5))
  have HR9 := hide hlz
  have HRaw := hide (WO.raw_any b v8 _ (.slice (some ⟨w8.heap.size, 0, none⟩) q q) (List.replicate q 0) _ (has_row (heap_alloc_new w8 (.cells Z 5)) hZ (by simp) (by have := unhide HPQ; unfold maxLen; omega)) hlz.now (by have := unhide HPQ; simp [headL_length]; omega))
  clear hlz hZ
  go_wp2_with fail
  refine (unhide HF).mono ?_
  rintro e w9 ⟨rfl, rfl⟩
  clear HF
  go_wp2_with fail
  refine (unhide HRaw).mono ?_
  rintro e w10 ⟨rfl, v10, hr10⟩
  have HR10 := hide ((unhide HR9).trans hr10)
  clear hr10 HR9 HR8 HRaw hmk
  go_wp2
  go_end0
  exact ⟨rfl, v10, unhide HR10⟩

set_option maxHeartbeats 4000000 in
set_option maxRecDepth 100000 in
theorem lay_8 (t : Nat) (n : Int) (da : Option Addr) (dl dc : Nat) (ka : Option Addr) (kl kc L b : Nat) (v : Value) (bs body : List UInt8) (w : World) (hW : WrAt 91 w b v bs) (ht : t < 16777216) (hL : L < 4294967296) (hbl : body.length ≤ 4294967296) (hr : bs.length ≤ 4294967296)
    (HL : Hid (Calls Tryd.prog 50 #[.pointer (some ⟨w.heap.size, 0, none⟩), .int .i64 1] (w.alloc (.cells #[.int .i64 t, .int .i64 8, .int .i64 n, .slice da dl dc, .slice ka kl kc] 25)) fun e w' => e = .returned (.int .i64 L) ∧ w' = w.alloc (.cells #[.int .i64 t, .int .i64 8, .int .i64 n, .slice da dl dc, .slice ka kl kc] 25)))
    (HC : Hid (∀ W v1, Wrote 91 w b v W v1 (bs ++ headL t 8 L) → Calls Tryd.prog 57 #[iv t 8 n da dl dc ka kl kc, .pointer (some ⟨b, 0, none⟩)] W fun e w' => e = .returned (.tuple #[]) ∧ ∃ v2, Wrote 91 W b v1 w' v2 ((bs ++ headL t 8 L) ++ body))) :
    Calls Tryd.prog 28 #[iv t 8 n da dl dc ka kl kc, .pointer (some ⟨b, 0, none⟩)] w fun e w' => e = .returned (.tuple #[]) ∧ ∃ v', Wrote 91 w b v w' v' (((bs ++ headL t 8 L) ++ body) ++ List.replicate (pad8 L - L) 0) := by
  obtain ⟨⟨c0, c1, c2, c3, c4⟩, oA⟩ := boxed w (.int .i64 t) (.int .i64 8) (.int .i64 n) (.slice da dl dc) (.slice ka kl kc)
  have hl := hW.laid (.cells #[.int .i64 t, .int .i64 8, .int .i64 n, .slice da dl dc, .slice ka kl kc] 25)
  have HLD := hide hl
  have HW := hide hW
  have HK : Hid (∀ W v1 cs, Wrote 91 (w.alloc (.cells #[.int .i64 t, .int .i64 8, .int .i64 n, .slice da dl dc, .slice ka kl kc] 25)) b v W v1 cs → W.cell? ⟨w.heap.size, 0, none⟩ = some (.int .i64 t) ∧ W.cell? ⟨w.heap.size, 1, none⟩ = some (.int .i64 8) ∧ W.cell? ⟨w.heap.size, 2, none⟩ = some (.int .i64 n) ∧ W.cell? ⟨w.heap.size, 3, none⟩ = some (.slice da dl dc) ∧ W.cell? ⟨w.heap.size, 4, none⟩ = some (.slice ka kl kc)) := fun W v1 cs hw =>
    ⟨wrote_box hW (Nat.le_refl _) hw c0, wrote_box hW (Nat.le_refl _) hw c1, wrote_box hW (Nat.le_refl _) hw c2, wrote_box hW (Nat.le_refl _) hw c3, wrote_box hW (Nat.le_refl _) hw c4⟩
  have H1 := hide (WO.u8_any b v bs ((t / 65536 : Nat) : Int) _ hl.now (by omega))
  rw [be_nat 1 (t / 65536) (by omega)] at H1
  rw [show ((t / 65536 : Nat) : Int) = (t : Int) / 65536 by omega] at H1
  have HS : Hid (w.heap.size + 1 = (w.alloc (.cells #[.int .i64 t, .int .i64 8, .int .i64 n, .slice da dl dc, .slice ka kl kc] 25)).heap.size) := by show _ = _; simp
  obtain ⟨p, hp⟩ : ∃ p, pad8 L = p := ⟨_, rfl⟩
  obtain ⟨q, hq⟩ : ∃ q, p - L = q := ⟨_, rfl⟩
  have hple := pad8_ge L
  have hplt : pad8 L < L + 8 := by unfold pad8; omega
  rw [hp, hq]
  rw [hp] at hple hplt
  have HP := hide hp
  have HPQ : Hid (p = L + q) := by show _ = _; omega
  clear hp hq hple
  unfold iv at HC ⊢
  have hsh := shr16 t
  go_enter Tryd.func28, Tryd.ntmps28
  clear hl hW
  go_wp2_with fail
  refine (unhide HL).mono ?_
  rintro e w2 ⟨rfl, rfl⟩
  generalize w.alloc (.cells #[.int .i64 t, .int .i64 8, .int .i64 n, .slice da dl dc, .slice ka kl kc] 25) = w1 at *
  clear HL
  go_wp2_with fail
  refine (unhide H1).mono ?_
  rintro e w2 ⟨rfl, v2, hr2⟩
  obtain ⟨d0, d1, d2, d3, d4⟩ := unhide HK _ _ _ hr2
  have HR2 := hide hr2
  have H2 := hide (WO.u16_any b v2 _ ((t : Nat) : Int) _ hr2.now (by simp [be_length]; omega))
  rw [be_nat 2 t (by omega)] at H2
  clear hr2 c0 c1 c2 c3 c4 H1 hsh
  go_wp2_with fail
  refine (unhide H2).mono ?_
  rintro e w3 ⟨rfl, v3, hr3⟩
  have HR3 := hide ((unhide HR2).trans hr3)
  obtain ⟨e0, e1, e2, e3, e4⟩ := unhide HK _ _ _ (unhide HR3)
  have H3 := hide (WO.u8_any b v3 _ ((8 : Nat) : Int) _ hr3.now (by simp [be_length]; omega))
  rw [be_nat 1 8 (by omega), show ((8 : Nat) : Int) = 8 from rfl] at H3
  clear hr3 d0 d1 d2 d3 d4 H2 HR2
  go_wp2_with fail
  refine (unhide H3).mono ?_
  rintro e w4 ⟨rfl, v4, hr4⟩
  have HR4 := hide ((unhide HR3).trans hr4)
  have H4 := hide (WO.u32_any b v4 _ ((L : Nat) : Int) _ hr4.now (by simp [be_length]; omega))
  rw [be_nat 4 L (by omega)] at H4
  clear hr4 e0 e1 e2 e3 e4 H3 HR3
  go_wp2_with fail
  refine (unhide H4).mono ?_
  rintro e w5 ⟨rfl, v5, hr5⟩
  have h5 := (unhide HR4).trans hr5
  obtain ⟨d0, d1, d2, d3, d4⟩ := unhide HK _ _ _ h5
  rw [show bs ++ be 1 (t / 65536) ++ be 2 t ++ be 1 8 ++ be 4 L = bs ++ headL t 8 L by unfold headL; rw [Int.toNat_natCast]; simp [List.append_assoc]] at h5
  have HR5 := hide h5
  have hs5 := h5.only.size
  clear hr5 H4 HR4 h5
  -- the row of layers
  have oR : Only (fun _ => False) w5 (w5.alloc (.cells #[Value.nilFunc, Value.func (Fn.func 54) #[] #[], Value.func (Fn.func 55) #[] #[], Value.func (Fn.func 56) #[] #[], Value.func (Fn.func 57) #[] #[], Value.func (Fn.func 55) #[] #[], Value.func (Fn.func 56) #[] #[], Value.func (Fn.func 57) #[] #[], Value.func (Fn.func 57) #[] #[], Value.func (Fn.func 56) #[] #[], Value.func (Fn.func 55) #[] #[]] 95)) := (Only.refl _ _).alloc _
  have hR : (w5.alloc (.cells #[Value.nilFunc, Value.func (Fn.func 54) #[] #[], Value.func (Fn.func 55) #[] #[], Value.func (Fn.func 56) #[] #[], Value.func (Fn.func 57) #[] #[], Value.func (Fn.func 55) #[] #[], Value.func (Fn.func 56) #[] #[], Value.func (Fn.func 57) #[] #[], Value.func (Fn.func 57) #[] #[], Value.func (Fn.func 56) #[] #[], Value.func (Fn.func 55) #[] #[]] 95)).cell? ⟨w5.heap.size, 8, none⟩ = some (Value.func (Fn.func 57) #[] #[]) := (cell_of_heap (heap_alloc_new w5 (.cells #[Value.nilFunc, Value.func (Fn.func 54) #[] #[], Value.func (Fn.func 55) #[] #[], Value.func (Fn.func 56) #[] #[], Value.func (Fn.func 57) #[] #[], Value.func (Fn.func 55) #[] #[], Value.func (Fn.func 56) #[] #[], Value.func (Fn.func 57) #[] #[], Value.func (Fn.func 57) #[] #[], Value.func (Fn.func 56) #[] #[], Value.func (Fn.func 55) #[] #[]] 95))).trans rfl
  have hl5 := (unhide HR5).trans ((unhide HR5).now.laid (.cells #[Value.nilFunc, Value.func (Fn.func 54) #[] #[], Value.func (Fn.func 55) #[] #[], Value.func (Fn.func 56) #[] #[], Value.func (Fn.func 57) #[] #[], Value.func (Fn.func 55) #[] #[], Value.func (Fn.func 56) #[] #[], Value.func (Fn.func 57) #[] #[], Value.func (Fn.func 57) #[] #[], Value.func (Fn.func 56) #[] #[], Value.func (Fn.func 55) #[] #[]] 95))
  have HR6 := hide hl5
  have HW5 := hide (unhide HR5).now
  have HUp : Hid (w.heap.size ≤ w5.heap.size) := by have := (unhide HS); show _ ≤ _; omega
  have e0 := oR.cell d0 (fun e => e)
  have e1 := oR.cell d1 (fun e => e)
  have e2 := oR.cell d2 (fun e => e)
  have e3 := oR.cell d3 (fun e => e)
  have e4 := oR.cell d4 (fun e => e)
  clear oR hl5 d0 d1 d2 d3 d4
  go_wp2_with fail
  generalize hw6 : w5.alloc (.cells #[Value.nilFunc, Value.func (Fn.func 54) #[] #[], Value.func (Fn.func 55) #[] #[], Value.func (Fn.func 56) #[] #[], Value.func (Fn.func 57) #[] #[], Value.func (Fn.func 55) #[] #[], Value.func (Fn.func 56) #[] #[], Value.func (Fn.func 57) #[] #[], Value.func (Fn.func 57) #[] #[], Value.func (Fn.func 56) #[] #[], Value.func (Fn.func 55) #[] #[]] 95) = w6 at *
  clear hw6 HR5
  clear hs5 HS
  refine wp_region_held_drew (S := (fun w' => (w'.cell? ⟨w.heap.size, 0, none⟩ = some (.int .i64 t) ∧ w'.cell? ⟨w.heap.size, 1, none⟩ = some (.int .i64 8) ∧ w'.cell? ⟨w.heap.size, 2, none⟩ = some (.int .i64 n) ∧ w'.cell? ⟨w.heap.size, 3, none⟩ = some (.slice da dl dc) ∧ w'.cell? ⟨w.heap.size, 4, none⟩ = some (.slice ka kl kc)) ∧ w'.cell? ⟨w5.heap.size, 8, none⟩ = some (Value.func (Fn.func 57) #[] #[]))) (by kernel_rfl) (⟨⟨e0, e1, e2, e3, e4⟩, hR⟩) (fun hHeld => ?_)
  refine wpAnyH_take (i := 0) (v := ?v50) rfl (by kernel_rfl) (by kernel_rfl) (by kernel_rfl) (fun _ _ _ h => h) (Or.inl ⟨by rfl, ?hy50⟩) (by assumption) ?rest50
  case hy50 =>
    intro w hSw
    go_simp
    try with_reducible rfl
  try simp only [Act.put, List.setIfInBounds_toArray, List.set_cons_zero, List.set_cons_succ, List.getElem_toArray, List.getElem_cons_succ, List.getElem_cons_zero]
  refine wpAnyH_take (i := 1) (v := ?v51) rfl (by kernel_rfl) (by kernel_rfl) (by kernel_rfl) (fun _ _ _ h => h) (Or.inl ⟨by rfl, ?hy51⟩) (by assumption) ?rest51
  case hy51 =>
    intro w hSw
    go_simp
    try with_reducible rfl
  try simp only [Act.put, List.setIfInBounds_toArray, List.set_cons_zero, List.set_cons_succ, List.getElem_toArray, List.getElem_cons_succ, List.getElem_cons_zero]
  refine wpAnyH_take (i := 2) (v := ?v52) rfl (by kernel_rfl) (by kernel_rfl) (by kernel_rfl) (fun _ _ _ h => h) (Or.inl ⟨by rfl, ?hy52⟩) (by assumption) ?rest52
  case hy52 =>
    intro w hSw
    (obtain ⟨⟨q0, q1, q2, q3, q4⟩, q5⟩ := hSw; go_simp; try with_reducible rfl)
  try simp only [Act.put, List.setIfInBounds_toArray, List.set_cons_zero, List.set_cons_succ, List.getElem_toArray, List.getElem_cons_succ, List.getElem_cons_zero]
  refine wpAnyH_take (i := 3) (v := ?v53) rfl (by kernel_rfl) (by kernel_rfl) (by kernel_rfl) (fun _ _ _ h => h) (Or.inl ⟨by rfl, ?hy53⟩) (by assumption) ?rest53
  case hy53 =>
    intro w hSw
    go_simp
    try with_reducible rfl
  try simp only [Act.put, List.setIfInBounds_toArray, List.set_cons_zero, List.set_cons_succ, List.getElem_toArray, List.getElem_cons_succ, List.getElem_cons_zero]
  refine wpAnyH_take (i := 4) (v := ?v54) rfl (by kernel_rfl) (by kernel_rfl) (by kernel_rfl) (fun _ _ _ h => h) (Or.inl ⟨by rfl, ?hy54⟩) (by assumption) ?rest54
  case hy54 =>
    intro w hSw
    (obtain ⟨⟨q0, q1, q2, q3, q4⟩, q5⟩ := hSw; go_simp; try with_reducible rfl)
  try simp only [Act.put, List.setIfInBounds_toArray, List.set_cons_zero, List.set_cons_succ, List.getElem_toArray, List.getElem_cons_succ, List.getElem_cons_zero]
  refine wpAnyH_take (i := 5) (v := ?v55) rfl (by kernel_rfl) (by kernel_rfl) (by kernel_rfl) (fun _ _ _ h => h) (Or.inl ⟨by rfl, ?hy55⟩) (by assumption) ?rest55
  case hy55 =>
    intro w hSw
    (obtain ⟨⟨q0, q1, q2, q3, q4⟩, q5⟩ := hSw; go_simp; try with_reducible rfl)
  try simp only [Act.put, List.setIfInBounds_toArray, List.set_cons_zero, List.set_cons_succ, List.getElem_toArray, List.getElem_cons_succ, List.getElem_cons_zero]
  refine wpAnyH_take (i := 6) (v := ?v56) rfl (by kernel_rfl) (by kernel_rfl) (by kernel_rfl) (fun _ _ _ h => h) (Or.inl ⟨by rfl, ?hy56⟩) (by assumption) ?rest56
  case hy56 =>
    intro w hSw
    go_simp
    try with_reducible rfl
  try simp only [Act.put, List.setIfInBounds_toArray, List.set_cons_zero, List.set_cons_succ, List.getElem_toArray, List.getElem_cons_succ, List.getElem_cons_zero]
  refine wpAnyH_ready (rs := [7]) (by kernel_rfl) (by simp) ?_
  refine AllReadyH.cons rfl (fun K hK => ?_) AllReadyH.nil
  go_simp
  go_wp2_with fail; refine (unhide HC _ _ ((unhide HLD).trans (wrote_drew (unhide HR6)))).mono ?_; rintro e w8 ⟨rfl, v8, hr8⟩; have h8 := (wrote_drew (unhide HR6)).trans hr8
  refine hK.out _ _ (⟨unhide HK _ _ _ h8, wrote_box (unhide HW5) (Nat.le_refl _) hr8 (((Only.refl (fun _ => False) w6).drew).cell hR (fun e => e))⟩) (fun hHeld => ?_)
  clear hK K
  try simp only [Act.put, List.setIfInBounds_toArray, List.set_cons_zero, List.set_cons_succ, List.getElem_toArray, List.getElem_cons_succ, List.getElem_cons_zero]
  refine wpAnyH_done (by kernel_rfl) ?_ _
  have HR8 := hide ((unhide HLD).trans h8)
  clear hHeld h8 hr8 e0 e1 e2 e3 e4 hR HC HK HLD HR6 HW5 HUp
  have HF := hide (filled_any L w8 (by omega))
  rw [unhide HP] at HF
  have hsub : (p : Int) - (L : Int) = (q : Int) := by have := unhide HPQ; omega
  obtain ⟨Z, hmk, hZ⟩ := make_noughts q (by have := unhide HPQ; omega)
  have hlz := (unhide HR8).trans ((unhide HR8).now.laid (.cells Z 5))
  have HR9 := hide hlz
  have HRaw := hide (WO.raw_any b v8 _ (.slice (some ⟨w8.heap.size, 0, none⟩) q q) (List.replicate q 0) _ (has_row (heap_alloc_new w8 (.cells Z 5)) hZ (by simp) (by have := unhide HPQ; unfold maxLen; omega)) hlz.now (by have := unhide HPQ; simp [headL_length]; omega))
  clear hlz hZ
  go_wp2_with fail
  refine (unhide HF).mono ?_
  rintro e w9 ⟨rfl, rfl⟩
  clear HF
  go_wp2_with fail
  refine (unhide HRaw).mono ?_
  rintro e w10 ⟨rfl, v10, hr10⟩
  have HR10 := hide ((unhide HR9).trans hr10)
  clear hr10 HR9 HR8 HRaw hmk
  go_wp2
  go_end0
  exact ⟨rfl, v10, unhide HR10⟩

set_option maxHeartbeats 4000000 in
set_option maxRecDepth 100000 in
theorem lay_9 (t : Nat) (n : Int) (da : Option Addr) (dl dc : Nat) (ka : Option Addr) (kl kc L b : Nat) (v : Value) (bs body : List UInt8) (w : World) (hW : WrAt 91 w b v bs) (ht : t < 16777216) (hL : L < 4294967296) (hbl : body.length ≤ 4294967296) (hr : bs.length ≤ 4294967296)
    (HL : Hid (Calls Tryd.prog 50 #[.pointer (some ⟨w.heap.size, 0, none⟩), .int .i64 1] (w.alloc (.cells #[.int .i64 t, .int .i64 9, .int .i64 n, .slice da dl dc, .slice ka kl kc] 25)) fun e w' => e = .returned (.int .i64 L) ∧ w' = w.alloc (.cells #[.int .i64 t, .int .i64 9, .int .i64 n, .slice da dl dc, .slice ka kl kc] 25)))
    (HC : Hid (∀ W v1, Wrote 91 w b v W v1 (bs ++ headL t 9 L) → Calls Tryd.prog 56 #[iv t 9 n da dl dc ka kl kc, .pointer (some ⟨b, 0, none⟩)] W fun e w' => e = .returned (.tuple #[]) ∧ ∃ v2, Wrote 91 W b v1 w' v2 ((bs ++ headL t 9 L) ++ body))) :
    Calls Tryd.prog 28 #[iv t 9 n da dl dc ka kl kc, .pointer (some ⟨b, 0, none⟩)] w fun e w' => e = .returned (.tuple #[]) ∧ ∃ v', Wrote 91 w b v w' v' (((bs ++ headL t 9 L) ++ body) ++ List.replicate (pad8 L - L) 0) := by
  obtain ⟨⟨c0, c1, c2, c3, c4⟩, oA⟩ := boxed w (.int .i64 t) (.int .i64 9) (.int .i64 n) (.slice da dl dc) (.slice ka kl kc)
  have hl := hW.laid (.cells #[.int .i64 t, .int .i64 9, .int .i64 n, .slice da dl dc, .slice ka kl kc] 25)
  have HLD := hide hl
  have HW := hide hW
  have HK : Hid (∀ W v1 cs, Wrote 91 (w.alloc (.cells #[.int .i64 t, .int .i64 9, .int .i64 n, .slice da dl dc, .slice ka kl kc] 25)) b v W v1 cs → W.cell? ⟨w.heap.size, 0, none⟩ = some (.int .i64 t) ∧ W.cell? ⟨w.heap.size, 1, none⟩ = some (.int .i64 9) ∧ W.cell? ⟨w.heap.size, 2, none⟩ = some (.int .i64 n) ∧ W.cell? ⟨w.heap.size, 3, none⟩ = some (.slice da dl dc) ∧ W.cell? ⟨w.heap.size, 4, none⟩ = some (.slice ka kl kc)) := fun W v1 cs hw =>
    ⟨wrote_box hW (Nat.le_refl _) hw c0, wrote_box hW (Nat.le_refl _) hw c1, wrote_box hW (Nat.le_refl _) hw c2, wrote_box hW (Nat.le_refl _) hw c3, wrote_box hW (Nat.le_refl _) hw c4⟩
  have H1 := hide (WO.u8_any b v bs ((t / 65536 : Nat) : Int) _ hl.now (by omega))
  rw [be_nat 1 (t / 65536) (by omega)] at H1
  rw [show ((t / 65536 : Nat) : Int) = (t : Int) / 65536 by omega] at H1
  have HS : Hid (w.heap.size + 1 = (w.alloc (.cells #[.int .i64 t, .int .i64 9, .int .i64 n, .slice da dl dc, .slice ka kl kc] 25)).heap.size) := by show _ = _; simp
  obtain ⟨p, hp⟩ : ∃ p, pad8 L = p := ⟨_, rfl⟩
  obtain ⟨q, hq⟩ : ∃ q, p - L = q := ⟨_, rfl⟩
  have hple := pad8_ge L
  have hplt : pad8 L < L + 8 := by unfold pad8; omega
  rw [hp, hq]
  rw [hp] at hple hplt
  have HP := hide hp
  have HPQ : Hid (p = L + q) := by show _ = _; omega
  clear hp hq hple
  unfold iv at HC ⊢
  have hsh := shr16 t
  go_enter Tryd.func28, Tryd.ntmps28
  clear hl hW
  go_wp2_with fail
  refine (unhide HL).mono ?_
  rintro e w2 ⟨rfl, rfl⟩
  generalize w.alloc (.cells #[.int .i64 t, .int .i64 9, .int .i64 n, .slice da dl dc, .slice ka kl kc] 25) = w1 at *
  clear HL
  go_wp2_with fail
  refine (unhide H1).mono ?_
  rintro e w2 ⟨rfl, v2, hr2⟩
  obtain ⟨d0, d1, d2, d3, d4⟩ := unhide HK _ _ _ hr2
  have HR2 := hide hr2
  have H2 := hide (WO.u16_any b v2 _ ((t : Nat) : Int) _ hr2.now (by simp [be_length]; omega))
  rw [be_nat 2 t (by omega)] at H2
  clear hr2 c0 c1 c2 c3 c4 H1 hsh
  go_wp2_with fail
  refine (unhide H2).mono ?_
  rintro e w3 ⟨rfl, v3, hr3⟩
  have HR3 := hide ((unhide HR2).trans hr3)
  obtain ⟨e0, e1, e2, e3, e4⟩ := unhide HK _ _ _ (unhide HR3)
  have H3 := hide (WO.u8_any b v3 _ ((9 : Nat) : Int) _ hr3.now (by simp [be_length]; omega))
  rw [be_nat 1 9 (by omega), show ((9 : Nat) : Int) = 9 from rfl] at H3
  clear hr3 d0 d1 d2 d3 d4 H2 HR2
  go_wp2_with fail
  refine (unhide H3).mono ?_
  rintro e w4 ⟨rfl, v4, hr4⟩
  have HR4 := hide ((unhide HR3).trans hr4)
  have H4 := hide (WO.u32_any b v4 _ ((L : Nat) : Int) _ hr4.now (by simp [be_length]; omega))
  rw [be_nat 4 L (by omega)] at H4
  clear hr4 e0 e1 e2 e3 e4 H3 HR3
  go_wp2_with fail
  refine (unhide H4).mono ?_
  rintro e w5 ⟨rfl, v5, hr5⟩
  have h5 := (unhide HR4).trans hr5
  obtain ⟨d0, d1, d2, d3, d4⟩ := unhide HK _ _ _ h5
  rw [show bs ++ be 1 (t / 65536) ++ be 2 t ++ be 1 9 ++ be 4 L = bs ++ headL t 9 L by unfold headL; rw [Int.toNat_natCast]; simp [List.append_assoc]] at h5
  have HR5 := hide h5
  have hs5 := h5.only.size
  clear hr5 H4 HR4 h5
  -- the row of layers
  have oR : Only (fun _ => False) w5 (w5.alloc (.cells #[Value.nilFunc, Value.func (Fn.func 54) #[] #[], Value.func (Fn.func 55) #[] #[], Value.func (Fn.func 56) #[] #[], Value.func (Fn.func 57) #[] #[], Value.func (Fn.func 55) #[] #[], Value.func (Fn.func 56) #[] #[], Value.func (Fn.func 57) #[] #[], Value.func (Fn.func 57) #[] #[], Value.func (Fn.func 56) #[] #[], Value.func (Fn.func 55) #[] #[]] 95)) := (Only.refl _ _).alloc _
  have hR : (w5.alloc (.cells #[Value.nilFunc, Value.func (Fn.func 54) #[] #[], Value.func (Fn.func 55) #[] #[], Value.func (Fn.func 56) #[] #[], Value.func (Fn.func 57) #[] #[], Value.func (Fn.func 55) #[] #[], Value.func (Fn.func 56) #[] #[], Value.func (Fn.func 57) #[] #[], Value.func (Fn.func 57) #[] #[], Value.func (Fn.func 56) #[] #[], Value.func (Fn.func 55) #[] #[]] 95)).cell? ⟨w5.heap.size, 9, none⟩ = some (Value.func (Fn.func 56) #[] #[]) := (cell_of_heap (heap_alloc_new w5 (.cells #[Value.nilFunc, Value.func (Fn.func 54) #[] #[], Value.func (Fn.func 55) #[] #[], Value.func (Fn.func 56) #[] #[], Value.func (Fn.func 57) #[] #[], Value.func (Fn.func 55) #[] #[], Value.func (Fn.func 56) #[] #[], Value.func (Fn.func 57) #[] #[], Value.func (Fn.func 57) #[] #[], Value.func (Fn.func 56) #[] #[], Value.func (Fn.func 55) #[] #[]] 95))).trans rfl
  have hl5 := (unhide HR5).trans ((unhide HR5).now.laid (.cells #[Value.nilFunc, Value.func (Fn.func 54) #[] #[], Value.func (Fn.func 55) #[] #[], Value.func (Fn.func 56) #[] #[], Value.func (Fn.func 57) #[] #[], Value.func (Fn.func 55) #[] #[], Value.func (Fn.func 56) #[] #[], Value.func (Fn.func 57) #[] #[], Value.func (Fn.func 57) #[] #[], Value.func (Fn.func 56) #[] #[], Value.func (Fn.func 55) #[] #[]] 95))
  have HR6 := hide hl5
  have HW5 := hide (unhide HR5).now
  have HUp : Hid (w.heap.size ≤ w5.heap.size) := by have := (unhide HS); show _ ≤ _; omega
  have e0 := oR.cell d0 (fun e => e)
  have e1 := oR.cell d1 (fun e => e)
  have e2 := oR.cell d2 (fun e => e)
  have e3 := oR.cell d3 (fun e => e)
  have e4 := oR.cell d4 (fun e => e)
  clear oR hl5 d0 d1 d2 d3 d4
  go_wp2_with fail
  generalize hw6 : w5.alloc (.cells #[Value.nilFunc, Value.func (Fn.func 54) #[] #[], Value.func (Fn.func 55) #[] #[], Value.func (Fn.func 56) #[] #[], Value.func (Fn.func 57) #[] #[], Value.func (Fn.func 55) #[] #[], Value.func (Fn.func 56) #[] #[], Value.func (Fn.func 57) #[] #[], Value.func (Fn.func 57) #[] #[], Value.func (Fn.func 56) #[] #[], Value.func (Fn.func 55) #[] #[]] 95) = w6 at *
  clear hw6 HR5
  clear hs5 HS
  refine wp_region_held_drew (S := (fun w' => (w'.cell? ⟨w.heap.size, 0, none⟩ = some (.int .i64 t) ∧ w'.cell? ⟨w.heap.size, 1, none⟩ = some (.int .i64 9) ∧ w'.cell? ⟨w.heap.size, 2, none⟩ = some (.int .i64 n) ∧ w'.cell? ⟨w.heap.size, 3, none⟩ = some (.slice da dl dc) ∧ w'.cell? ⟨w.heap.size, 4, none⟩ = some (.slice ka kl kc)) ∧ w'.cell? ⟨w5.heap.size, 9, none⟩ = some (Value.func (Fn.func 56) #[] #[]))) (by kernel_rfl) (⟨⟨e0, e1, e2, e3, e4⟩, hR⟩) (fun hHeld => ?_)
  refine wpAnyH_take (i := 0) (v := ?v57) rfl (by kernel_rfl) (by kernel_rfl) (by kernel_rfl) (fun _ _ _ h => h) (Or.inl ⟨by rfl, ?hy57⟩) (by assumption) ?rest57
  case hy57 =>
    intro w hSw
    go_simp
    try with_reducible rfl
  try simp only [Act.put, List.setIfInBounds_toArray, List.set_cons_zero, List.set_cons_succ, List.getElem_toArray, List.getElem_cons_succ, List.getElem_cons_zero]
  refine wpAnyH_take (i := 1) (v := ?v58) rfl (by kernel_rfl) (by kernel_rfl) (by kernel_rfl) (fun _ _ _ h => h) (Or.inl ⟨by rfl, ?hy58⟩) (by assumption) ?rest58
  case hy58 =>
    intro w hSw
    go_simp
    try with_reducible rfl
  try simp only [Act.put, List.setIfInBounds_toArray, List.set_cons_zero, List.set_cons_succ, List.getElem_toArray, List.getElem_cons_succ, List.getElem_cons_zero]
  refine wpAnyH_take (i := 2) (v := ?v59) rfl (by kernel_rfl) (by kernel_rfl) (by kernel_rfl) (fun _ _ _ h => h) (Or.inl ⟨by rfl, ?hy59⟩) (by assumption) ?rest59
  case hy59 =>
    intro w hSw
    (obtain ⟨⟨q0, q1, q2, q3, q4⟩, q5⟩ := hSw; go_simp; try with_reducible rfl)
  try simp only [Act.put, List.setIfInBounds_toArray, List.set_cons_zero, List.set_cons_succ, List.getElem_toArray, List.getElem_cons_succ, List.getElem_cons_zero]
  refine wpAnyH_take (i := 3) (v := ?v60) rfl (by kernel_rfl) (by kernel_rfl) (by kernel_rfl) (fun _ _ _ h => h) (Or.inl ⟨by rfl, ?hy60⟩) (by assumption) ?rest60
  case hy60 =>
    intro w hSw
    go_simp
    try with_reducible rfl
  try simp only [Act.put, List.setIfInBounds_toArray, List.set_cons_zero, List.set_cons_succ, List.getElem_toArray, List.getElem_cons_succ, List.getElem_cons_zero]
  refine wpAnyH_take (i := 4) (v := ?v61) rfl (by kernel_rfl) (by kernel_rfl) (by kernel_rfl) (fun _ _ _ h => h) (Or.inl ⟨by rfl, ?hy61⟩) (by assumption) ?rest61
  case hy61 =>
    intro w hSw
    (obtain ⟨⟨q0, q1, q2, q3, q4⟩, q5⟩ := hSw; go_simp; try with_reducible rfl)
  try simp only [Act.put, List.setIfInBounds_toArray, List.set_cons_zero, List.set_cons_succ, List.getElem_toArray, List.getElem_cons_succ, List.getElem_cons_zero]
  refine wpAnyH_take (i := 5) (v := ?v62) rfl (by kernel_rfl) (by kernel_rfl) (by kernel_rfl) (fun _ _ _ h => h) (Or.inl ⟨by rfl, ?hy62⟩) (by assumption) ?rest62
  case hy62 =>
    intro w hSw
    (obtain ⟨⟨q0, q1, q2, q3, q4⟩, q5⟩ := hSw; go_simp; try with_reducible rfl)
  try simp only [Act.put, List.setIfInBounds_toArray, List.set_cons_zero, List.set_cons_succ, List.getElem_toArray, List.getElem_cons_succ, List.getElem_cons_zero]
  refine wpAnyH_take (i := 6) (v := ?v63) rfl (by kernel_rfl) (by kernel_rfl) (by kernel_rfl) (fun _ _ _ h => h) (Or.inl ⟨by rfl, ?hy63⟩) (by assumption) ?rest63
  case hy63 =>
    intro w hSw
    go_simp
    try with_reducible rfl
  try simp only [Act.put, List.setIfInBounds_toArray, List.set_cons_zero, List.set_cons_succ, List.getElem_toArray, List.getElem_cons_succ, List.getElem_cons_zero]
  refine wpAnyH_ready (rs := [7]) (by kernel_rfl) (by simp) ?_
  refine AllReadyH.cons rfl (fun K hK => ?_) AllReadyH.nil
  go_simp
  go_wp2_with fail; refine (unhide HC _ _ ((unhide HLD).trans (wrote_drew (unhide HR6)))).mono ?_; rintro e w8 ⟨rfl, v8, hr8⟩; have h8 := (wrote_drew (unhide HR6)).trans hr8
  refine hK.out _ _ (⟨unhide HK _ _ _ h8, wrote_box (unhide HW5) (Nat.le_refl _) hr8 (((Only.refl (fun _ => False) w6).drew).cell hR (fun e => e))⟩) (fun hHeld => ?_)
  clear hK K
  try simp only [Act.put, List.setIfInBounds_toArray, List.set_cons_zero, List.set_cons_succ, List.getElem_toArray, List.getElem_cons_succ, List.getElem_cons_zero]
  refine wpAnyH_done (by kernel_rfl) ?_ _
  have HR8 := hide ((unhide HLD).trans h8)
  clear hHeld h8 hr8 e0 e1 e2 e3 e4 hR HC HK HLD HR6 HW5 HUp
  have HF := hide (filled_any L w8 (by omega))
  rw [unhide HP] at HF
  have hsub : (p : Int) - (L : Int) = (q : Int) := by have := unhide HPQ; omega
  obtain ⟨Z, hmk, hZ⟩ := make_noughts q (by have := unhide HPQ; omega)
  have hlz := (unhide HR8).trans ((unhide HR8).now.laid (.cells Z 5))
  have HR9 := hide hlz
  have HRaw := hide (WO.raw_any b v8 _ (.slice (some ⟨w8.heap.size, 0, none⟩) q q) (List.replicate q 0) _ (has_row (heap_alloc_new w8 (.cells Z 5)) hZ (by simp) (by have := unhide HPQ; unfold maxLen; omega)) hlz.now (by have := unhide HPQ; simp [headL_length]; omega))
  clear hlz hZ
  go_wp2_with fail
  refine (unhide HF).mono ?_
  rintro e w9 ⟨rfl, rfl⟩
  clear HF
  go_wp2_with fail
  refine (unhide HRaw).mono ?_
  rintro e w10 ⟨rfl, v10, hr10⟩
  have HR10 := hide ((unhide HR9).trans hr10)
  clear hr10 HR9 HR8 HRaw hmk
  go_wp2
  go_end0
  exact ⟨rfl, v10, unhide HR10⟩

set_option maxHeartbeats 4000000 in
set_option maxRecDepth 100000 in
theorem lay_10 (t : Nat) (n : Int) (da : Option Addr) (dl dc : Nat) (ka : Option Addr) (kl kc L b : Nat) (v : Value) (bs body : List UInt8) (w : World) (hW : WrAt 91 w b v bs) (ht : t < 16777216) (hL : L < 4294967296) (hbl : body.length ≤ 4294967296) (hr : bs.length ≤ 4294967296)
    (HL : Hid (Calls Tryd.prog 50 #[.pointer (some ⟨w.heap.size, 0, none⟩), .int .i64 1] (w.alloc (.cells #[.int .i64 t, .int .i64 10, .int .i64 n, .slice da dl dc, .slice ka kl kc] 25)) fun e w' => e = .returned (.int .i64 L) ∧ w' = w.alloc (.cells #[.int .i64 t, .int .i64 10, .int .i64 n, .slice da dl dc, .slice ka kl kc] 25)))
    (HC : Hid (∀ W v1, Wrote 91 w b v W v1 (bs ++ headL t 10 L) → Calls Tryd.prog 55 #[iv t 10 n da dl dc ka kl kc, .pointer (some ⟨b, 0, none⟩)] W fun e w' => e = .returned (.tuple #[]) ∧ ∃ v2, Wrote 91 W b v1 w' v2 ((bs ++ headL t 10 L) ++ body))) :
    Calls Tryd.prog 28 #[iv t 10 n da dl dc ka kl kc, .pointer (some ⟨b, 0, none⟩)] w fun e w' => e = .returned (.tuple #[]) ∧ ∃ v', Wrote 91 w b v w' v' (((bs ++ headL t 10 L) ++ body) ++ List.replicate (pad8 L - L) 0) := by
  obtain ⟨⟨c0, c1, c2, c3, c4⟩, oA⟩ := boxed w (.int .i64 t) (.int .i64 10) (.int .i64 n) (.slice da dl dc) (.slice ka kl kc)
  have hl := hW.laid (.cells #[.int .i64 t, .int .i64 10, .int .i64 n, .slice da dl dc, .slice ka kl kc] 25)
  have HLD := hide hl
  have HW := hide hW
  have HK : Hid (∀ W v1 cs, Wrote 91 (w.alloc (.cells #[.int .i64 t, .int .i64 10, .int .i64 n, .slice da dl dc, .slice ka kl kc] 25)) b v W v1 cs → W.cell? ⟨w.heap.size, 0, none⟩ = some (.int .i64 t) ∧ W.cell? ⟨w.heap.size, 1, none⟩ = some (.int .i64 10) ∧ W.cell? ⟨w.heap.size, 2, none⟩ = some (.int .i64 n) ∧ W.cell? ⟨w.heap.size, 3, none⟩ = some (.slice da dl dc) ∧ W.cell? ⟨w.heap.size, 4, none⟩ = some (.slice ka kl kc)) := fun W v1 cs hw =>
    ⟨wrote_box hW (Nat.le_refl _) hw c0, wrote_box hW (Nat.le_refl _) hw c1, wrote_box hW (Nat.le_refl _) hw c2, wrote_box hW (Nat.le_refl _) hw c3, wrote_box hW (Nat.le_refl _) hw c4⟩
  have H1 := hide (WO.u8_any b v bs ((t / 65536 : Nat) : Int) _ hl.now (by omega))
  rw [be_nat 1 (t / 65536) (by omega)] at H1
  rw [show ((t / 65536 : Nat) : Int) = (t : Int) / 65536 by omega] at H1
  have HS : Hid (w.heap.size + 1 = (w.alloc (.cells #[.int .i64 t, .int .i64 10, .int .i64 n, .slice da dl dc, .slice ka kl kc] 25)).heap.size) := by show _ = _; simp
  obtain ⟨p, hp⟩ : ∃ p, pad8 L = p := ⟨_, rfl⟩
  obtain ⟨q, hq⟩ : ∃ q, p - L = q := ⟨_, rfl⟩
  have hple := pad8_ge L
  have hplt : pad8 L < L + 8 := by unfold pad8; omega
  rw [hp, hq]
  rw [hp] at hple hplt
  have HP := hide hp
  have HPQ : Hid (p = L + q) := by show _ = _; omega
  clear hp hq hple
  unfold iv at HC ⊢
  have hsh := shr16 t
  go_enter Tryd.func28, Tryd.ntmps28
  clear hl hW
  go_wp2_with fail
  refine (unhide HL).mono ?_
  rintro e w2 ⟨rfl, rfl⟩
  generalize w.alloc (.cells #[.int .i64 t, .int .i64 10, .int .i64 n, .slice da dl dc, .slice ka kl kc] 25) = w1 at *
  clear HL
  go_wp2_with fail
  refine (unhide H1).mono ?_
  rintro e w2 ⟨rfl, v2, hr2⟩
  obtain ⟨d0, d1, d2, d3, d4⟩ := unhide HK _ _ _ hr2
  have HR2 := hide hr2
  have H2 := hide (WO.u16_any b v2 _ ((t : Nat) : Int) _ hr2.now (by simp [be_length]; omega))
  rw [be_nat 2 t (by omega)] at H2
  clear hr2 c0 c1 c2 c3 c4 H1 hsh
  go_wp2_with fail
  refine (unhide H2).mono ?_
  rintro e w3 ⟨rfl, v3, hr3⟩
  have HR3 := hide ((unhide HR2).trans hr3)
  obtain ⟨e0, e1, e2, e3, e4⟩ := unhide HK _ _ _ (unhide HR3)
  have H3 := hide (WO.u8_any b v3 _ ((10 : Nat) : Int) _ hr3.now (by simp [be_length]; omega))
  rw [be_nat 1 10 (by omega), show ((10 : Nat) : Int) = 10 from rfl] at H3
  clear hr3 d0 d1 d2 d3 d4 H2 HR2
  go_wp2_with fail
  refine (unhide H3).mono ?_
  rintro e w4 ⟨rfl, v4, hr4⟩
  have HR4 := hide ((unhide HR3).trans hr4)
  have H4 := hide (WO.u32_any b v4 _ ((L : Nat) : Int) _ hr4.now (by simp [be_length]; omega))
  rw [be_nat 4 L (by omega)] at H4
  clear hr4 e0 e1 e2 e3 e4 H3 HR3
  go_wp2_with fail
  refine (unhide H4).mono ?_
  rintro e w5 ⟨rfl, v5, hr5⟩
  have h5 := (unhide HR4).trans hr5
  obtain ⟨d0, d1, d2, d3, d4⟩ := unhide HK _ _ _ h5
  rw [show bs ++ be 1 (t / 65536) ++ be 2 t ++ be 1 10 ++ be 4 L = bs ++ headL t 10 L by unfold headL; rw [Int.toNat_natCast]; simp [List.append_assoc]] at h5
  have HR5 := hide h5
  have hs5 := h5.only.size
  clear hr5 H4 HR4 h5
  -- the row of layers
  have oR : Only (fun _ => False) w5 (w5.alloc (.cells #[Value.nilFunc, Value.func (Fn.func 54) #[] #[], Value.func (Fn.func 55) #[] #[], Value.func (Fn.func 56) #[] #[], Value.func (Fn.func 57) #[] #[], Value.func (Fn.func 55) #[] #[], Value.func (Fn.func 56) #[] #[], Value.func (Fn.func 57) #[] #[], Value.func (Fn.func 57) #[] #[], Value.func (Fn.func 56) #[] #[], Value.func (Fn.func 55) #[] #[]] 95)) := (Only.refl _ _).alloc _
  have hR : (w5.alloc (.cells #[Value.nilFunc, Value.func (Fn.func 54) #[] #[], Value.func (Fn.func 55) #[] #[], Value.func (Fn.func 56) #[] #[], Value.func (Fn.func 57) #[] #[], Value.func (Fn.func 55) #[] #[], Value.func (Fn.func 56) #[] #[], Value.func (Fn.func 57) #[] #[], Value.func (Fn.func 57) #[] #[], Value.func (Fn.func 56) #[] #[], Value.func (Fn.func 55) #[] #[]] 95)).cell? ⟨w5.heap.size, 10, none⟩ = some (Value.func (Fn.func 55) #[] #[]) := (cell_of_heap (heap_alloc_new w5 (.cells #[Value.nilFunc, Value.func (Fn.func 54) #[] #[], Value.func (Fn.func 55) #[] #[], Value.func (Fn.func 56) #[] #[], Value.func (Fn.func 57) #[] #[], Value.func (Fn.func 55) #[] #[], Value.func (Fn.func 56) #[] #[], Value.func (Fn.func 57) #[] #[], Value.func (Fn.func 57) #[] #[], Value.func (Fn.func 56) #[] #[], Value.func (Fn.func 55) #[] #[]] 95))).trans rfl
  have hl5 := (unhide HR5).trans ((unhide HR5).now.laid (.cells #[Value.nilFunc, Value.func (Fn.func 54) #[] #[], Value.func (Fn.func 55) #[] #[], Value.func (Fn.func 56) #[] #[], Value.func (Fn.func 57) #[] #[], Value.func (Fn.func 55) #[] #[], Value.func (Fn.func 56) #[] #[], Value.func (Fn.func 57) #[] #[], Value.func (Fn.func 57) #[] #[], Value.func (Fn.func 56) #[] #[], Value.func (Fn.func 55) #[] #[]] 95))
  have HR6 := hide hl5
  have HW5 := hide (unhide HR5).now
  have HUp : Hid (w.heap.size ≤ w5.heap.size) := by have := (unhide HS); show _ ≤ _; omega
  have e0 := oR.cell d0 (fun e => e)
  have e1 := oR.cell d1 (fun e => e)
  have e2 := oR.cell d2 (fun e => e)
  have e3 := oR.cell d3 (fun e => e)
  have e4 := oR.cell d4 (fun e => e)
  clear oR hl5 d0 d1 d2 d3 d4
  go_wp2_with fail
  generalize hw6 : w5.alloc (.cells #[Value.nilFunc, Value.func (Fn.func 54) #[] #[], Value.func (Fn.func 55) #[] #[], Value.func (Fn.func 56) #[] #[], Value.func (Fn.func 57) #[] #[], Value.func (Fn.func 55) #[] #[], Value.func (Fn.func 56) #[] #[], Value.func (Fn.func 57) #[] #[], Value.func (Fn.func 57) #[] #[], Value.func (Fn.func 56) #[] #[], Value.func (Fn.func 55) #[] #[]] 95) = w6 at *
  clear hw6 HR5
  clear hs5 HS
  refine wp_region_held_drew (S := (fun w' => (w'.cell? ⟨w.heap.size, 0, none⟩ = some (.int .i64 t) ∧ w'.cell? ⟨w.heap.size, 1, none⟩ = some (.int .i64 10) ∧ w'.cell? ⟨w.heap.size, 2, none⟩ = some (.int .i64 n) ∧ w'.cell? ⟨w.heap.size, 3, none⟩ = some (.slice da dl dc) ∧ w'.cell? ⟨w.heap.size, 4, none⟩ = some (.slice ka kl kc)) ∧ w'.cell? ⟨w5.heap.size, 10, none⟩ = some (Value.func (Fn.func 55) #[] #[]))) (by kernel_rfl) (⟨⟨e0, e1, e2, e3, e4⟩, hR⟩) (fun hHeld => ?_)
  refine wpAnyH_take (i := 0) (v := ?v64) rfl (by kernel_rfl) (by kernel_rfl) (by kernel_rfl) (fun _ _ _ h => h) (Or.inl ⟨by rfl, ?hy64⟩) (by assumption) ?rest64
  case hy64 =>
    intro w hSw
    go_simp
    try with_reducible rfl
  try simp only [Act.put, List.setIfInBounds_toArray, List.set_cons_zero, List.set_cons_succ, List.getElem_toArray, List.getElem_cons_succ, List.getElem_cons_zero]
  refine wpAnyH_take (i := 1) (v := ?v65) rfl (by kernel_rfl) (by kernel_rfl) (by kernel_rfl) (fun _ _ _ h => h) (Or.inl ⟨by rfl, ?hy65⟩) (by assumption) ?rest65
  case hy65 =>
    intro w hSw
    go_simp
    try with_reducible rfl
  try simp only [Act.put, List.setIfInBounds_toArray, List.set_cons_zero, List.set_cons_succ, List.getElem_toArray, List.getElem_cons_succ, List.getElem_cons_zero]
  refine wpAnyH_take (i := 2) (v := ?v66) rfl (by kernel_rfl) (by kernel_rfl) (by kernel_rfl) (fun _ _ _ h => h) (Or.inl ⟨by rfl, ?hy66⟩) (by assumption) ?rest66
  case hy66 =>
    intro w hSw
    (obtain ⟨⟨q0, q1, q2, q3, q4⟩, q5⟩ := hSw; go_simp; try with_reducible rfl)
  try simp only [Act.put, List.setIfInBounds_toArray, List.set_cons_zero, List.set_cons_succ, List.getElem_toArray, List.getElem_cons_succ, List.getElem_cons_zero]
  refine wpAnyH_take (i := 3) (v := ?v67) rfl (by kernel_rfl) (by kernel_rfl) (by kernel_rfl) (fun _ _ _ h => h) (Or.inl ⟨by rfl, ?hy67⟩) (by assumption) ?rest67
  case hy67 =>
    intro w hSw
    go_simp
    try with_reducible rfl
  try simp only [Act.put, List.setIfInBounds_toArray, List.set_cons_zero, List.set_cons_succ, List.getElem_toArray, List.getElem_cons_succ, List.getElem_cons_zero]
  refine wpAnyH_take (i := 4) (v := ?v68) rfl (by kernel_rfl) (by kernel_rfl) (by kernel_rfl) (fun _ _ _ h => h) (Or.inl ⟨by rfl, ?hy68⟩) (by assumption) ?rest68
  case hy68 =>
    intro w hSw
    (obtain ⟨⟨q0, q1, q2, q3, q4⟩, q5⟩ := hSw; go_simp; try with_reducible rfl)
  try simp only [Act.put, List.setIfInBounds_toArray, List.set_cons_zero, List.set_cons_succ, List.getElem_toArray, List.getElem_cons_succ, List.getElem_cons_zero]
  refine wpAnyH_take (i := 5) (v := ?v69) rfl (by kernel_rfl) (by kernel_rfl) (by kernel_rfl) (fun _ _ _ h => h) (Or.inl ⟨by rfl, ?hy69⟩) (by assumption) ?rest69
  case hy69 =>
    intro w hSw
    (obtain ⟨⟨q0, q1, q2, q3, q4⟩, q5⟩ := hSw; go_simp; try with_reducible rfl)
  try simp only [Act.put, List.setIfInBounds_toArray, List.set_cons_zero, List.set_cons_succ, List.getElem_toArray, List.getElem_cons_succ, List.getElem_cons_zero]
  refine wpAnyH_take (i := 6) (v := ?v70) rfl (by kernel_rfl) (by kernel_rfl) (by kernel_rfl) (fun _ _ _ h => h) (Or.inl ⟨by rfl, ?hy70⟩) (by assumption) ?rest70
  case hy70 =>
    intro w hSw
    go_simp
    try with_reducible rfl
  try simp only [Act.put, List.setIfInBounds_toArray, List.set_cons_zero, List.set_cons_succ, List.getElem_toArray, List.getElem_cons_succ, List.getElem_cons_zero]
  refine wpAnyH_ready (rs := [7]) (by kernel_rfl) (by simp) ?_
  refine AllReadyH.cons rfl (fun K hK => ?_) AllReadyH.nil
  go_simp
  go_wp2_with fail; refine (unhide HC _ _ ((unhide HLD).trans (wrote_drew (unhide HR6)))).mono ?_; rintro e w8 ⟨rfl, v8, hr8⟩; have h8 := (wrote_drew (unhide HR6)).trans hr8
  refine hK.out _ _ (⟨unhide HK _ _ _ h8, wrote_box (unhide HW5) (Nat.le_refl _) hr8 (((Only.refl (fun _ => False) w6).drew).cell hR (fun e => e))⟩) (fun hHeld => ?_)
  clear hK K
  try simp only [Act.put, List.setIfInBounds_toArray, List.set_cons_zero, List.set_cons_succ, List.getElem_toArray, List.getElem_cons_succ, List.getElem_cons_zero]
  refine wpAnyH_done (by kernel_rfl) ?_ _
  have HR8 := hide ((unhide HLD).trans h8)
  clear hHeld h8 hr8 e0 e1 e2 e3 e4 hR HC HK HLD HR6 HW5 HUp
  have HF := hide (filled_any L w8 (by omega))
  rw [unhide HP] at HF
  have hsub : (p : Int) - (L : Int) = (q : Int) := by have := unhide HPQ; omega
  obtain ⟨Z, hmk, hZ⟩ := make_noughts q (by have := unhide HPQ; omega)
  have hlz := (unhide HR8).trans ((unhide HR8).now.laid (.cells Z 5))
  have HR9 := hide hlz
  have HRaw := hide (WO.raw_any b v8 _ (.slice (some ⟨w8.heap.size, 0, none⟩) q q) (List.replicate q 0) _ (has_row (heap_alloc_new w8 (.cells Z 5)) hZ (by simp) (by have := unhide HPQ; unfold maxLen; omega)) hlz.now (by have := unhide HPQ; simp [headL_length]; omega))
  clear hlz hZ
  go_wp2_with fail
  refine (unhide HF).mono ?_
  rintro e w9 ⟨rfl, rfl⟩
  clear HF
  go_wp2_with fail
  refine (unhide HRaw).mono ?_
  rintro e w10 ⟨rfl, v10, hr10⟩
  have HR10 := hide ((unhide HR9).trans hr10)
  clear hr10 HR9 HR8 HRaw hmk
  go_wp2
  go_end0
  exact ⟨rfl, v10, unhide HR10⟩
end Tt
end Go.Proofs.YtedmfjnmclbkpaaDoor
