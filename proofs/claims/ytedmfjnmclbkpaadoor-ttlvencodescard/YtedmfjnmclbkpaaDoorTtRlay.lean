/-
  The reference's lay: a way a type.
-/
import Derived.Test.YtedmfjnmclbkpaaDoorTtLay
import Derived.Test.YtedmfjnmclbkpaaDoorCallsR
import Derived.Test.YtedmfjnmclbkpaaDoorTtSize
namespace Go.Proofs.YtedmfjnmclbkpaaDoor
open Go.RowKit
set_option linter.unusedSimpArgs false
set_option linter.unusedVariables false
namespace Tt

/-- a block that was made behind the reference's writer -/
theorem wrote_boxR {w w1 w' : World} {b g : Nat} {v v' : Value} {bs cs : List UInt8} (h : WrAt 66 w b v bs) (hg : w.heap.size ≤ g) (hw : Wrote 66 w1 b v w' v' cs) {j : Nat} {x : Value} (hc : w1.cell? ⟨g, j, none⟩ = some x) : w'.cell? ⟨g, j, none⟩ = some x :=
  hw.only.cell hc (fun e => by
    have hb := lt_of_block h.blk
    rcases e with e | e
    · simp only at e; omega
    · have := (h.own.lt _ e).2; simp only at this; omega)

set_option maxHeartbeats 4000000 in
set_option maxRecDepth 100000 in
theorem rlay_2 (t : Nat) (n : Int) (da : Option Addr) (dl dc : Nat) (ka : Option Addr) (kl kc b : Nat) (v : Value) (bs : List UInt8) (w : World) (hW : WrAt 66 w b v bs) (ht : t < 16777216) (hr : bs.length ≤ 1000000) :
    Calls Tryd.prog 31 #[.pointer (some ⟨b, 0, none⟩), .agg #[.int .i64 t, .int .i64 2, .int .i64 n, .slice da dl dc, .slice ka kl kc]] w fun e w' => e = .returned (.tuple #[]) ∧ ∃ v', Wrote 66 w b v w' v' (bs ++ (headL t 2 4 ++ (be 4 (toU64 n) ++ List.replicate 4 0))) := by
  obtain ⟨⟨c0, c1, c2, c3, c4⟩, oA⟩ := boxed w (.int .i64 t) (.int .i64 2) (.int .i64 n) (.slice da dl dc) (.slice ka kl kc)
  have hl := hW.laid (.cells #[.int .i64 t, .int .i64 2, .int .i64 n, .slice da dl dc, .slice ka kl kc] 25)
  have HLD := hide hl
  have HK : Hid (∀ W v1 cs, Wrote 66 (w.alloc (.cells #[.int .i64 t, .int .i64 2, .int .i64 n, .slice da dl dc, .slice ka kl kc] 25)) b v W v1 cs → W.cell? ⟨w.heap.size, 0, none⟩ = some (.int .i64 t) ∧ W.cell? ⟨w.heap.size, 1, none⟩ = some (.int .i64 2) ∧ W.cell? ⟨w.heap.size, 2, none⟩ = some (.int .i64 n) ∧ W.cell? ⟨w.heap.size, 3, none⟩ = some (.slice da dl dc) ∧ W.cell? ⟨w.heap.size, 4, none⟩ = some (.slice ka kl kc)) := fun W v1 cs hw =>
    ⟨wrote_boxR hW (Nat.le_refl _) hw c0, wrote_boxR hW (Nat.le_refl _) hw c1, wrote_boxR hW (Nat.le_refl _) hw c2, wrote_boxR hW (Nat.le_refl _) hw c3, wrote_boxR hW (Nat.le_refl _) hw c4⟩
  have H1 := hide (WR.u8_any b v bs ((t / 65536 : Nat) : Int) _ hl.now (by omega))
  rw [be_nat 1 (t / 65536) (by omega)] at H1
  rw [show ((t / 65536 : Nat) : Int) = (t : Int) / 65536 by omega] at H1
  have HR := hide hr
  have HT := hide ht
  have hs16 := shr16 t
  rw [show ((t / 65536 : Nat) : Int) = (t : Int) / 65536 by omega] at hs16
  clear hl oA hr ht
  go_enter Tryd.func31, Tryd.ntmps31
  go_wp2_with fail
  refine (unhide H1).mono ?_
  rintro e w2 ⟨rfl, v2, hw2⟩
  obtain ⟨e0, e1, e2, e3, e4⟩ := unhide HK _ _ _ hw2
  have H2 := hide (WR.u16_any b v2 _ (t : Int) w2 hw2.now (by rw [List.length_append, be_length]; have := unhide HR; omega))
  rw [be_nat 2 t (by have := unhide HT; omega)] at H2
  have HW2 := hide hw2
  clear hw2 c0 c1 c2 c3 c4 H1
  go_wp2_with fail
  refine (unhide H2).mono ?_
  rintro e w3 ⟨rfl, v3, hw3⟩
  have hw23 := (unhide HW2).trans hw3
  clear e0 e1 e2 e3 e4 H2 HW2 hw3
  obtain ⟨e0, e1, e2, e3, e4⟩ := unhide HK _ _ _ hw23
  have H3 := hide (WR.u8_any b v3 _ (2 : Int) w3 hw23.now (by rw [List.length_append, List.length_append, be_length, be_length]; have := unhide HR; omega))
  rw [show toU64 (2 : Int) = 2 from by decide +kernel] at H3
  have HW3 := hide hw23
  clear hw23
  go_wp2_with fail
  refine (unhide H3).mono ?_
  rintro e w4 ⟨rfl, v4, hw4⟩
  have hw24 := (unhide HW3).trans hw4
  clear e0 e1 e2 e3 e4 H3 HW3 hw4
  obtain ⟨e0, e1, e2, e3, e4⟩ := unhide HK _ _ _ hw24
  have hq : (bs ++ be 1 (t / 65536) ++ be 2 t ++ be 1 2).length ≤ 1000004 := by simp only [List.length_append, be_length]; have := unhide HR; omega
  have hq8 : (bs ++ be 1 (t / 65536) ++ be 2 t ++ be 1 2).length = bs.length + 4 := by simp only [List.length_append, be_length]
  obtain ⟨B, hB⟩ : ∃ B, B = bs ++ be 1 (t / 65536) ++ be 2 t ++ be 1 2 := ⟨_, rfl⟩
  rw [← hB] at hw24 hq hq8
  have HB := hide hB
  have HQ := hide hq
  have HQ8 := hide hq8
  clear hB hq hq8
  have Ha := hide (WR.u32_any b v4 _ 4 w4 hw24.now (by have := unhide HQ; omega))
  rw [show toU64 (4 : Int) = 4 from by decide +kernel] at Ha
  have HPa := hide hw24
  clear hw24
  go_wp2_with fail
  refine (unhide Ha).mono ?_
  rintro e xa ⟨rfl, ya, za⟩
  have ga := (unhide HPa).trans za
  clear e0 e1 e2 e3 e4 za Ha HPa
  obtain ⟨e0, e1, e2, e3, e4⟩ := unhide HK _ _ _ ga
  have Hb := hide (WR.u32_any b ya _ n xa ga.now (by simp only [List.length_append, be_length]; have := unhide HQ; omega))
  have HPb := hide ga
  clear ga
  go_wp2_with fail
  refine (unhide Hb).mono ?_
  rintro e xb ⟨rfl, yb, zb⟩
  have gb := (unhide HPb).trans zb
  clear e0 e1 e2 e3 e4 zb Hb HPb
  obtain ⟨e0, e1, e2, e3, e4⟩ := unhide HK _ _ _ gb
  have Hc := hide (WR.u32_any b yb _ 0 xb gb.now (by simp only [List.length_append, be_length]; have := unhide HQ; omega))
  rw [show be 4 (toU64 (0 : Int)) = List.replicate 4 0 from by decide +kernel] at Hc
  have HPc := hide gb
  clear gb
  go_wp2_with fail
  refine (unhide Hc).mono ?_
  rintro e xc ⟨rfl, yc, zc⟩
  have gc := (unhide HPc).trans zc
  clear e0 e1 e2 e3 e4 zc Hc HPc
  obtain ⟨e0, e1, e2, e3, e4⟩ := unhide HK _ _ _ gc
  have HG := hide ((unhide HLD).trans gc)
  clear e0 e1 e2 e3 e4 gc
  go_wp2
  go_end0
  refine ⟨rfl, yc, ?_⟩
  have R := unhide HG
  rw [unhide HB] at R
  have E : bs ++ be 1 (t / 65536) ++ be 2 t ++ be 1 2 ++ be 4 4 ++ be 4 (toU64 n) ++ List.replicate 4 0 = bs ++ (headL t 2 4 ++ (be 4 (toU64 n) ++ List.replicate 4 0)) := by
    unfold headL
    simp only [List.append_assoc, Int.toNat_natCast]
    rfl
  rw [E] at R
  exact R

set_option maxHeartbeats 4000000 in
set_option maxRecDepth 100000 in
theorem rlay_5 (t : Nat) (n : Int) (da : Option Addr) (dl dc : Nat) (ka : Option Addr) (kl kc b : Nat) (v : Value) (bs : List UInt8) (w : World) (hW : WrAt 66 w b v bs) (ht : t < 16777216) (hr : bs.length ≤ 1000000) :
    Calls Tryd.prog 31 #[.pointer (some ⟨b, 0, none⟩), .agg #[.int .i64 t, .int .i64 5, .int .i64 n, .slice da dl dc, .slice ka kl kc]] w fun e w' => e = .returned (.tuple #[]) ∧ ∃ v', Wrote 66 w b v w' v' (bs ++ (headL t 5 4 ++ (be 4 (toU64 n) ++ List.replicate 4 0))) := by
  obtain ⟨⟨c0, c1, c2, c3, c4⟩, oA⟩ := boxed w (.int .i64 t) (.int .i64 5) (.int .i64 n) (.slice da dl dc) (.slice ka kl kc)
  have hl := hW.laid (.cells #[.int .i64 t, .int .i64 5, .int .i64 n, .slice da dl dc, .slice ka kl kc] 25)
  have HLD := hide hl
  have HK : Hid (∀ W v1 cs, Wrote 66 (w.alloc (.cells #[.int .i64 t, .int .i64 5, .int .i64 n, .slice da dl dc, .slice ka kl kc] 25)) b v W v1 cs → W.cell? ⟨w.heap.size, 0, none⟩ = some (.int .i64 t) ∧ W.cell? ⟨w.heap.size, 1, none⟩ = some (.int .i64 5) ∧ W.cell? ⟨w.heap.size, 2, none⟩ = some (.int .i64 n) ∧ W.cell? ⟨w.heap.size, 3, none⟩ = some (.slice da dl dc) ∧ W.cell? ⟨w.heap.size, 4, none⟩ = some (.slice ka kl kc)) := fun W v1 cs hw =>
    ⟨wrote_boxR hW (Nat.le_refl _) hw c0, wrote_boxR hW (Nat.le_refl _) hw c1, wrote_boxR hW (Nat.le_refl _) hw c2, wrote_boxR hW (Nat.le_refl _) hw c3, wrote_boxR hW (Nat.le_refl _) hw c4⟩
  have H1 := hide (WR.u8_any b v bs ((t / 65536 : Nat) : Int) _ hl.now (by omega))
  rw [be_nat 1 (t / 65536) (by omega)] at H1
  rw [show ((t / 65536 : Nat) : Int) = (t : Int) / 65536 by omega] at H1
  have HR := hide hr
  have HT := hide ht
  have hs16 := shr16 t
  rw [show ((t / 65536 : Nat) : Int) = (t : Int) / 65536 by omega] at hs16
  clear hl oA hr ht
  go_enter Tryd.func31, Tryd.ntmps31
  go_wp2_with fail
  refine (unhide H1).mono ?_
  rintro e w2 ⟨rfl, v2, hw2⟩
  obtain ⟨e0, e1, e2, e3, e4⟩ := unhide HK _ _ _ hw2
  have H2 := hide (WR.u16_any b v2 _ (t : Int) w2 hw2.now (by rw [List.length_append, be_length]; have := unhide HR; omega))
  rw [be_nat 2 t (by have := unhide HT; omega)] at H2
  have HW2 := hide hw2
  clear hw2 c0 c1 c2 c3 c4 H1
  go_wp2_with fail
  refine (unhide H2).mono ?_
  rintro e w3 ⟨rfl, v3, hw3⟩
  have hw23 := (unhide HW2).trans hw3
  clear e0 e1 e2 e3 e4 H2 HW2 hw3
  obtain ⟨e0, e1, e2, e3, e4⟩ := unhide HK _ _ _ hw23
  have H3 := hide (WR.u8_any b v3 _ (5 : Int) w3 hw23.now (by rw [List.length_append, List.length_append, be_length, be_length]; have := unhide HR; omega))
  rw [show toU64 (5 : Int) = 5 from by decide +kernel] at H3
  have HW3 := hide hw23
  clear hw23
  go_wp2_with fail
  refine (unhide H3).mono ?_
  rintro e w4 ⟨rfl, v4, hw4⟩
  have hw24 := (unhide HW3).trans hw4
  clear e0 e1 e2 e3 e4 H3 HW3 hw4
  obtain ⟨e0, e1, e2, e3, e4⟩ := unhide HK _ _ _ hw24
  have hq : (bs ++ be 1 (t / 65536) ++ be 2 t ++ be 1 5).length ≤ 1000004 := by simp only [List.length_append, be_length]; have := unhide HR; omega
  have hq8 : (bs ++ be 1 (t / 65536) ++ be 2 t ++ be 1 5).length = bs.length + 4 := by simp only [List.length_append, be_length]
  obtain ⟨B, hB⟩ : ∃ B, B = bs ++ be 1 (t / 65536) ++ be 2 t ++ be 1 5 := ⟨_, rfl⟩
  rw [← hB] at hw24 hq hq8
  have HB := hide hB
  have HQ := hide hq
  have HQ8 := hide hq8
  clear hB hq hq8
  have Ha := hide (WR.u32_any b v4 _ 4 w4 hw24.now (by have := unhide HQ; omega))
  rw [show toU64 (4 : Int) = 4 from by decide +kernel] at Ha
  have HPa := hide hw24
  clear hw24
  go_wp2_with fail
  refine (unhide Ha).mono ?_
  rintro e xa ⟨rfl, ya, za⟩
  have ga := (unhide HPa).trans za
  clear e0 e1 e2 e3 e4 za Ha HPa
  obtain ⟨e0, e1, e2, e3, e4⟩ := unhide HK _ _ _ ga
  have Hb := hide (WR.u32_any b ya _ n xa ga.now (by simp only [List.length_append, be_length]; have := unhide HQ; omega))
  have HPb := hide ga
  clear ga
  go_wp2_with fail
  refine (unhide Hb).mono ?_
  rintro e xb ⟨rfl, yb, zb⟩
  have gb := (unhide HPb).trans zb
  clear e0 e1 e2 e3 e4 zb Hb HPb
  obtain ⟨e0, e1, e2, e3, e4⟩ := unhide HK _ _ _ gb
  have Hc := hide (WR.u32_any b yb _ 0 xb gb.now (by simp only [List.length_append, be_length]; have := unhide HQ; omega))
  rw [show be 4 (toU64 (0 : Int)) = List.replicate 4 0 from by decide +kernel] at Hc
  have HPc := hide gb
  clear gb
  go_wp2_with fail
  refine (unhide Hc).mono ?_
  rintro e xc ⟨rfl, yc, zc⟩
  have gc := (unhide HPc).trans zc
  clear e0 e1 e2 e3 e4 zc Hc HPc
  obtain ⟨e0, e1, e2, e3, e4⟩ := unhide HK _ _ _ gc
  have HG := hide ((unhide HLD).trans gc)
  clear e0 e1 e2 e3 e4 gc
  go_wp2
  go_end0
  refine ⟨rfl, yc, ?_⟩
  have R := unhide HG
  rw [unhide HB] at R
  have E : bs ++ be 1 (t / 65536) ++ be 2 t ++ be 1 5 ++ be 4 4 ++ be 4 (toU64 n) ++ List.replicate 4 0 = bs ++ (headL t 5 4 ++ (be 4 (toU64 n) ++ List.replicate 4 0)) := by
    unfold headL
    simp only [List.append_assoc, Int.toNat_natCast]
    rfl
  rw [E] at R
  exact R

set_option maxHeartbeats 4000000 in
set_option maxRecDepth 100000 in
theorem rlay_10 (t : Nat) (n : Int) (da : Option Addr) (dl dc : Nat) (ka : Option Addr) (kl kc b : Nat) (v : Value) (bs : List UInt8) (w : World) (hW : WrAt 66 w b v bs) (ht : t < 16777216) (hr : bs.length ≤ 1000000) :
    Calls Tryd.prog 31 #[.pointer (some ⟨b, 0, none⟩), .agg #[.int .i64 t, .int .i64 10, .int .i64 n, .slice da dl dc, .slice ka kl kc]] w fun e w' => e = .returned (.tuple #[]) ∧ ∃ v', Wrote 66 w b v w' v' (bs ++ (headL t 10 4 ++ (be 4 (toU64 n) ++ List.replicate 4 0))) := by
  obtain ⟨⟨c0, c1, c2, c3, c4⟩, oA⟩ := boxed w (.int .i64 t) (.int .i64 10) (.int .i64 n) (.slice da dl dc) (.slice ka kl kc)
  have hl := hW.laid (.cells #[.int .i64 t, .int .i64 10, .int .i64 n, .slice da dl dc, .slice ka kl kc] 25)
  have HLD := hide hl
  have HK : Hid (∀ W v1 cs, Wrote 66 (w.alloc (.cells #[.int .i64 t, .int .i64 10, .int .i64 n, .slice da dl dc, .slice ka kl kc] 25)) b v W v1 cs → W.cell? ⟨w.heap.size, 0, none⟩ = some (.int .i64 t) ∧ W.cell? ⟨w.heap.size, 1, none⟩ = some (.int .i64 10) ∧ W.cell? ⟨w.heap.size, 2, none⟩ = some (.int .i64 n) ∧ W.cell? ⟨w.heap.size, 3, none⟩ = some (.slice da dl dc) ∧ W.cell? ⟨w.heap.size, 4, none⟩ = some (.slice ka kl kc)) := fun W v1 cs hw =>
    ⟨wrote_boxR hW (Nat.le_refl _) hw c0, wrote_boxR hW (Nat.le_refl _) hw c1, wrote_boxR hW (Nat.le_refl _) hw c2, wrote_boxR hW (Nat.le_refl _) hw c3, wrote_boxR hW (Nat.le_refl _) hw c4⟩
  have H1 := hide (WR.u8_any b v bs ((t / 65536 : Nat) : Int) _ hl.now (by omega))
  rw [be_nat 1 (t / 65536) (by omega)] at H1
  rw [show ((t / 65536 : Nat) : Int) = (t : Int) / 65536 by omega] at H1
  have HR := hide hr
  have HT := hide ht
  have hs16 := shr16 t
  rw [show ((t / 65536 : Nat) : Int) = (t : Int) / 65536 by omega] at hs16
  clear hl oA hr ht
  go_enter Tryd.func31, Tryd.ntmps31
  go_wp2_with fail
  refine (unhide H1).mono ?_
  rintro e w2 ⟨rfl, v2, hw2⟩
  obtain ⟨e0, e1, e2, e3, e4⟩ := unhide HK _ _ _ hw2
  have H2 := hide (WR.u16_any b v2 _ (t : Int) w2 hw2.now (by rw [List.length_append, be_length]; have := unhide HR; omega))
  rw [be_nat 2 t (by have := unhide HT; omega)] at H2
  have HW2 := hide hw2
  clear hw2 c0 c1 c2 c3 c4 H1
  go_wp2_with fail
  refine (unhide H2).mono ?_
  rintro e w3 ⟨rfl, v3, hw3⟩
  have hw23 := (unhide HW2).trans hw3
  clear e0 e1 e2 e3 e4 H2 HW2 hw3
  obtain ⟨e0, e1, e2, e3, e4⟩ := unhide HK _ _ _ hw23
  have H3 := hide (WR.u8_any b v3 _ (10 : Int) w3 hw23.now (by rw [List.length_append, List.length_append, be_length, be_length]; have := unhide HR; omega))
  rw [show toU64 (10 : Int) = 10 from by decide +kernel] at H3
  have HW3 := hide hw23
  clear hw23
  go_wp2_with fail
  refine (unhide H3).mono ?_
  rintro e w4 ⟨rfl, v4, hw4⟩
  have hw24 := (unhide HW3).trans hw4
  clear e0 e1 e2 e3 e4 H3 HW3 hw4
  obtain ⟨e0, e1, e2, e3, e4⟩ := unhide HK _ _ _ hw24
  have hq : (bs ++ be 1 (t / 65536) ++ be 2 t ++ be 1 10).length ≤ 1000004 := by simp only [List.length_append, be_length]; have := unhide HR; omega
  have hq8 : (bs ++ be 1 (t / 65536) ++ be 2 t ++ be 1 10).length = bs.length + 4 := by simp only [List.length_append, be_length]
  obtain ⟨B, hB⟩ : ∃ B, B = bs ++ be 1 (t / 65536) ++ be 2 t ++ be 1 10 := ⟨_, rfl⟩
  rw [← hB] at hw24 hq hq8
  have HB := hide hB
  have HQ := hide hq
  have HQ8 := hide hq8
  clear hB hq hq8
  have Ha := hide (WR.u32_any b v4 _ 4 w4 hw24.now (by have := unhide HQ; omega))
  rw [show toU64 (4 : Int) = 4 from by decide +kernel] at Ha
  have HPa := hide hw24
  clear hw24
  go_wp2_with fail
  refine (unhide Ha).mono ?_
  rintro e xa ⟨rfl, ya, za⟩
  have ga := (unhide HPa).trans za
  clear e0 e1 e2 e3 e4 za Ha HPa
  obtain ⟨e0, e1, e2, e3, e4⟩ := unhide HK _ _ _ ga
  have Hb := hide (WR.u32_any b ya _ n xa ga.now (by simp only [List.length_append, be_length]; have := unhide HQ; omega))
  have HPb := hide ga
  clear ga
  go_wp2_with fail
  refine (unhide Hb).mono ?_
  rintro e xb ⟨rfl, yb, zb⟩
  have gb := (unhide HPb).trans zb
  clear e0 e1 e2 e3 e4 zb Hb HPb
  obtain ⟨e0, e1, e2, e3, e4⟩ := unhide HK _ _ _ gb
  have Hc := hide (WR.u32_any b yb _ 0 xb gb.now (by simp only [List.length_append, be_length]; have := unhide HQ; omega))
  rw [show be 4 (toU64 (0 : Int)) = List.replicate 4 0 from by decide +kernel] at Hc
  have HPc := hide gb
  clear gb
  go_wp2_with fail
  refine (unhide Hc).mono ?_
  rintro e xc ⟨rfl, yc, zc⟩
  have gc := (unhide HPc).trans zc
  clear e0 e1 e2 e3 e4 zc Hc HPc
  obtain ⟨e0, e1, e2, e3, e4⟩ := unhide HK _ _ _ gc
  have HG := hide ((unhide HLD).trans gc)
  clear e0 e1 e2 e3 e4 gc
  go_wp2
  go_end0
  refine ⟨rfl, yc, ?_⟩
  have R := unhide HG
  rw [unhide HB] at R
  have E : bs ++ be 1 (t / 65536) ++ be 2 t ++ be 1 10 ++ be 4 4 ++ be 4 (toU64 n) ++ List.replicate 4 0 = bs ++ (headL t 10 4 ++ (be 4 (toU64 n) ++ List.replicate 4 0)) := by
    unfold headL
    simp only [List.append_assoc, Int.toNat_natCast]
    rfl
  rw [E] at R
  exact R

set_option maxHeartbeats 4000000 in
set_option maxRecDepth 100000 in
theorem rlay_3 (t : Nat) (n : Int) (da : Option Addr) (dl dc : Nat) (ka : Option Addr) (kl kc b : Nat) (v : Value) (bs : List UInt8) (w : World) (hW : WrAt 66 w b v bs) (ht : t < 16777216) (hr : bs.length ≤ 1000000) :
    Calls Tryd.prog 31 #[.pointer (some ⟨b, 0, none⟩), .agg #[.int .i64 t, .int .i64 3, .int .i64 n, .slice da dl dc, .slice ka kl kc]] w fun e w' => e = .returned (.tuple #[]) ∧ ∃ v', Wrote 66 w b v w' v' (bs ++ (headL t 3 8 ++ be 8 (toU64 n))) := by
  obtain ⟨⟨c0, c1, c2, c3, c4⟩, oA⟩ := boxed w (.int .i64 t) (.int .i64 3) (.int .i64 n) (.slice da dl dc) (.slice ka kl kc)
  have hl := hW.laid (.cells #[.int .i64 t, .int .i64 3, .int .i64 n, .slice da dl dc, .slice ka kl kc] 25)
  have HLD := hide hl
  have HK : Hid (∀ W v1 cs, Wrote 66 (w.alloc (.cells #[.int .i64 t, .int .i64 3, .int .i64 n, .slice da dl dc, .slice ka kl kc] 25)) b v W v1 cs → W.cell? ⟨w.heap.size, 0, none⟩ = some (.int .i64 t) ∧ W.cell? ⟨w.heap.size, 1, none⟩ = some (.int .i64 3) ∧ W.cell? ⟨w.heap.size, 2, none⟩ = some (.int .i64 n) ∧ W.cell? ⟨w.heap.size, 3, none⟩ = some (.slice da dl dc) ∧ W.cell? ⟨w.heap.size, 4, none⟩ = some (.slice ka kl kc)) := fun W v1 cs hw =>
    ⟨wrote_boxR hW (Nat.le_refl _) hw c0, wrote_boxR hW (Nat.le_refl _) hw c1, wrote_boxR hW (Nat.le_refl _) hw c2, wrote_boxR hW (Nat.le_refl _) hw c3, wrote_boxR hW (Nat.le_refl _) hw c4⟩
  have H1 := hide (WR.u8_any b v bs ((t / 65536 : Nat) : Int) _ hl.now (by omega))
  rw [be_nat 1 (t / 65536) (by omega)] at H1
  rw [show ((t / 65536 : Nat) : Int) = (t : Int) / 65536 by omega] at H1
  have HR := hide hr
  have HT := hide ht
  have hs16 := shr16 t
  rw [show ((t / 65536 : Nat) : Int) = (t : Int) / 65536 by omega] at hs16
  clear hl oA hr ht
  go_enter Tryd.func31, Tryd.ntmps31
  go_wp2_with fail
  refine (unhide H1).mono ?_
  rintro e w2 ⟨rfl, v2, hw2⟩
  obtain ⟨e0, e1, e2, e3, e4⟩ := unhide HK _ _ _ hw2
  have H2 := hide (WR.u16_any b v2 _ (t : Int) w2 hw2.now (by rw [List.length_append, be_length]; have := unhide HR; omega))
  rw [be_nat 2 t (by have := unhide HT; omega)] at H2
  have HW2 := hide hw2
  clear hw2 c0 c1 c2 c3 c4 H1
  go_wp2_with fail
  refine (unhide H2).mono ?_
  rintro e w3 ⟨rfl, v3, hw3⟩
  have hw23 := (unhide HW2).trans hw3
  clear e0 e1 e2 e3 e4 H2 HW2 hw3
  obtain ⟨e0, e1, e2, e3, e4⟩ := unhide HK _ _ _ hw23
  have H3 := hide (WR.u8_any b v3 _ (3 : Int) w3 hw23.now (by rw [List.length_append, List.length_append, be_length, be_length]; have := unhide HR; omega))
  rw [show toU64 (3 : Int) = 3 from by decide +kernel] at H3
  have HW3 := hide hw23
  clear hw23
  go_wp2_with fail
  refine (unhide H3).mono ?_
  rintro e w4 ⟨rfl, v4, hw4⟩
  have hw24 := (unhide HW3).trans hw4
  clear e0 e1 e2 e3 e4 H3 HW3 hw4
  obtain ⟨e0, e1, e2, e3, e4⟩ := unhide HK _ _ _ hw24
  have hq : (bs ++ be 1 (t / 65536) ++ be 2 t ++ be 1 3).length ≤ 1000004 := by simp only [List.length_append, be_length]; have := unhide HR; omega
  have hq8 : (bs ++ be 1 (t / 65536) ++ be 2 t ++ be 1 3).length = bs.length + 4 := by simp only [List.length_append, be_length]
  obtain ⟨B, hB⟩ : ∃ B, B = bs ++ be 1 (t / 65536) ++ be 2 t ++ be 1 3 := ⟨_, rfl⟩
  rw [← hB] at hw24 hq hq8
  have HB := hide hB
  have HQ := hide hq
  have HQ8 := hide hq8
  clear hB hq hq8
  have Ha := hide (WR.u32_any b v4 _ 8 w4 hw24.now (by have := unhide HQ; omega))
  rw [show toU64 (8 : Int) = 8 from by decide +kernel] at Ha
  have HPa := hide hw24
  clear hw24
  go_wp2_with fail
  refine (unhide Ha).mono ?_
  rintro e xa ⟨rfl, ya, za⟩
  have ga := (unhide HPa).trans za
  clear e0 e1 e2 e3 e4 za Ha HPa
  obtain ⟨e0, e1, e2, e3, e4⟩ := unhide HK _ _ _ ga
  have Hb := WR.u64_any b ya _ (toU64 n) xa (WR.u64_lt n) ga.now (by simp only [List.length_append, be_length]; have := unhide HQ; omega)
  rw [WR.conv_u64] at Hb
  have Hb := hide Hb
  have HPb := hide ga
  clear ga
  go_wp2_with fail
  refine (unhide Hb).mono ?_
  rintro e xb ⟨rfl, yb, zb⟩
  have gb := (unhide HPb).trans zb
  clear zb Hb HPb
  have HG := hide ((unhide HLD).trans gb)
  clear e0 e1 e2 e3 e4 gb
  go_wp2
  go_end0
  refine ⟨rfl, yb, ?_⟩
  have R := unhide HG
  rw [unhide HB] at R
  have E : bs ++ be 1 (t / 65536) ++ be 2 t ++ be 1 3 ++ be 4 8 ++ be 8 (toU64 n) = bs ++ (headL t 3 8 ++ be 8 (toU64 n)) := by
    unfold headL
    simp only [List.append_assoc, Int.toNat_natCast]
    rfl
  rw [E] at R
  exact R

set_option maxHeartbeats 4000000 in
set_option maxRecDepth 100000 in
theorem rlay_6 (t : Nat) (n : Int) (da : Option Addr) (dl dc : Nat) (ka : Option Addr) (kl kc b : Nat) (v : Value) (bs : List UInt8) (w : World) (hW : WrAt 66 w b v bs) (ht : t < 16777216) (hr : bs.length ≤ 1000000) :
    Calls Tryd.prog 31 #[.pointer (some ⟨b, 0, none⟩), .agg #[.int .i64 t, .int .i64 6, .int .i64 n, .slice da dl dc, .slice ka kl kc]] w fun e w' => e = .returned (.tuple #[]) ∧ ∃ v', Wrote 66 w b v w' v' (bs ++ (headL t 6 8 ++ be 8 (toU64 n))) := by
  obtain ⟨⟨c0, c1, c2, c3, c4⟩, oA⟩ := boxed w (.int .i64 t) (.int .i64 6) (.int .i64 n) (.slice da dl dc) (.slice ka kl kc)
  have hl := hW.laid (.cells #[.int .i64 t, .int .i64 6, .int .i64 n, .slice da dl dc, .slice ka kl kc] 25)
  have HLD := hide hl
  have HK : Hid (∀ W v1 cs, Wrote 66 (w.alloc (.cells #[.int .i64 t, .int .i64 6, .int .i64 n, .slice da dl dc, .slice ka kl kc] 25)) b v W v1 cs → W.cell? ⟨w.heap.size, 0, none⟩ = some (.int .i64 t) ∧ W.cell? ⟨w.heap.size, 1, none⟩ = some (.int .i64 6) ∧ W.cell? ⟨w.heap.size, 2, none⟩ = some (.int .i64 n) ∧ W.cell? ⟨w.heap.size, 3, none⟩ = some (.slice da dl dc) ∧ W.cell? ⟨w.heap.size, 4, none⟩ = some (.slice ka kl kc)) := fun W v1 cs hw =>
    ⟨wrote_boxR hW (Nat.le_refl _) hw c0, wrote_boxR hW (Nat.le_refl _) hw c1, wrote_boxR hW (Nat.le_refl _) hw c2, wrote_boxR hW (Nat.le_refl _) hw c3, wrote_boxR hW (Nat.le_refl _) hw c4⟩
  have H1 := hide (WR.u8_any b v bs ((t / 65536 : Nat) : Int) _ hl.now (by omega))
  rw [be_nat 1 (t / 65536) (by omega)] at H1
  rw [show ((t / 65536 : Nat) : Int) = (t : Int) / 65536 by omega] at H1
  have HR := hide hr
  have HT := hide ht
  have hs16 := shr16 t
  rw [show ((t / 65536 : Nat) : Int) = (t : Int) / 65536 by omega] at hs16
  clear hl oA hr ht
  go_enter Tryd.func31, Tryd.ntmps31
  go_wp2_with fail
  refine (unhide H1).mono ?_
  rintro e w2 ⟨rfl, v2, hw2⟩
  obtain ⟨e0, e1, e2, e3, e4⟩ := unhide HK _ _ _ hw2
  have H2 := hide (WR.u16_any b v2 _ (t : Int) w2 hw2.now (by rw [List.length_append, be_length]; have := unhide HR; omega))
  rw [be_nat 2 t (by have := unhide HT; omega)] at H2
  have HW2 := hide hw2
  clear hw2 c0 c1 c2 c3 c4 H1
  go_wp2_with fail
  refine (unhide H2).mono ?_
  rintro e w3 ⟨rfl, v3, hw3⟩
  have hw23 := (unhide HW2).trans hw3
  clear e0 e1 e2 e3 e4 H2 HW2 hw3
  obtain ⟨e0, e1, e2, e3, e4⟩ := unhide HK _ _ _ hw23
  have H3 := hide (WR.u8_any b v3 _ (6 : Int) w3 hw23.now (by rw [List.length_append, List.length_append, be_length, be_length]; have := unhide HR; omega))
  rw [show toU64 (6 : Int) = 6 from by decide +kernel] at H3
  have HW3 := hide hw23
  clear hw23
  go_wp2_with fail
  refine (unhide H3).mono ?_
  rintro e w4 ⟨rfl, v4, hw4⟩
  have hw24 := (unhide HW3).trans hw4
  clear e0 e1 e2 e3 e4 H3 HW3 hw4
  obtain ⟨e0, e1, e2, e3, e4⟩ := unhide HK _ _ _ hw24
  have hq : (bs ++ be 1 (t / 65536) ++ be 2 t ++ be 1 6).length ≤ 1000004 := by simp only [List.length_append, be_length]; have := unhide HR; omega
  have hq8 : (bs ++ be 1 (t / 65536) ++ be 2 t ++ be 1 6).length = bs.length + 4 := by simp only [List.length_append, be_length]
  obtain ⟨B, hB⟩ : ∃ B, B = bs ++ be 1 (t / 65536) ++ be 2 t ++ be 1 6 := ⟨_, rfl⟩
  rw [← hB] at hw24 hq hq8
  have HB := hide hB
  have HQ := hide hq
  have HQ8 := hide hq8
  clear hB hq hq8
  have Ha := hide (WR.u32_any b v4 _ 8 w4 hw24.now (by have := unhide HQ; omega))
  rw [show toU64 (8 : Int) = 8 from by decide +kernel] at Ha
  have HPa := hide hw24
  clear hw24
  go_wp2_with fail
  refine (unhide Ha).mono ?_
  rintro e xa ⟨rfl, ya, za⟩
  have ga := (unhide HPa).trans za
  clear e0 e1 e2 e3 e4 za Ha HPa
  obtain ⟨e0, e1, e2, e3, e4⟩ := unhide HK _ _ _ ga
  have Hb := WR.u64_any b ya _ (toU64 n) xa (WR.u64_lt n) ga.now (by simp only [List.length_append, be_length]; have := unhide HQ; omega)
  rw [WR.conv_u64] at Hb
  have Hb := hide Hb
  have HPb := hide ga
  clear ga
  go_wp2_with fail
  refine (unhide Hb).mono ?_
  rintro e xb ⟨rfl, yb, zb⟩
  have gb := (unhide HPb).trans zb
  clear zb Hb HPb
  have HG := hide ((unhide HLD).trans gb)
  clear e0 e1 e2 e3 e4 gb
  go_wp2
  go_end0
  refine ⟨rfl, yb, ?_⟩
  have R := unhide HG
  rw [unhide HB] at R
  have E : bs ++ be 1 (t / 65536) ++ be 2 t ++ be 1 6 ++ be 4 8 ++ be 8 (toU64 n) = bs ++ (headL t 6 8 ++ be 8 (toU64 n)) := by
    unfold headL
    simp only [List.append_assoc, Int.toNat_natCast]
    rfl
  rw [E] at R
  exact R

set_option maxHeartbeats 4000000 in
set_option maxRecDepth 100000 in
theorem rlay_9 (t : Nat) (n : Int) (da : Option Addr) (dl dc : Nat) (ka : Option Addr) (kl kc b : Nat) (v : Value) (bs : List UInt8) (w : World) (hW : WrAt 66 w b v bs) (ht : t < 16777216) (hr : bs.length ≤ 1000000) :
    Calls Tryd.prog 31 #[.pointer (some ⟨b, 0, none⟩), .agg #[.int .i64 t, .int .i64 9, .int .i64 n, .slice da dl dc, .slice ka kl kc]] w fun e w' => e = .returned (.tuple #[]) ∧ ∃ v', Wrote 66 w b v w' v' (bs ++ (headL t 9 8 ++ be 8 (toU64 n))) := by
  obtain ⟨⟨c0, c1, c2, c3, c4⟩, oA⟩ := boxed w (.int .i64 t) (.int .i64 9) (.int .i64 n) (.slice da dl dc) (.slice ka kl kc)
  have hl := hW.laid (.cells #[.int .i64 t, .int .i64 9, .int .i64 n, .slice da dl dc, .slice ka kl kc] 25)
  have HLD := hide hl
  have HK : Hid (∀ W v1 cs, Wrote 66 (w.alloc (.cells #[.int .i64 t, .int .i64 9, .int .i64 n, .slice da dl dc, .slice ka kl kc] 25)) b v W v1 cs → W.cell? ⟨w.heap.size, 0, none⟩ = some (.int .i64 t) ∧ W.cell? ⟨w.heap.size, 1, none⟩ = some (.int .i64 9) ∧ W.cell? ⟨w.heap.size, 2, none⟩ = some (.int .i64 n) ∧ W.cell? ⟨w.heap.size, 3, none⟩ = some (.slice da dl dc) ∧ W.cell? ⟨w.heap.size, 4, none⟩ = some (.slice ka kl kc)) := fun W v1 cs hw =>
    ⟨wrote_boxR hW (Nat.le_refl _) hw c0, wrote_boxR hW (Nat.le_refl _) hw c1, wrote_boxR hW (Nat.le_refl _) hw c2, wrote_boxR hW (Nat.le_refl _) hw c3, wrote_boxR hW (Nat.le_refl _) hw c4⟩
  have H1 := hide (WR.u8_any b v bs ((t / 65536 : Nat) : Int) _ hl.now (by omega))
  rw [be_nat 1 (t / 65536) (by omega)] at H1
  rw [show ((t / 65536 : Nat) : Int) = (t : Int) / 65536 by omega] at H1
  have HR := hide hr
  have HT := hide ht
  have hs16 := shr16 t
  rw [show ((t / 65536 : Nat) : Int) = (t : Int) / 65536 by omega] at hs16
  clear hl oA hr ht
  go_enter Tryd.func31, Tryd.ntmps31
  go_wp2_with fail
  refine (unhide H1).mono ?_
  rintro e w2 ⟨rfl, v2, hw2⟩
  obtain ⟨e0, e1, e2, e3, e4⟩ := unhide HK _ _ _ hw2
  have H2 := hide (WR.u16_any b v2 _ (t : Int) w2 hw2.now (by rw [List.length_append, be_length]; have := unhide HR; omega))
  rw [be_nat 2 t (by have := unhide HT; omega)] at H2
  have HW2 := hide hw2
  clear hw2 c0 c1 c2 c3 c4 H1
  go_wp2_with fail
  refine (unhide H2).mono ?_
  rintro e w3 ⟨rfl, v3, hw3⟩
  have hw23 := (unhide HW2).trans hw3
  clear e0 e1 e2 e3 e4 H2 HW2 hw3
  obtain ⟨e0, e1, e2, e3, e4⟩ := unhide HK _ _ _ hw23
  have H3 := hide (WR.u8_any b v3 _ (9 : Int) w3 hw23.now (by rw [List.length_append, List.length_append, be_length, be_length]; have := unhide HR; omega))
  rw [show toU64 (9 : Int) = 9 from by decide +kernel] at H3
  have HW3 := hide hw23
  clear hw23
  go_wp2_with fail
  refine (unhide H3).mono ?_
  rintro e w4 ⟨rfl, v4, hw4⟩
  have hw24 := (unhide HW3).trans hw4
  clear e0 e1 e2 e3 e4 H3 HW3 hw4
  obtain ⟨e0, e1, e2, e3, e4⟩ := unhide HK _ _ _ hw24
  have hq : (bs ++ be 1 (t / 65536) ++ be 2 t ++ be 1 9).length ≤ 1000004 := by simp only [List.length_append, be_length]; have := unhide HR; omega
  have hq8 : (bs ++ be 1 (t / 65536) ++ be 2 t ++ be 1 9).length = bs.length + 4 := by simp only [List.length_append, be_length]
  obtain ⟨B, hB⟩ : ∃ B, B = bs ++ be 1 (t / 65536) ++ be 2 t ++ be 1 9 := ⟨_, rfl⟩
  rw [← hB] at hw24 hq hq8
  have HB := hide hB
  have HQ := hide hq
  have HQ8 := hide hq8
  clear hB hq hq8
  have Ha := hide (WR.u32_any b v4 _ 8 w4 hw24.now (by have := unhide HQ; omega))
  rw [show toU64 (8 : Int) = 8 from by decide +kernel] at Ha
  have HPa := hide hw24
  clear hw24
  go_wp2_with fail
  refine (unhide Ha).mono ?_
  rintro e xa ⟨rfl, ya, za⟩
  have ga := (unhide HPa).trans za
  clear e0 e1 e2 e3 e4 za Ha HPa
  obtain ⟨e0, e1, e2, e3, e4⟩ := unhide HK _ _ _ ga
  have Hb := WR.u64_any b ya _ (toU64 n) xa (WR.u64_lt n) ga.now (by simp only [List.length_append, be_length]; have := unhide HQ; omega)
  rw [WR.conv_u64] at Hb
  have Hb := hide Hb
  have HPb := hide ga
  clear ga
  go_wp2_with fail
  refine (unhide Hb).mono ?_
  rintro e xb ⟨rfl, yb, zb⟩
  have gb := (unhide HPb).trans zb
  clear zb Hb HPb
  have HG := hide ((unhide HLD).trans gb)
  clear e0 e1 e2 e3 e4 gb
  go_wp2
  go_end0
  refine ⟨rfl, yb, ?_⟩
  have R := unhide HG
  rw [unhide HB] at R
  have E : bs ++ be 1 (t / 65536) ++ be 2 t ++ be 1 9 ++ be 4 8 ++ be 8 (toU64 n) = bs ++ (headL t 9 8 ++ be 8 (toU64 n)) := by
    unfold headL
    simp only [List.append_assoc, Int.toNat_natCast]
    rfl
  rw [E] at R
  exact R

set_option maxHeartbeats 4000000 in
set_option maxRecDepth 100000 in
theorem rlay_4 (t : Nat) (n : Int) (da : Option Addr) (d : List UInt8) (dc : Nat) (ka : Option Addr) (kl kc b : Nat) (v : Value) (bs : List UInt8) (w : World) (hW : WrAt 66 w b v bs) (ht : t < 16777216) (hr : bs.length ≤ 1000000) (hx : Has w (.slice da d.length dc) d) (hsep : d ≠ [] → ∀ k, blk (.slice da d.length dc) = some k → k ≠ b ∧ v.ownBlock ≠ some k) (hdl : d.length ≤ 1000000) (hb8 : bs.length % 8 = 0) :
    Calls Tryd.prog 31 #[.pointer (some ⟨b, 0, none⟩), .agg #[.int .i64 t, .int .i64 4, .int .i64 n, .slice da d.length dc, .slice ka kl kc]] w fun e w' => e = .returned (.tuple #[]) ∧ ∃ v', Wrote 66 w b v w' v' (bs ++ (headL t 4 d.length ++ (d ++ List.replicate (pad8 d.length - d.length) 0))) := by
  have HX : Hid (∀ W v1 cs, Wrote 66 (w.alloc (.cells #[.int .i64 t, .int .i64 4, .int .i64 n, .slice da d.length dc, .slice ka kl kc] 25)) b v W v1 cs → Has W (.slice da d.length dc) d) := fun W v1 cs hw => (hx.only ((Only.refl (fun _ => False) w).alloc _) (fun _ _ _ e => e)).only hw.only (fun hne k hk e => by
    obtain ⟨h1, h2⟩ := hsep hne k hk
    rcases e with e | e
    · exact h1 e
    · exact h2 e)
  obtain ⟨dl, hdl0⟩ : ∃ dl, dl = d.length := ⟨_, rfl⟩
  have HDL := hide hdl0
  have HB8 := hide hb8
  rw [← hdl0] at HX hdl ⊢
  have HDB := hide hdl
  clear hdl0 hx hsep hb8 hdl
  obtain ⟨⟨c0, c1, c2, c3, c4⟩, oA⟩ := boxed w (.int .i64 t) (.int .i64 4) (.int .i64 n) (.slice da dl dc) (.slice ka kl kc)
  have hl := hW.laid (.cells #[.int .i64 t, .int .i64 4, .int .i64 n, .slice da dl dc, .slice ka kl kc] 25)
  have HLD := hide hl
  have HK : Hid (∀ W v1 cs, Wrote 66 (w.alloc (.cells #[.int .i64 t, .int .i64 4, .int .i64 n, .slice da dl dc, .slice ka kl kc] 25)) b v W v1 cs → W.cell? ⟨w.heap.size, 0, none⟩ = some (.int .i64 t) ∧ W.cell? ⟨w.heap.size, 1, none⟩ = some (.int .i64 4) ∧ W.cell? ⟨w.heap.size, 2, none⟩ = some (.int .i64 n) ∧ W.cell? ⟨w.heap.size, 3, none⟩ = some (.slice da dl dc) ∧ W.cell? ⟨w.heap.size, 4, none⟩ = some (.slice ka kl kc)) := fun W v1 cs hw =>
    ⟨wrote_boxR hW (Nat.le_refl _) hw c0, wrote_boxR hW (Nat.le_refl _) hw c1, wrote_boxR hW (Nat.le_refl _) hw c2, wrote_boxR hW (Nat.le_refl _) hw c3, wrote_boxR hW (Nat.le_refl _) hw c4⟩
  have H1 := hide (WR.u8_any b v bs ((t / 65536 : Nat) : Int) _ hl.now (by omega))
  rw [be_nat 1 (t / 65536) (by omega)] at H1
  rw [show ((t / 65536 : Nat) : Int) = (t : Int) / 65536 by omega] at H1
  have HR := hide hr
  have HT := hide ht
  have hs16 := shr16 t
  rw [show ((t / 65536 : Nat) : Int) = (t : Int) / 65536 by omega] at hs16
  clear hl oA hr ht
  go_enter Tryd.func31, Tryd.ntmps31
  go_wp2_with fail
  refine (unhide H1).mono ?_
  rintro e w2 ⟨rfl, v2, hw2⟩
  obtain ⟨e0, e1, e2, e3, e4⟩ := unhide HK _ _ _ hw2
  have H2 := hide (WR.u16_any b v2 _ (t : Int) w2 hw2.now (by rw [List.length_append, be_length]; have := unhide HR; omega))
  rw [be_nat 2 t (by have := unhide HT; omega)] at H2
  have HW2 := hide hw2
  clear hw2 c0 c1 c2 c3 c4 H1
  go_wp2_with fail
  refine (unhide H2).mono ?_
  rintro e w3 ⟨rfl, v3, hw3⟩
  have hw23 := (unhide HW2).trans hw3
  clear e0 e1 e2 e3 e4 H2 HW2 hw3
  obtain ⟨e0, e1, e2, e3, e4⟩ := unhide HK _ _ _ hw23
  have H3 := hide (WR.u8_any b v3 _ (4 : Int) w3 hw23.now (by rw [List.length_append, List.length_append, be_length, be_length]; have := unhide HR; omega))
  rw [show toU64 (4 : Int) = 4 from by decide +kernel] at H3
  have HW3 := hide hw23
  clear hw23
  go_wp2_with fail
  refine (unhide H3).mono ?_
  rintro e w4 ⟨rfl, v4, hw4⟩
  have hw24 := (unhide HW3).trans hw4
  clear e0 e1 e2 e3 e4 H3 HW3 hw4
  obtain ⟨e0, e1, e2, e3, e4⟩ := unhide HK _ _ _ hw24
  have hq : (bs ++ be 1 (t / 65536) ++ be 2 t ++ be 1 4).length ≤ 1000004 := by simp only [List.length_append, be_length]; have := unhide HR; omega
  have hq8 : (bs ++ be 1 (t / 65536) ++ be 2 t ++ be 1 4).length = bs.length + 4 := by simp only [List.length_append, be_length]
  obtain ⟨B, hB⟩ : ∃ B, B = bs ++ be 1 (t / 65536) ++ be 2 t ++ be 1 4 := ⟨_, rfl⟩
  rw [← hB] at hw24 hq hq8
  have HB := hide hB
  have HQ := hide hq
  have HQ8 := hide hq8
  clear hB hq hq8
  have Ha := hide (WR.u32_any b v4 _ (dl : Int) w4 hw24.now (by have := unhide HQ; omega))
  rw [be_nat 4 dl (by have := unhide HDB; omega)] at Ha
  have HPa := hide hw24
  clear hw24
  go_wp2_with fail
  refine (unhide Ha).mono ?_
  rintro e xa ⟨rfl, ya, za⟩
  have ga := (unhide HPa).trans za
  clear e0 e1 e2 e3 e4 za Ha HPa
  obtain ⟨e0, e1, e2, e3, e4⟩ := unhide HK _ _ _ ga
  have hda := unhide HX _ _ _ ga
  rw [unhide HDL] at hda
  have Hb := hide (WR.raw_any b ya _ _ d xa hda ga.now (by simp only [List.length_append, be_length]; have := unhide HQ; have := unhide HDB; have := unhide HDL; omega))
  rw [← unhide HDL] at Hb
  have HPb := hide ga
  clear ga hda
  go_wp2_with fail
  refine (unhide Hb).mono ?_
  rintro e xb ⟨rfl, yb, zb⟩
  have gb := (unhide HPb).trans zb
  have HGb := hide gb
  clear e0 e1 e2 e3 e4 zb Hb HPb gb
  have hL0 : (B ++ be 4 dl ++ d).length = bs.length + 8 + dl := by simp only [List.length_append, be_length]; have := unhide HQ8; have := unhide HDL; omega
  have HL0 := hide hL0
  have hpd : pad8 dl - dl < 8 := by unfold pad8; omega
  have hpm : (dl + (pad8 dl - dl)) % 8 = 0 := by unfold pad8; omega
  have HPD := hide hpd
  have HPM := hide hpm
  clear hL0 hpd hpm
  generalize hp : pad8 dl - dl = p at *
  have HP := hide hp
  clear hp
  go_wp2
  go_loopg [] p (fun k wr => k ≤ p ∧ ∃ v', Wrote 66 (w.alloc (.cells #[.int .i64 t, .int .i64 4, .int .i64 n, .slice da dl dc, .slice ka kl kc] 25)) b v wr v' (B ++ be 4 dl ++ d ++ List.replicate (p - k) 0))
  case atStart => exact ⟨Nat.le_refl _, yb, by simpa using unhide HGb⟩
  case round =>
    obtain ⟨hk, v', hwrt⟩ := hrel
    have hlen : (B ++ be 4 dl ++ d ++ List.replicate (p - gk) 0).length = bs.length + 8 + dl + (p - gk) := by rw [List.length_append, unhide HL0, List.length_replicate]
    have hll : bs.length + 8 + dl + (p - gk) ≤ 3000000 := by have := unhide HR; have := unhide HDB; have := unhide HPD; omega
    have hwr := hwrt.now
    have hc : wr.cell? ⟨b, 0, none⟩ = some v' := cell_of_one hwr.blk
    obtain ⟨vo, vc, hvs⟩ := ownsRow_shape hwr.own
    subst hvs
    by_cases hlt : 0 < gk
    · obtain ⟨m, rfl⟩ : ∃ m, gk = m + 1 := ⟨gk - 1, by omega⟩
      obtain ⟨ys, hys⟩ : ∃ ys, ys = B ++ be 4 dl ++ d ++ List.replicate (p - (m + 1)) 0 := ⟨_, rfl⟩
      rw [← hys] at hwrt hwr hlen hc
      have hmod : 0 < (ys.length : Int) % 8 := by rw [hlen]; have h1 := unhide HPD; have h2 := unhide HPM; have h3 := unhide HB8; omega
      have htm : 0 < (ys.length : Int).tmod 8 := by rw [Int.tmod_eq_emod_of_nonneg (by omega)]; exact hmod
      have Hend : Hid (ys ++ [0] = B ++ be 4 dl ++ d ++ List.replicate (p - m) 0) := by
        show _ = _
        rw [hys, show p - m = p - (m + 1) + 1 by omega, List.replicate_succ', List.append_assoc]
      have hyl : ys.length + 1 ≤ 140737488355328 := by omega
      have hca : ∀ o, (wr.alloc o).cell? ⟨b, 0, none⟩ = some (.slice vo ys.length vc) := fun o => by rw [World.cell?_alloc_past _ _ _ (Array.getElem?_eq_some_iff.1 hwr.blk).1]; exact hc
      have HRt := hide hwrt
      have HK2 := hide hk
      clear hlen hll hwrt hys hk hlt
      go_wp2_with (at_builtin; refine wpList_push rfl (.tmp 72) (.tmp 73) rfl 66 b (.slice vo ys.length vc) ys (.slice (some ⟨wr.heap.size, 0, none⟩) 1 1) [0] (by decide) rfl rfl (has_one (by simp [bv])) (hwr.push rfl) (by simp; omega) ?_; intro ao2 cap2 w2 hc2 hf2 hb2 own2 gr2 at2)
      all_goals
        have R := ((unhide HRt).trans (hwr.laid _)).trans ((hwr.push rfl).stored (by decide) hb2.out own2 gr2 at2)
        rw [Hend.out] at R
        go_roundg m
        case measure => omega
        case rel => exact ⟨by have := unhide HK2; omega, _, R⟩
    · obtain rfl : gk = 0 := by omega
      obtain ⟨ys, hys⟩ : ∃ ys, ys = B ++ be 4 dl ++ d ++ List.replicate (p - 0) 0 := ⟨_, rfl⟩
      rw [← hys] at hwrt hwr hlen hc
      have hmod : ¬ 0 < (ys.length : Int) % 8 := by rw [hlen]; have h1 := unhide HPD; have h2 := unhide HPM; have h3 := unhide HB8; omega
      have htm : ¬ 0 < (ys.length : Int).tmod 8 := by rw [Int.tmod_eq_emod_of_nonneg (by omega)]; exact hmod
      have HRt := hide hwrt
      have HY := hide hys
      clear hlen hll hwrt hys hk hlt
      go_wp2
      go_end0
      have R := (unhide HLD).trans (unhide HRt)
      rw [unhide HY, unhide HB, Nat.sub_zero, ← unhide HP] at R
      have E : bs ++ be 1 (t / 65536) ++ be 2 t ++ be 1 4 ++ be 4 dl ++ d ++ List.replicate (pad8 dl - dl) 0 = bs ++ (headL t 4 dl ++ (d ++ List.replicate (pad8 dl - dl) 0)) := by
        unfold headL
        simp only [List.append_assoc, Int.toNat_natCast]
        rfl
      rw [E] at R
      exact ⟨rfl, _, R⟩

set_option maxHeartbeats 4000000 in
set_option maxRecDepth 100000 in
theorem rlay_7 (t : Nat) (n : Int) (da : Option Addr) (d : List UInt8) (dc : Nat) (ka : Option Addr) (kl kc b : Nat) (v : Value) (bs : List UInt8) (w : World) (hW : WrAt 66 w b v bs) (ht : t < 16777216) (hr : bs.length ≤ 1000000) (hx : Has w (.slice da d.length dc) d) (hsep : d ≠ [] → ∀ k, blk (.slice da d.length dc) = some k → k ≠ b ∧ v.ownBlock ≠ some k) (hdl : d.length ≤ 1000000) (hb8 : bs.length % 8 = 0) :
    Calls Tryd.prog 31 #[.pointer (some ⟨b, 0, none⟩), .agg #[.int .i64 t, .int .i64 7, .int .i64 n, .slice da d.length dc, .slice ka kl kc]] w fun e w' => e = .returned (.tuple #[]) ∧ ∃ v', Wrote 66 w b v w' v' (bs ++ (headL t 7 d.length ++ (d ++ List.replicate (pad8 d.length - d.length) 0))) := by
  have HX : Hid (∀ W v1 cs, Wrote 66 (w.alloc (.cells #[.int .i64 t, .int .i64 7, .int .i64 n, .slice da d.length dc, .slice ka kl kc] 25)) b v W v1 cs → Has W (.slice da d.length dc) d) := fun W v1 cs hw => (hx.only ((Only.refl (fun _ => False) w).alloc _) (fun _ _ _ e => e)).only hw.only (fun hne k hk e => by
    obtain ⟨h1, h2⟩ := hsep hne k hk
    rcases e with e | e
    · exact h1 e
    · exact h2 e)
  obtain ⟨dl, hdl0⟩ : ∃ dl, dl = d.length := ⟨_, rfl⟩
  have HDL := hide hdl0
  have HB8 := hide hb8
  rw [← hdl0] at HX hdl ⊢
  have HDB := hide hdl
  clear hdl0 hx hsep hb8 hdl
  obtain ⟨⟨c0, c1, c2, c3, c4⟩, oA⟩ := boxed w (.int .i64 t) (.int .i64 7) (.int .i64 n) (.slice da dl dc) (.slice ka kl kc)
  have hl := hW.laid (.cells #[.int .i64 t, .int .i64 7, .int .i64 n, .slice da dl dc, .slice ka kl kc] 25)
  have HLD := hide hl
  have HK : Hid (∀ W v1 cs, Wrote 66 (w.alloc (.cells #[.int .i64 t, .int .i64 7, .int .i64 n, .slice da dl dc, .slice ka kl kc] 25)) b v W v1 cs → W.cell? ⟨w.heap.size, 0, none⟩ = some (.int .i64 t) ∧ W.cell? ⟨w.heap.size, 1, none⟩ = some (.int .i64 7) ∧ W.cell? ⟨w.heap.size, 2, none⟩ = some (.int .i64 n) ∧ W.cell? ⟨w.heap.size, 3, none⟩ = some (.slice da dl dc) ∧ W.cell? ⟨w.heap.size, 4, none⟩ = some (.slice ka kl kc)) := fun W v1 cs hw =>
    ⟨wrote_boxR hW (Nat.le_refl _) hw c0, wrote_boxR hW (Nat.le_refl _) hw c1, wrote_boxR hW (Nat.le_refl _) hw c2, wrote_boxR hW (Nat.le_refl _) hw c3, wrote_boxR hW (Nat.le_refl _) hw c4⟩
  have H1 := hide (WR.u8_any b v bs ((t / 65536 : Nat) : Int) _ hl.now (by omega))
  rw [be_nat 1 (t / 65536) (by omega)] at H1
  rw [show ((t / 65536 : Nat) : Int) = (t : Int) / 65536 by omega] at H1
  have HR := hide hr
  have HT := hide ht
  have hs16 := shr16 t
  rw [show ((t / 65536 : Nat) : Int) = (t : Int) / 65536 by omega] at hs16
  clear hl oA hr ht
  go_enter Tryd.func31, Tryd.ntmps31
  go_wp2_with fail
  refine (unhide H1).mono ?_
  rintro e w2 ⟨rfl, v2, hw2⟩
  obtain ⟨e0, e1, e2, e3, e4⟩ := unhide HK _ _ _ hw2
  have H2 := hide (WR.u16_any b v2 _ (t : Int) w2 hw2.now (by rw [List.length_append, be_length]; have := unhide HR; omega))
  rw [be_nat 2 t (by have := unhide HT; omega)] at H2
  have HW2 := hide hw2
  clear hw2 c0 c1 c2 c3 c4 H1
  go_wp2_with fail
  refine (unhide H2).mono ?_
  rintro e w3 ⟨rfl, v3, hw3⟩
  have hw23 := (unhide HW2).trans hw3
  clear e0 e1 e2 e3 e4 H2 HW2 hw3
  obtain ⟨e0, e1, e2, e3, e4⟩ := unhide HK _ _ _ hw23
  have H3 := hide (WR.u8_any b v3 _ (7 : Int) w3 hw23.now (by rw [List.length_append, List.length_append, be_length, be_length]; have := unhide HR; omega))
  rw [show toU64 (7 : Int) = 7 from by decide +kernel] at H3
  have HW3 := hide hw23
  clear hw23
  go_wp2_with fail
  refine (unhide H3).mono ?_
  rintro e w4 ⟨rfl, v4, hw4⟩
  have hw24 := (unhide HW3).trans hw4
  clear e0 e1 e2 e3 e4 H3 HW3 hw4
  obtain ⟨e0, e1, e2, e3, e4⟩ := unhide HK _ _ _ hw24
  have hq : (bs ++ be 1 (t / 65536) ++ be 2 t ++ be 1 7).length ≤ 1000004 := by simp only [List.length_append, be_length]; have := unhide HR; omega
  have hq8 : (bs ++ be 1 (t / 65536) ++ be 2 t ++ be 1 7).length = bs.length + 4 := by simp only [List.length_append, be_length]
  obtain ⟨B, hB⟩ : ∃ B, B = bs ++ be 1 (t / 65536) ++ be 2 t ++ be 1 7 := ⟨_, rfl⟩
  rw [← hB] at hw24 hq hq8
  have HB := hide hB
  have HQ := hide hq
  have HQ8 := hide hq8
  clear hB hq hq8
  have Ha := hide (WR.u32_any b v4 _ (dl : Int) w4 hw24.now (by have := unhide HQ; omega))
  rw [be_nat 4 dl (by have := unhide HDB; omega)] at Ha
  have HPa := hide hw24
  clear hw24
  go_wp2_with fail
  refine (unhide Ha).mono ?_
  rintro e xa ⟨rfl, ya, za⟩
  have ga := (unhide HPa).trans za
  clear e0 e1 e2 e3 e4 za Ha HPa
  obtain ⟨e0, e1, e2, e3, e4⟩ := unhide HK _ _ _ ga
  have hda := unhide HX _ _ _ ga
  rw [unhide HDL] at hda
  have Hb := hide (WR.raw_any b ya _ _ d xa hda ga.now (by simp only [List.length_append, be_length]; have := unhide HQ; have := unhide HDB; have := unhide HDL; omega))
  rw [← unhide HDL] at Hb
  have HPb := hide ga
  clear ga hda
  go_wp2_with fail
  refine (unhide Hb).mono ?_
  rintro e xb ⟨rfl, yb, zb⟩
  have gb := (unhide HPb).trans zb
  have HGb := hide gb
  clear e0 e1 e2 e3 e4 zb Hb HPb gb
  have hL0 : (B ++ be 4 dl ++ d).length = bs.length + 8 + dl := by simp only [List.length_append, be_length]; have := unhide HQ8; have := unhide HDL; omega
  have HL0 := hide hL0
  have hpd : pad8 dl - dl < 8 := by unfold pad8; omega
  have hpm : (dl + (pad8 dl - dl)) % 8 = 0 := by unfold pad8; omega
  have HPD := hide hpd
  have HPM := hide hpm
  clear hL0 hpd hpm
  generalize hp : pad8 dl - dl = p at *
  have HP := hide hp
  clear hp
  go_wp2
  go_loopg [] p (fun k wr => k ≤ p ∧ ∃ v', Wrote 66 (w.alloc (.cells #[.int .i64 t, .int .i64 7, .int .i64 n, .slice da dl dc, .slice ka kl kc] 25)) b v wr v' (B ++ be 4 dl ++ d ++ List.replicate (p - k) 0))
  case atStart => exact ⟨Nat.le_refl _, yb, by simpa using unhide HGb⟩
  case round =>
    obtain ⟨hk, v', hwrt⟩ := hrel
    have hlen : (B ++ be 4 dl ++ d ++ List.replicate (p - gk) 0).length = bs.length + 8 + dl + (p - gk) := by rw [List.length_append, unhide HL0, List.length_replicate]
    have hll : bs.length + 8 + dl + (p - gk) ≤ 3000000 := by have := unhide HR; have := unhide HDB; have := unhide HPD; omega
    have hwr := hwrt.now
    have hc : wr.cell? ⟨b, 0, none⟩ = some v' := cell_of_one hwr.blk
    obtain ⟨vo, vc, hvs⟩ := ownsRow_shape hwr.own
    subst hvs
    by_cases hlt : 0 < gk
    · obtain ⟨m, rfl⟩ : ∃ m, gk = m + 1 := ⟨gk - 1, by omega⟩
      obtain ⟨ys, hys⟩ : ∃ ys, ys = B ++ be 4 dl ++ d ++ List.replicate (p - (m + 1)) 0 := ⟨_, rfl⟩
      rw [← hys] at hwrt hwr hlen hc
      have hmod : 0 < (ys.length : Int) % 8 := by rw [hlen]; have h1 := unhide HPD; have h2 := unhide HPM; have h3 := unhide HB8; omega
      have htm : 0 < (ys.length : Int).tmod 8 := by rw [Int.tmod_eq_emod_of_nonneg (by omega)]; exact hmod
      have Hend : Hid (ys ++ [0] = B ++ be 4 dl ++ d ++ List.replicate (p - m) 0) := by
        show _ = _
        rw [hys, show p - m = p - (m + 1) + 1 by omega, List.replicate_succ', List.append_assoc]
      have hyl : ys.length + 1 ≤ 140737488355328 := by omega
      have hca : ∀ o, (wr.alloc o).cell? ⟨b, 0, none⟩ = some (.slice vo ys.length vc) := fun o => by rw [World.cell?_alloc_past _ _ _ (Array.getElem?_eq_some_iff.1 hwr.blk).1]; exact hc
      have HRt := hide hwrt
      have HK2 := hide hk
      clear hlen hll hwrt hys hk hlt
      go_wp2_with (at_builtin; refine wpList_push rfl (.tmp 72) (.tmp 73) rfl 66 b (.slice vo ys.length vc) ys (.slice (some ⟨wr.heap.size, 0, none⟩) 1 1) [0] (by decide) rfl rfl (has_one (by simp [bv])) (hwr.push rfl) (by simp; omega) ?_; intro ao2 cap2 w2 hc2 hf2 hb2 own2 gr2 at2)
      all_goals
        have R := ((unhide HRt).trans (hwr.laid _)).trans ((hwr.push rfl).stored (by decide) hb2.out own2 gr2 at2)
        rw [Hend.out] at R
        go_roundg m
        case measure => omega
        case rel => exact ⟨by have := unhide HK2; omega, _, R⟩
    · obtain rfl : gk = 0 := by omega
      obtain ⟨ys, hys⟩ : ∃ ys, ys = B ++ be 4 dl ++ d ++ List.replicate (p - 0) 0 := ⟨_, rfl⟩
      rw [← hys] at hwrt hwr hlen hc
      have hmod : ¬ 0 < (ys.length : Int) % 8 := by rw [hlen]; have h1 := unhide HPD; have h2 := unhide HPM; have h3 := unhide HB8; omega
      have htm : ¬ 0 < (ys.length : Int).tmod 8 := by rw [Int.tmod_eq_emod_of_nonneg (by omega)]; exact hmod
      have HRt := hide hwrt
      have HY := hide hys
      clear hlen hll hwrt hys hk hlt
      go_wp2
      go_end0
      have R := (unhide HLD).trans (unhide HRt)
      rw [unhide HY, unhide HB, Nat.sub_zero, ← unhide HP] at R
      have E : bs ++ be 1 (t / 65536) ++ be 2 t ++ be 1 7 ++ be 4 dl ++ d ++ List.replicate (pad8 dl - dl) 0 = bs ++ (headL t 7 dl ++ (d ++ List.replicate (pad8 dl - dl) 0)) := by
        unfold headL
        simp only [List.append_assoc, Int.toNat_natCast]
        rfl
      rw [E] at R
      exact ⟨rfl, _, R⟩

set_option maxHeartbeats 4000000 in
set_option maxRecDepth 100000 in
theorem rlay_8 (t : Nat) (n : Int) (da : Option Addr) (d : List UInt8) (dc : Nat) (ka : Option Addr) (kl kc b : Nat) (v : Value) (bs : List UInt8) (w : World) (hW : WrAt 66 w b v bs) (ht : t < 16777216) (hr : bs.length ≤ 1000000) (hx : Has w (.slice da d.length dc) d) (hsep : d ≠ [] → ∀ k, blk (.slice da d.length dc) = some k → k ≠ b ∧ v.ownBlock ≠ some k) (hdl : d.length ≤ 1000000) (hb8 : bs.length % 8 = 0) :
    Calls Tryd.prog 31 #[.pointer (some ⟨b, 0, none⟩), .agg #[.int .i64 t, .int .i64 8, .int .i64 n, .slice da d.length dc, .slice ka kl kc]] w fun e w' => e = .returned (.tuple #[]) ∧ ∃ v', Wrote 66 w b v w' v' (bs ++ (headL t 8 d.length ++ (d ++ List.replicate (pad8 d.length - d.length) 0))) := by
  have HX : Hid (∀ W v1 cs, Wrote 66 (w.alloc (.cells #[.int .i64 t, .int .i64 8, .int .i64 n, .slice da d.length dc, .slice ka kl kc] 25)) b v W v1 cs → Has W (.slice da d.length dc) d) := fun W v1 cs hw => (hx.only ((Only.refl (fun _ => False) w).alloc _) (fun _ _ _ e => e)).only hw.only (fun hne k hk e => by
    obtain ⟨h1, h2⟩ := hsep hne k hk
    rcases e with e | e
    · exact h1 e
    · exact h2 e)
  obtain ⟨dl, hdl0⟩ : ∃ dl, dl = d.length := ⟨_, rfl⟩
  have HDL := hide hdl0
  have HB8 := hide hb8
  rw [← hdl0] at HX hdl ⊢
  have HDB := hide hdl
  clear hdl0 hx hsep hb8 hdl
  obtain ⟨⟨c0, c1, c2, c3, c4⟩, oA⟩ := boxed w (.int .i64 t) (.int .i64 8) (.int .i64 n) (.slice da dl dc) (.slice ka kl kc)
  have hl := hW.laid (.cells #[.int .i64 t, .int .i64 8, .int .i64 n, .slice da dl dc, .slice ka kl kc] 25)
  have HLD := hide hl
  have HK : Hid (∀ W v1 cs, Wrote 66 (w.alloc (.cells #[.int .i64 t, .int .i64 8, .int .i64 n, .slice da dl dc, .slice ka kl kc] 25)) b v W v1 cs → W.cell? ⟨w.heap.size, 0, none⟩ = some (.int .i64 t) ∧ W.cell? ⟨w.heap.size, 1, none⟩ = some (.int .i64 8) ∧ W.cell? ⟨w.heap.size, 2, none⟩ = some (.int .i64 n) ∧ W.cell? ⟨w.heap.size, 3, none⟩ = some (.slice da dl dc) ∧ W.cell? ⟨w.heap.size, 4, none⟩ = some (.slice ka kl kc)) := fun W v1 cs hw =>
    ⟨wrote_boxR hW (Nat.le_refl _) hw c0, wrote_boxR hW (Nat.le_refl _) hw c1, wrote_boxR hW (Nat.le_refl _) hw c2, wrote_boxR hW (Nat.le_refl _) hw c3, wrote_boxR hW (Nat.le_refl _) hw c4⟩
  have H1 := hide (WR.u8_any b v bs ((t / 65536 : Nat) : Int) _ hl.now (by omega))
  rw [be_nat 1 (t / 65536) (by omega)] at H1
  rw [show ((t / 65536 : Nat) : Int) = (t : Int) / 65536 by omega] at H1
  have HR := hide hr
  have HT := hide ht
  have hs16 := shr16 t
  rw [show ((t / 65536 : Nat) : Int) = (t : Int) / 65536 by omega] at hs16
  clear hl oA hr ht
  go_enter Tryd.func31, Tryd.ntmps31
  go_wp2_with fail
  refine (unhide H1).mono ?_
  rintro e w2 ⟨rfl, v2, hw2⟩
  obtain ⟨e0, e1, e2, e3, e4⟩ := unhide HK _ _ _ hw2
  have H2 := hide (WR.u16_any b v2 _ (t : Int) w2 hw2.now (by rw [List.length_append, be_length]; have := unhide HR; omega))
  rw [be_nat 2 t (by have := unhide HT; omega)] at H2
  have HW2 := hide hw2
  clear hw2 c0 c1 c2 c3 c4 H1
  go_wp2_with fail
  refine (unhide H2).mono ?_
  rintro e w3 ⟨rfl, v3, hw3⟩
  have hw23 := (unhide HW2).trans hw3
  clear e0 e1 e2 e3 e4 H2 HW2 hw3
  obtain ⟨e0, e1, e2, e3, e4⟩ := unhide HK _ _ _ hw23
  have H3 := hide (WR.u8_any b v3 _ (8 : Int) w3 hw23.now (by rw [List.length_append, List.length_append, be_length, be_length]; have := unhide HR; omega))
  rw [show toU64 (8 : Int) = 8 from by decide +kernel] at H3
  have HW3 := hide hw23
  clear hw23
  go_wp2_with fail
  refine (unhide H3).mono ?_
  rintro e w4 ⟨rfl, v4, hw4⟩
  have hw24 := (unhide HW3).trans hw4
  clear e0 e1 e2 e3 e4 H3 HW3 hw4
  obtain ⟨e0, e1, e2, e3, e4⟩ := unhide HK _ _ _ hw24
  have hq : (bs ++ be 1 (t / 65536) ++ be 2 t ++ be 1 8).length ≤ 1000004 := by simp only [List.length_append, be_length]; have := unhide HR; omega
  have hq8 : (bs ++ be 1 (t / 65536) ++ be 2 t ++ be 1 8).length = bs.length + 4 := by simp only [List.length_append, be_length]
  obtain ⟨B, hB⟩ : ∃ B, B = bs ++ be 1 (t / 65536) ++ be 2 t ++ be 1 8 := ⟨_, rfl⟩
  rw [← hB] at hw24 hq hq8
  have HB := hide hB
  have HQ := hide hq
  have HQ8 := hide hq8
  clear hB hq hq8
  have Ha := hide (WR.u32_any b v4 _ (dl : Int) w4 hw24.now (by have := unhide HQ; omega))
  rw [be_nat 4 dl (by have := unhide HDB; omega)] at Ha
  have HPa := hide hw24
  clear hw24
  go_wp2_with fail
  refine (unhide Ha).mono ?_
  rintro e xa ⟨rfl, ya, za⟩
  have ga := (unhide HPa).trans za
  clear e0 e1 e2 e3 e4 za Ha HPa
  obtain ⟨e0, e1, e2, e3, e4⟩ := unhide HK _ _ _ ga
  have hda := unhide HX _ _ _ ga
  rw [unhide HDL] at hda
  have Hb := hide (WR.raw_any b ya _ _ d xa hda ga.now (by simp only [List.length_append, be_length]; have := unhide HQ; have := unhide HDB; have := unhide HDL; omega))
  rw [← unhide HDL] at Hb
  have HPb := hide ga
  clear ga hda
  go_wp2_with fail
  refine (unhide Hb).mono ?_
  rintro e xb ⟨rfl, yb, zb⟩
  have gb := (unhide HPb).trans zb
  have HGb := hide gb
  clear e0 e1 e2 e3 e4 zb Hb HPb gb
  have hL0 : (B ++ be 4 dl ++ d).length = bs.length + 8 + dl := by simp only [List.length_append, be_length]; have := unhide HQ8; have := unhide HDL; omega
  have HL0 := hide hL0
  have hpd : pad8 dl - dl < 8 := by unfold pad8; omega
  have hpm : (dl + (pad8 dl - dl)) % 8 = 0 := by unfold pad8; omega
  have HPD := hide hpd
  have HPM := hide hpm
  clear hL0 hpd hpm
  generalize hp : pad8 dl - dl = p at *
  have HP := hide hp
  clear hp
  go_wp2
  go_loopg [] p (fun k wr => k ≤ p ∧ ∃ v', Wrote 66 (w.alloc (.cells #[.int .i64 t, .int .i64 8, .int .i64 n, .slice da dl dc, .slice ka kl kc] 25)) b v wr v' (B ++ be 4 dl ++ d ++ List.replicate (p - k) 0))
  case atStart => exact ⟨Nat.le_refl _, yb, by simpa using unhide HGb⟩
  case round =>
    obtain ⟨hk, v', hwrt⟩ := hrel
    have hlen : (B ++ be 4 dl ++ d ++ List.replicate (p - gk) 0).length = bs.length + 8 + dl + (p - gk) := by rw [List.length_append, unhide HL0, List.length_replicate]
    have hll : bs.length + 8 + dl + (p - gk) ≤ 3000000 := by have := unhide HR; have := unhide HDB; have := unhide HPD; omega
    have hwr := hwrt.now
    have hc : wr.cell? ⟨b, 0, none⟩ = some v' := cell_of_one hwr.blk
    obtain ⟨vo, vc, hvs⟩ := ownsRow_shape hwr.own
    subst hvs
    by_cases hlt : 0 < gk
    · obtain ⟨m, rfl⟩ : ∃ m, gk = m + 1 := ⟨gk - 1, by omega⟩
      obtain ⟨ys, hys⟩ : ∃ ys, ys = B ++ be 4 dl ++ d ++ List.replicate (p - (m + 1)) 0 := ⟨_, rfl⟩
      rw [← hys] at hwrt hwr hlen hc
      have hmod : 0 < (ys.length : Int) % 8 := by rw [hlen]; have h1 := unhide HPD; have h2 := unhide HPM; have h3 := unhide HB8; omega
      have htm : 0 < (ys.length : Int).tmod 8 := by rw [Int.tmod_eq_emod_of_nonneg (by omega)]; exact hmod
      have Hend : Hid (ys ++ [0] = B ++ be 4 dl ++ d ++ List.replicate (p - m) 0) := by
        show _ = _
        rw [hys, show p - m = p - (m + 1) + 1 by omega, List.replicate_succ', List.append_assoc]
      have hyl : ys.length + 1 ≤ 140737488355328 := by omega
      have hca : ∀ o, (wr.alloc o).cell? ⟨b, 0, none⟩ = some (.slice vo ys.length vc) := fun o => by rw [World.cell?_alloc_past _ _ _ (Array.getElem?_eq_some_iff.1 hwr.blk).1]; exact hc
      have HRt := hide hwrt
      have HK2 := hide hk
      clear hlen hll hwrt hys hk hlt
      go_wp2_with (at_builtin; refine wpList_push rfl (.tmp 72) (.tmp 73) rfl 66 b (.slice vo ys.length vc) ys (.slice (some ⟨wr.heap.size, 0, none⟩) 1 1) [0] (by decide) rfl rfl (has_one (by simp [bv])) (hwr.push rfl) (by simp; omega) ?_; intro ao2 cap2 w2 hc2 hf2 hb2 own2 gr2 at2)
      all_goals
        have R := ((unhide HRt).trans (hwr.laid _)).trans ((hwr.push rfl).stored (by decide) hb2.out own2 gr2 at2)
        rw [Hend.out] at R
        go_roundg m
        case measure => omega
        case rel => exact ⟨by have := unhide HK2; omega, _, R⟩
    · obtain rfl : gk = 0 := by omega
      obtain ⟨ys, hys⟩ : ∃ ys, ys = B ++ be 4 dl ++ d ++ List.replicate (p - 0) 0 := ⟨_, rfl⟩
      rw [← hys] at hwrt hwr hlen hc
      have hmod : ¬ 0 < (ys.length : Int) % 8 := by rw [hlen]; have h1 := unhide HPD; have h2 := unhide HPM; have h3 := unhide HB8; omega
      have htm : ¬ 0 < (ys.length : Int).tmod 8 := by rw [Int.tmod_eq_emod_of_nonneg (by omega)]; exact hmod
      have HRt := hide hwrt
      have HY := hide hys
      clear hlen hll hwrt hys hk hlt
      go_wp2
      go_end0
      have R := (unhide HLD).trans (unhide HRt)
      rw [unhide HY, unhide HB, Nat.sub_zero, ← unhide HP] at R
      have E : bs ++ be 1 (t / 65536) ++ be 2 t ++ be 1 8 ++ be 4 dl ++ d ++ List.replicate (pad8 dl - dl) 0 = bs ++ (headL t 8 dl ++ (d ++ List.replicate (pad8 dl - dl) 0)) := by
        unfold headL
        simp only [List.append_assoc, Int.toNat_natCast]
        rfl
      rw [E] at R
      exact ⟨rfl, _, R⟩

end Tt
end Go.Proofs.YtedmfjnmclbkpaaDoor
