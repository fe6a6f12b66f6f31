/-
  Kid of chapter 6's example: kids without data and without kids.
-/
import Derived.Test.YtedmfjnmclbkpaaDoorTtKnow
namespace Go.Proofs.YtedmfjnmclbkpaaDoor
open Go.RowKit
set_option linter.unusedSimpArgs false
set_option linter.unusedVariables false
namespace Tt

theorem results_it1 {fn : Func} {t : Tmp} (h : fn.results = #[.cell t 25]) (tmps : Array Value) (w : World) (b : Nat) (x y z : Int) (da : Option Addr) (dl dc : Nat) (ka : Option Addr) (kl kc : Nat) (ht : tmps[t]?.getD undef = .pointer (some ⟨b, 0, none⟩))
    (hc : w.cell? ⟨b, 0, none⟩ = some (.int .i64 x) ∧ w.cell? ⟨b, 1, none⟩ = some (.int .i64 y) ∧ w.cell? ⟨b, 2, none⟩ = some (.int .i64 z) ∧ w.cell? ⟨b, 3, none⟩ = some (.slice da dl dc) ∧ w.cell? ⟨b, 4, none⟩ = some (.slice ka kl kc)) :
    (results fn tmps).run Tryd.prog w = .ok (iv x y z da dl dc ka kl kc) w := by
  obtain ⟨t0, t1, t2, t3, t4⟩ := hc
  simp [results, h, ht, go_sem, t0, t1, t2, t3, t4]

set_option maxRecDepth 100000 in
theorem cloneB_nil (w : World) : Calls Tryd.prog 60 #[.slice none 0 0] w fun e w' => e = .returned (.slice none 0 0) ∧ w' = w := by
  have hnil : ∀ W, (binOp .eql 22 (.slice none 0 0) (.slice none 0 0)).run Tryd.prog W = .ok (.bool true) W := fun W => by kernel_rfl
  go_enter Tryd.func60, Tryd.ntmps60
  go_wp2
  go_ret
  exact ⟨rfl, rfl⟩
set_option maxRecDepth 100000 in
theorem cloneI_nil (w : World) : Calls Tryd.prog 61 #[.slice none 0 0] w fun e w' => e = .returned (.slice none 0 0) ∧ w' = w := by
  have hnil : ∀ W, (binOp .eql 23 (.slice none 0 0) (.slice none 0 0)).run Tryd.prog W = .ok (.bool true) W := fun W => by kernel_rfl
  go_enter Tryd.func61, Tryd.ntmps61
  go_wp2
  go_ret
  exact ⟨rfl, rfl⟩

set_option maxHeartbeats 2000000 in
set_option maxRecDepth 100000 in
theorem fresh_leaf (t y n : Int) (w : World) : Calls Tryd.prog 30 #[iv t y n none 0 0 none 0 0] w fun e w' => e = .returned (iv t y n none 0 0 none 0 0) ∧ Only (fun _ => False) w w' := by
  obtain ⟨⟨a0, a1, a2, a3, a4⟩, oA⟩ := boxed w (.int .i64 t) (.int .i64 y) (.int .i64 n) (.slice none 0 0) (.slice none 0 0)
  have hbi := heap_alloc_new w (.cells #[.int .i64 t, .int .i64 y, .int .i64 n, .slice none 0 0, .slice none 0 0] 25)
  generalize hw1 : w.alloc (.cells #[.int .i64 t, .int .i64 y, .int .i64 n, .slice none 0 0, .slice none 0 0] 25) = w1 at *
  have hs1 : w1.heap.size = w.heap.size + 1 := by rw [← hw1]; simp
  have oZ : Only (fun _ => False) w1 (w1.alloc (.cells #[.int .i64 0, .int .i64 0, .int .i64 0, .slice none 0 0, .slice none 0 0] 25)) := (Only.refl _ _).alloc _
  have hbz := heap_alloc_new w1 (.cells #[.int .i64 0, .int .i64 0, .int .i64 0, .slice none 0 0, .slice none 0 0] 25)
  rw [hs1] at hbz
  have hb2 := oZ.heap hbi (fun e => e)
  have HO := hide (oA.trans oZ (fun _ _ e => e))
  have HBI := hide hb2
  have HBZ := hide hbz
  have HS := hide hs1
  have HC1 := hide (fun W => cloneB_nil W)
  have HC2 := hide (fun W => cloneI_nil W)
  subst hw1
  unfold iv
  clear a0 a1 a2 a3 a4 oA hbi hs1 oZ hbz hb2
  go_enter Tryd.func30, Tryd.ntmps30
  go_upto_region 1 with fail
  generalize ((w.alloc (.cells #[.int .i64 t, .int .i64 y, .int .i64 n, .slice none 0 0, .slice none 0 0] 25)).alloc (.cells #[.int .i64 0, .int .i64 0, .int .i64 0, .slice none 0 0, .slice none 0 0] 25)) = w2 at *
  generalize hB : w.heap.size = B at *
  have HBB := hide hB
  obtain ⟨c0, c1, c2, c3, c4⟩ := cells_of5 (unhide HBI)
  have hf : ∀ i, w2.frozen? ⟨B, i, none⟩ = false := by have := unhide HBI; simp [World.frozen?, this]
  have hb3 : (w2.setCell ⟨B, 3, none⟩ (.slice none 0 0)).heap[B]? = some (.cells #[.int .i64 t, .int .i64 y, .int .i64 n, .slice none 0 0, .slice none 0 0] 25 (0, 0)) := two_setCell (i := 3) (unhide HBI)
  have o3 : Only (fun k => k = B) w2 (w2.setCell ⟨B, 3, none⟩ (.slice none 0 0)) := (Only.refl _ _).here 3 _
  have HB3 := hide hb3
  have HZ3 := hide (o3.heap (unhide HBZ) (by omega))
  have HO3 := hide ((unhide HO).trans o3 (fun i hi e => by omega))
  clear hb3 o3 hB
  go_wp2_with fail
  refine (unhide HC1 _).mono ?_
  rintro e w3 ⟨rfl, rfl⟩
  go_upto_region 2 with fail
  generalize w3.setCell ⟨B, 3, none⟩ (.slice none 0 0) = w4 at *
  clear c0 c1 c2 c3 c4 hf
  obtain ⟨c0, c1, c2, c3, c4⟩ := cells_of5 (unhide HB3)
  have hf : ∀ i, w4.frozen? ⟨B, i, none⟩ = false := by have := unhide HB3; simp [World.frozen?, this]
  have hb5 : (w4.setCell ⟨B, 4, none⟩ (.slice none 0 0)).heap[B]? = some (.cells #[.int .i64 t, .int .i64 y, .int .i64 n, .slice none 0 0, .slice none 0 0] 25 (0, 0)) := two_setCell (i := 4) (unhide HB3)
  have o5 : Only (fun k => k = B) w4 (w4.setCell ⟨B, 4, none⟩ (.slice none 0 0)) := (Only.refl _ _).here 4 _
  have HB5 := hide hb5
  have HZ5 := hide (o5.heap (unhide HZ3) (by omega))
  have HO5 := hide ((unhide HO3).trans o5 (fun i hi e => by have := unhide HBB; omega))
  clear hb5 o5
  go_wp2_with fail
  refine (unhide HC2 _).mono ?_
  rintro e w5 ⟨rfl, rfl⟩
  go_upto_region 3 with fail
  generalize w5.setCell ⟨B, 4, none⟩ (.slice none 0 0) = w6 at *
  clear c0 c1 c2 c3 c4 hf
  obtain ⟨c0, c1, c2, c3, c4⟩ := cells_of5 (unhide HB5)
  obtain ⟨z0, z1, z2, z3, z4⟩ := cells_of5 (unhide HZ5)
  have hfz : ∀ i, w6.frozen? ⟨B + 1, i, none⟩ = false := by have := unhide HZ5; simp [World.frozen?, this]
  go_wp2
  go_loopw [15] (fun j wr => j = .int .i64 0 ∧ wr = w6) (fun _ _ => 0)
  case atStart => exact ⟨rfl, rfl⟩
  case round =>
    obtain ⟨rfl, rfl⟩ := hrel
    go_wp2
    obtain ⟨hb7, o7⟩ := put5 (unhide HZ5) (.int .i64 t) (.int .i64 y) (.int .i64 n) (.slice none 0 0) (.slice none 0 0)
    refine bodyPost_ret (results_it1 rfl _ _ (B + 1) t y n none 0 0 none 0 0 rfl (cells_of5 hb7)) rfl ?_
    exact ⟨rfl, (unhide HO5).trans o7 (fun i hi e => by have := unhide HBB; omega)⟩

/-- fifteen cells -/
def K3 : Array Value := #[.int .i64 1, .int .i64 0, .int .i64 0, .slice none 0 0, .slice none 0 0, .int .i64 2, .int .i64 0, .int .i64 3, .slice none 0 0, .slice none 0 0, .int .i64 2, .int .i64 0, .int .i64 4, .slice none 0 0, .slice none 0 0]

set_option maxHeartbeats 2000000 in
set_option maxRecDepth 100000 in
theorem kid_lit (g : Nat) (w : World) (hg : w.heap[g]? = some (.cells K3 25 (0, 0))) : Calls Tryd.prog 11 #[iv 0 1 0 none 0 0 (some ⟨g, 0, none⟩) 3 3, .int .i64 2] w fun e w' => e = .returned (.tuple #[iv 2 0 3 none 0 0 none 0 0, .bool true]) ∧ Only (fun _ => False) w w' := by
  obtain ⟨⟨a0, a1, a2, a3, a4⟩, oA⟩ := boxed w (.int .i64 0) (.int .i64 1) (.int .i64 0) (.slice none 0 0) (.slice (some ⟨g, 0, none⟩) 3 3)
  generalize hw1 : w.alloc (.cells #[.int .i64 0, .int .i64 1, .int .i64 0, .slice none 0 0, .slice (some ⟨g, 0, none⟩) 3 3] 25) = w1 at *
  have hs1 : w1.heap.size = w.heap.size + 1 := by rw [← hw1]; simp
  have oZ : Only (fun _ => False) w1 (w1.alloc (.cells #[.int .i64 0, .int .i64 0, .int .i64 0, .slice none 0 0, .slice none 0 0] 25)) := (Only.refl _ _).alloc _
  have hbz := heap_alloc_new w1 (.cells #[.int .i64 0, .int .i64 0, .int .i64 0, .slice none 0 0, .slice none 0 0] 25)
  rw [hs1] at hbz
  have HO := hide (oA.trans oZ (fun _ _ e => e))
  have b4 := oZ.cell a4 (fun e => e)
  have HBZ := hide hbz
  have HG := hide ((unhide HO).heap hg (fun e => e))
  have HB4 := hide b4
  have HFr := hide (fun W => fresh_leaf 2 0 3 W)
  subst hw1
  unfold iv
  unfold iv at HFr
  clear a0 a1 a2 a3 a4 oA hs1 oZ hbz hg b4
  go_enter Tryd.func11, Tryd.ntmps11
  go_upto_region 1 with fail
  generalize ((w.alloc (.cells #[.int .i64 0, .int .i64 1, .int .i64 0, .slice none 0 0, .slice (some ⟨g, 0, none⟩) 3 3] 25)).alloc (.cells #[.int .i64 0, .int .i64 0, .int .i64 0, .slice none 0 0, .slice none 0 0] 25)) = w2 at *
  generalize hB : w.heap.size = B at *
  have HBB := hide hB
  have b4 := unhide HB4
  clear hB
  go_wp2
  go_loopw [11] (fun j wr => ∃ k : Nat, k ≤ 1 ∧ j = .int .i64 k ∧ Only (fun _ => False) w2 wr) (fun j _ => 3 - (intOf j).toNat)
  case atStart => exact ⟨0, by decide, rfl, Only.refl _ _⟩
  case round =>
    obtain ⟨k, hk, rfl, ho⟩ := hrel
    have HO2 := hide ((unhide HO).trans ho (fun _ _ e => e))
    have hgr := ho.heap (unhide HG) (fun e => e)
    have hzr := ho.heap (unhide HBZ) (fun e => e)
    have HZR := hide hzr
    have HOr := hide ho
    have hcell : ∀ j, wr.cell? ⟨g, j, none⟩ = K3[j]? := fun j => by simp [World.cell?, hgr]
    clear ho b4 hzr
    rcases (show k = 0 ∨ k = 1 by omega) with rfl | rfl
    · have q0 : wr.cell? ⟨g, 0, none⟩ = some (.int .i64 1) := (hcell 0).trans rfl
      have q1 : wr.cell? ⟨g, 1, none⟩ = some (.int .i64 0) := (hcell 1).trans rfl
      have q2 : wr.cell? ⟨g, 2, none⟩ = some (.int .i64 0) := (hcell 2).trans rfl
      have q3 : wr.cell? ⟨g, 3, none⟩ = some (.slice none 0 0) := (hcell 3).trans rfl
      have q4 : wr.cell? ⟨g, 4, none⟩ = some (.slice none 0 0) := (hcell 4).trans rfl
      have HN := hide ((unhide HOr).trans ((Only.refl (fun _ => False) wr).alloc (.cells #[.int .i64 1, .int .i64 0, .int .i64 0, .slice none 0 0, .slice none 0 0] 25)) (fun _ _ e => e))
      clear hcell hgr
      rw [show ((0 : Nat) : Int) = 0 from rfl]
      go_wp2
      go_roundw
      case rel => exact ⟨1, by decide, by go_num, unhide HN⟩
      case measure => simp [intOf]
    · have q0 : wr.cell? ⟨g, 5, none⟩ = some (.int .i64 2) := (hcell 5).trans rfl
      have q1 : wr.cell? ⟨g, 6, none⟩ = some (.int .i64 0) := (hcell 6).trans rfl
      have q2 : wr.cell? ⟨g, 7, none⟩ = some (.int .i64 3) := (hcell 7).trans rfl
      have q3 : wr.cell? ⟨g, 8, none⟩ = some (.slice none 0 0) := (hcell 8).trans rfl
      have q4 : wr.cell? ⟨g, 9, none⟩ = some (.slice none 0 0) := (hcell 9).trans rfl
      clear hcell hgr
      rw [show ((1 : Nat) : Int) = 1 from rfl]
      have oK : Only (fun _ => False) wr (wr.alloc (.cells #[.int .i64 2, .int .i64 0, .int .i64 3, .slice none 0 0, .slice none 0 0] 25)) := (Only.refl _ _).alloc _
      have hz5 := oK.heap (unhide HZR) (fun e => e)
      have HO5 := hide ((unhide HO2).trans oK (fun _ _ e => e))
      have HZ5 := hide hz5
      clear oK hz5
      go_wp2_with fail
      refine (unhide HFr _).mono ?_
      rintro e w6 ⟨rfl, o6⟩
      have hz6 := o6.heap (unhide HZ5) (fun e => e)
      have HZ6 := hide hz6
      have hfz : ∀ i, w6.frozen? ⟨B + 1, i, none⟩ = false := by simp [World.frozen?, hz6]
      obtain ⟨z0, z1, z2, z3, z4⟩ := cells_of5 hz6
      have HO6 := hide ((unhide HO5).trans o6 (fun _ _ e => e))
      clear o6 hz6 q0 q1 q2 q3 q4
      go_wp2
      obtain ⟨hb7, o7⟩ := put5 (unhide HZ6) (.int .i64 2) (.int .i64 0) (.int .i64 3) (.slice none 0 0) (.slice none 0 0)
      refine bodyPost_ret (results_it2 rfl _ _ (B + 1) 2 0 3 none 0 0 none 0 0 rfl (cells_of5 hb7)) rfl ?_
      exact ⟨rfl, (unhide HO6).trans o7 (fun i hi e => by have := unhide HBB; omega)⟩
end Tt
end Go.Proofs.YtedmfjnmclbkpaaDoor
