/-
  Chapter 6's example, and each refusal.
-/
import Derived.Test.YtedmfjnmclbkpaaDoorTtKn0
namespace Go.Proofs.YtedmfjnmclbkpaaDoor
open Go.RowKit
set_option linter.unusedSimpArgs false
set_option linter.unusedVariables false
namespace Tt

theorem dec_lit (bs : List UInt8) (er : Int) (h : dAll bs = .err er) (n : Nat) (hn : bs.length = n) (hl : n ≤ 8193) (g : Nat) (W : World) (Z : Array Value) (hZ : Z = (bs.map bv).toArray) (hg : W.heap[g]? = some (.cells Z 5 (0, 0))) (hT : Tabs W) :
    Calls Tryd.prog 9 #[.slice (some ⟨g, 0, none⟩) n n] W fun e w' => e = .returned (.tuple #[zeroI, .int .i64 er]) ∧ Only (fun _ => False) W w' := by
  refine (Decode_any _ bs W (has_row hg hZ hn (by unfold maxLen; omega)) hT (by omega)).mono ?_
  rintro e w' ⟨he, o⟩
  rw [h] at he
  exact ⟨he, o⟩

set_option maxHeartbeats 8000000 in
set_option maxRecDepth 100000 in
theorem ttlvKnown_any (w : World) (hT : Tabs w) : Calls Tryd.prog 3 #[] w fun e w' => e = .returned (.bool true) ∧ Only (fun _ => False) w w' := by
  have HT := hide hT
  obtain ⟨Z, hmk0, hZ⟩ := make_noughts 8193 (by decide)
  have hmk : ∀ w : World, (Instr.makeSlice 22 (.int .i64 8193) (.int .i64 8193)).run Tryd.prog w = .ok (.slice (some ⟨w.heap.size, 0, none⟩) 8193 8193) (w.alloc (.cells Z 5)) := hmk0
  have oA := (Only.refl (fun _ => False) w).alloc (.cells Z 5)
  have HC := hide (dec_lit (List.replicate 8193 0) 6 refuse_long 8193 (by simp) (by decide) w.heap.size _ Z hZ (heap_alloc_new w (.cells Z 5)) (hT.same oA))
  have HOA := hide oA
  clear hT hmk0 hZ oA
  go_enter Tryd.func3, Tryd.ntmps3
  go_wp2_with fail
  refine (unhide HC).mono ?_
  rintro e v1 ⟨rfl, o1⟩
  have HO1 := hide (((unhide HOA).trans o1 (fun _ _ e => e)).trans ((Only.refl (fun _ => False) v1).alloc (.cells #[.int .i64 0, .int .i64 0, .int .i64 0, .slice none 0 0, .slice none 0 0] 25)) (fun _ _ e => e))
  clear o1 HC HOA hmk
  go_upto_region 2 with fail
  generalize v1.alloc (.cells #[.int .i64 0, .int .i64 0, .int .i64 0, .slice none 0 0, .slice none 0 0] 25) = w1 at *
  have oB2 := (Only.refl (fun _ => False) w1).alloc (.cells #[.int .u8 66, .int .u8 0, .int .u8 32, .int .u8 2, .int .u8 0, .int .u8 0, .int .u8 0] 5)
  have HC := hide (dec_lit [66, 0, 32, 2, 0, 0, 0] 7 refuse_b 7 rfl (by decide) w1.heap.size _ #[.int .u8 66, .int .u8 0, .int .u8 32, .int .u8 2, .int .u8 0, .int .u8 0, .int .u8 0] rfl (heap_alloc_new w1 (.cells #[.int .u8 66, .int .u8 0, .int .u8 32, .int .u8 2, .int .u8 0, .int .u8 0, .int .u8 0] 5)) ((unhide HT).same ((unhide HO1).trans oB2 (fun _ _ e => e))))
  have HOB := hide ((unhide HO1).trans oB2 (fun _ _ e => e))
  clear oB2
  go_wp2_with fail
  refine (unhide HC).mono ?_
  rintro e v2 ⟨rfl, o2⟩
  have HO2 := hide (((unhide HOB).trans o2 (fun _ _ e => e)).trans ((Only.refl (fun _ => False) v2).alloc (.cells #[.int .i64 0, .int .i64 0, .int .i64 0, .slice none 0 0, .slice none 0 0] 25)) (fun _ _ e => e))
  clear o2 HC HOB HO1
  go_upto_region 3 with fail
  generalize v2.alloc (.cells #[.int .i64 0, .int .i64 0, .int .i64 0, .slice none 0 0, .slice none 0 0] 25) = w2 at *
  have oB3 := (Only.refl (fun _ => False) w2).alloc (.cells #[.int .u8 67, .int .u8 0, .int .u8 32, .int .u8 2, .int .u8 0, .int .u8 0, .int .u8 0, .int .u8 4, .int .u8 0, .int .u8 0, .int .u8 0, .int .u8 0, .int .u8 0, .int .u8 0, .int .u8 0, .int .u8 0] 5)
  have HC := hide (dec_lit [67, 0, 32, 2, 0, 0, 0, 4, 0, 0, 0, 0, 0, 0, 0, 0] 5 refuse_c 16 rfl (by decide) w2.heap.size _ #[.int .u8 67, .int .u8 0, .int .u8 32, .int .u8 2, .int .u8 0, .int .u8 0, .int .u8 0, .int .u8 4, .int .u8 0, .int .u8 0, .int .u8 0, .int .u8 0, .int .u8 0, .int .u8 0, .int .u8 0, .int .u8 0] rfl (heap_alloc_new w2 (.cells #[.int .u8 67, .int .u8 0, .int .u8 32, .int .u8 2, .int .u8 0, .int .u8 0, .int .u8 0, .int .u8 4, .int .u8 0, .int .u8 0, .int .u8 0, .int .u8 0, .int .u8 0, .int .u8 0, .int .u8 0, .int .u8 0] 5)) ((unhide HT).same ((unhide HO2).trans oB3 (fun _ _ e => e))))
  have HOB := hide ((unhide HO2).trans oB3 (fun _ _ e => e))
  clear oB3
  go_wp2_with fail
  refine (unhide HC).mono ?_
  rintro e v3 ⟨rfl, o3⟩
  have HO3 := hide (((unhide HOB).trans o3 (fun _ _ e => e)).trans ((Only.refl (fun _ => False) v3).alloc (.cells #[.int .i64 0, .int .i64 0, .int .i64 0, .slice none 0 0, .slice none 0 0] 25)) (fun _ _ e => e))
  clear o3 HC HOB HO2
  go_upto_region 4 with fail
  generalize v3.alloc (.cells #[.int .i64 0, .int .i64 0, .int .i64 0, .slice none 0 0, .slice none 0 0] 25) = w3 at *
  have oB4 := (Only.refl (fun _ => False) w3).alloc (.cells #[.int .u8 66, .int .u8 0, .int .u8 32, .int .u8 2, .int .u8 0, .int .u8 0, .int .u8 0, .int .u8 8, .int .u8 0, .int .u8 0, .int .u8 0, .int .u8 0, .int .u8 0, .int .u8 0, .int .u8 0, .int .u8 0] 5)
  have HC := hide (dec_lit [66, 0, 32, 2, 0, 0, 0, 8, 0, 0, 0, 0, 0, 0, 0, 0] 5 refuse_d 16 rfl (by decide) w3.heap.size _ #[.int .u8 66, .int .u8 0, .int .u8 32, .int .u8 2, .int .u8 0, .int .u8 0, .int .u8 0, .int .u8 8, .int .u8 0, .int .u8 0, .int .u8 0, .int .u8 0, .int .u8 0, .int .u8 0, .int .u8 0, .int .u8 0] rfl (heap_alloc_new w3 (.cells #[.int .u8 66, .int .u8 0, .int .u8 32, .int .u8 2, .int .u8 0, .int .u8 0, .int .u8 0, .int .u8 8, .int .u8 0, .int .u8 0, .int .u8 0, .int .u8 0, .int .u8 0, .int .u8 0, .int .u8 0, .int .u8 0] 5)) ((unhide HT).same ((unhide HO3).trans oB4 (fun _ _ e => e))))
  have HOB := hide ((unhide HO3).trans oB4 (fun _ _ e => e))
  clear oB4
  go_wp2_with fail
  refine (unhide HC).mono ?_
  rintro e v4 ⟨rfl, o4⟩
  have HO4 := hide (((unhide HOB).trans o4 (fun _ _ e => e)).trans ((Only.refl (fun _ => False) v4).alloc (.cells #[.int .i64 0, .int .i64 0, .int .i64 0, .slice none 0 0, .slice none 0 0] 25)) (fun _ _ e => e))
  clear o4 HC HOB HO3
  go_upto_region 5 with fail
  generalize v4.alloc (.cells #[.int .i64 0, .int .i64 0, .int .i64 0, .slice none 0 0, .slice none 0 0] 25) = w4 at *
  have oB5 := (Only.refl (fun _ => False) w4).alloc (.cells #[.int .u8 66, .int .u8 0, .int .u8 32, .int .u8 2, .int .u8 0, .int .u8 0, .int .u8 0, .int .u8 4, .int .u8 0, .int .u8 0, .int .u8 0, .int .u8 0, .int .u8 0, .int .u8 0, .int .u8 0, .int .u8 1] 5)
  have HC := hide (dec_lit [66, 0, 32, 2, 0, 0, 0, 4, 0, 0, 0, 0, 0, 0, 0, 1] 11 refuse_e 16 rfl (by decide) w4.heap.size _ #[.int .u8 66, .int .u8 0, .int .u8 32, .int .u8 2, .int .u8 0, .int .u8 0, .int .u8 0, .int .u8 4, .int .u8 0, .int .u8 0, .int .u8 0, .int .u8 0, .int .u8 0, .int .u8 0, .int .u8 0, .int .u8 1] rfl (heap_alloc_new w4 (.cells #[.int .u8 66, .int .u8 0, .int .u8 32, .int .u8 2, .int .u8 0, .int .u8 0, .int .u8 0, .int .u8 4, .int .u8 0, .int .u8 0, .int .u8 0, .int .u8 0, .int .u8 0, .int .u8 0, .int .u8 0, .int .u8 1] 5)) ((unhide HT).same ((unhide HO4).trans oB5 (fun _ _ e => e))))
  have HOB := hide ((unhide HO4).trans oB5 (fun _ _ e => e))
  clear oB5
  go_wp2_with fail
  refine (unhide HC).mono ?_
  rintro e v5 ⟨rfl, o5⟩
  have HO5 := hide (((unhide HOB).trans o5 (fun _ _ e => e)).trans ((Only.refl (fun _ => False) v5).alloc (.cells #[.int .i64 0, .int .i64 0, .int .i64 0, .slice none 0 0, .slice none 0 0] 25)) (fun _ _ e => e))
  clear o5 HC HOB HO4
  go_upto_region 6 with fail
  generalize v5.alloc (.cells #[.int .i64 0, .int .i64 0, .int .i64 0, .slice none 0 0, .slice none 0 0] 25) = w5 at *
  have oB6 := (Only.refl (fun _ => False) w5).alloc (.cells #[.int .u8 66, .int .u8 0, .int .u8 32, .int .u8 7, .int .u8 0, .int .u8 0, .int .u8 0, .int .u8 1, .int .u8 255, .int .u8 0, .int .u8 0, .int .u8 0, .int .u8 0, .int .u8 0, .int .u8 0, .int .u8 0] 5)
  have HC := hide (dec_lit [66, 0, 32, 7, 0, 0, 0, 1, 255, 0, 0, 0, 0, 0, 0, 0] 5 refuse_f 16 rfl (by decide) w5.heap.size _ #[.int .u8 66, .int .u8 0, .int .u8 32, .int .u8 7, .int .u8 0, .int .u8 0, .int .u8 0, .int .u8 1, .int .u8 255, .int .u8 0, .int .u8 0, .int .u8 0, .int .u8 0, .int .u8 0, .int .u8 0, .int .u8 0] rfl (heap_alloc_new w5 (.cells #[.int .u8 66, .int .u8 0, .int .u8 32, .int .u8 7, .int .u8 0, .int .u8 0, .int .u8 0, .int .u8 1, .int .u8 255, .int .u8 0, .int .u8 0, .int .u8 0, .int .u8 0, .int .u8 0, .int .u8 0, .int .u8 0] 5)) ((unhide HT).same ((unhide HO5).trans oB6 (fun _ _ e => e))))
  have HOB := hide ((unhide HO5).trans oB6 (fun _ _ e => e))
  clear oB6
  go_wp2_with fail
  refine (unhide HC).mono ?_
  rintro e v6 ⟨rfl, o6⟩
  have HO6 := hide (((unhide HOB).trans o6 (fun _ _ e => e)).trans ((Only.refl (fun _ => False) v6).alloc (.cells #[.int .i64 0, .int .i64 0, .int .i64 0, .slice none 0 0, .slice none 0 0] 25)) (fun _ _ e => e))
  clear o6 HC HOB HO5
  go_upto_region 7 with fail
  generalize v6.alloc (.cells #[.int .i64 0, .int .i64 0, .int .i64 0, .slice none 0 0, .slice none 0 0] 25) = w6 at *
  have oB7 := (Only.refl (fun _ => False) w6).alloc (.cells #[.int .u8 66, .int .u8 0, .int .u8 32, .int .u8 8, .int .u8 0, .int .u8 0, .int .u8 0, .int .u8 1, .int .u8 255, .int .u8 0, .int .u8 0, .int .u8 0, .int .u8 0, .int .u8 0, .int .u8 0] 5)
  have HC := hide (dec_lit [66, 0, 32, 8, 0, 0, 0, 1, 255, 0, 0, 0, 0, 0, 0] 7 refuse_g 15 rfl (by decide) w6.heap.size _ #[.int .u8 66, .int .u8 0, .int .u8 32, .int .u8 8, .int .u8 0, .int .u8 0, .int .u8 0, .int .u8 1, .int .u8 255, .int .u8 0, .int .u8 0, .int .u8 0, .int .u8 0, .int .u8 0, .int .u8 0] rfl (heap_alloc_new w6 (.cells #[.int .u8 66, .int .u8 0, .int .u8 32, .int .u8 8, .int .u8 0, .int .u8 0, .int .u8 0, .int .u8 1, .int .u8 255, .int .u8 0, .int .u8 0, .int .u8 0, .int .u8 0, .int .u8 0, .int .u8 0] 5)) ((unhide HT).same ((unhide HO6).trans oB7 (fun _ _ e => e))))
  have HOB := hide ((unhide HO6).trans oB7 (fun _ _ e => e))
  clear oB7
  go_wp2_with fail
  refine (unhide HC).mono ?_
  rintro e v7 ⟨rfl, o7⟩
  have HO7 := hide (((unhide HOB).trans o7 (fun _ _ e => e)).trans ((Only.refl (fun _ => False) v7).alloc (.cells #[.int .i64 0, .int .i64 0, .int .i64 0, .slice none 0 0, .slice none 0 0] 25)) (fun _ _ e => e))
  clear o7 HC HOB HO6
  go_upto_region 8 with fail
  generalize v7.alloc (.cells #[.int .i64 0, .int .i64 0, .int .i64 0, .slice none 0 0, .slice none 0 0] 25) = w7 at *
  have oB8 := (Only.refl (fun _ => False) w7).alloc (.cells #[.int .u8 66, .int .u8 0, .int .u8 32, .int .u8 1, .int .u8 0, .int .u8 0, .int .u8 0, .int .u8 0, .int .u8 0] 5)
  have HC := hide (dec_lit [66, 0, 32, 1, 0, 0, 0, 0, 0] 5 refuse_h 9 rfl (by decide) w7.heap.size _ #[.int .u8 66, .int .u8 0, .int .u8 32, .int .u8 1, .int .u8 0, .int .u8 0, .int .u8 0, .int .u8 0, .int .u8 0] rfl (heap_alloc_new w7 (.cells #[.int .u8 66, .int .u8 0, .int .u8 32, .int .u8 1, .int .u8 0, .int .u8 0, .int .u8 0, .int .u8 0, .int .u8 0] 5)) ((unhide HT).same ((unhide HO7).trans oB8 (fun _ _ e => e))))
  have HOB := hide ((unhide HO7).trans oB8 (fun _ _ e => e))
  clear oB8
  go_wp2_with fail
  refine (unhide HC).mono ?_
  rintro e v8 ⟨rfl, o8⟩
  have HO8 := hide (((unhide HOB).trans o8 (fun _ _ e => e)).trans ((Only.refl (fun _ => False) v8).alloc (.cells #[.int .i64 0, .int .i64 0, .int .i64 0, .slice none 0 0, .slice none 0 0] 25)) (fun _ _ e => e))
  clear o8 HC HOB HO7
  go_upto_region 9 with fail
  generalize v8.alloc (.cells #[.int .i64 0, .int .i64 0, .int .i64 0, .slice none 0 0, .slice none 0 0] 25) = w8 at *
  have hb9 := heap_alloc_new w8 (.cells #[.int .i64 4325377, .int .i64 1, .int .i64 0, .slice none 0 0, .slice none 0 0] 25)
  have o9 := (Only.refl (fun _ => False) w8).alloc (.cells #[.int .i64 4325377, .int .i64 1, .int .i64 0, .slice none 0 0, .slice none 0 0] 25)
  have HO9 := hide ((unhide HO8).trans o9 (fun _ _ e => e))
  have HB9 := hide hb9
  have HBW := hide (unhide HO8).size
  clear hb9 o9 HO8
  go_upto_region 10 with fail
  generalize w8.alloc (.cells #[.int .i64 4325377, .int .i64 1, .int .i64 0, .slice none 0 0, .slice none 0 0] 25) = w9 at *
  generalize w8.heap.size = B at *
  go_wp2
  go_loopw [18] (fun i wr => ∃ (k : Nat) (kv : Value), k ≤ 12 ∧ i = .int .i64 k ∧ Hid (wr.heap[B]? = some (.cells #[.int .i64 4325377, .int .i64 1, .int .i64 0, .slice none 0 0, kv] 25 (0, 0))) ∧ Hid (KidsAt (fun b => B < b) wr (ItAt (fun b => B < b) wr k) kv (nest k).kids) ∧ Hid (Only (fun b => b = B) w9 wr)) (fun i _ => 12 - (intOf i).toNat)
  case atStart => exact ⟨0, .slice none 0 0, by omega, rfl, unhide HB9, Or.inl ⟨rfl, rfl⟩, Only.refl _ _⟩
  case round =>
    obtain ⟨k, kv, hk, rfl, HBk, HKk, HOk⟩ := hrel
    by_cases hlt : k < 12
    · obtain ⟨c0, c1, c2, c3, c4⟩ := cells_of5 (unhide HBk)
      have hone : kv.oneCell' = true := by
        obtain ⟨ao, cap, e, _, _⟩ := (unhide HKk).shape
        rw [e]; rfl
      have hBlt : B < wr.heap.size := (Array.getElem?_eq_some_iff.1 (unhide HBk)).1
      have HBLT := hide hBlt
      have oA := (Only.refl (fun _ => False) wr).alloc (.cells #[.int .i64 4325377, .int .i64 1, .int .i64 0, .slice none 0 0, kv] 25)
      have hbA := oA.heap (unhide HBk) (fun e => e)
      have hgA := heap_alloc_new wr (.cells #[.int .i64 4325377, .int .i64 1, .int .i64 0, .slice none 0 0, kv] 25)
      have hf : ∀ i, (wr.alloc (.cells #[.int .i64 4325377, .int .i64 1, .int .i64 0, .slice none 0 0, kv] 25)).frozen? ⟨B, i, none⟩ = false := by simp [World.frozen?, hbA]
      obtain ⟨d0, d1, d2, d3, d4⟩ := cells_of5 hbA
      have HNew : Hid (∀ W, W = (((((wr.alloc (.cells #[.int .i64 4325377, .int .i64 1, .int .i64 0, .slice none 0 0, kv] 25)).setCell ⟨B, 0, none⟩ (.int .i64 4325377)).setCell ⟨B, 1, none⟩ (.int .i64 1)).setCell ⟨B, 2, none⟩ (.int .i64 0)).setCell ⟨B, 3, none⟩ (.slice none 0 0)).setCell ⟨B, 4, none⟩ (.slice (some ⟨wr.heap.size, 0, none⟩) 1 1) →
          W.heap[B]? = some (.cells #[.int .i64 4325377, .int .i64 1, .int .i64 0, .slice none 0 0, .slice (some ⟨wr.heap.size, 0, none⟩) 1 1] 25 (0, 0)) ∧ KidsAt (fun b => B < b) W (ItAt (fun b => B < b) W (k + 1)) (.slice (some ⟨wr.heap.size, 0, none⟩) 1 1) (nest (k + 1)).kids ∧ Only (fun b => b = B) w9 W) := fun W hW => by
        obtain ⟨h1, o1⟩ := put5 hbA (.int .i64 4325377) (.int .i64 1) (.int .i64 0) (.slice none 0 0) (.slice (some ⟨wr.heap.size, 0, none⟩) 1 1)
        rw [← hW] at h1 o1
        have h2 : W.heap[wr.heap.size]? = _ := o1.heap hgA (fun e => by omega)
        have o2 : Only (fun b => b = B) wr W := (oA.mono (fun _ _ e => e.elim)).trans o1 (fun _ _ e => e)
        have hg5 := (Array.getElem?_eq_some_iff.1 h2).1
        refine ⟨h1, Or.inr ⟨⟨wr.heap.size, 0, none⟩, 1, rfl, fun _ => rfl, Nat.le_refl _, by unfold maxLen; omega, fun _ => ⟨hg5, hBlt⟩, fun j it hj => ?_⟩, (unhide HOk).trans o2 (fun _ _ e => e)⟩
        have hj0 : j = 0 := by
          have h3 := (List.getElem?_eq_some_iff.1 hj).1
          have h4 : (nest (k + 1)).kids.length = 1 := rfl
          omega
        subst hj0
        have hit : nest k = it := by
          have h3 : (nest (k + 1)).kids = [nest k] := rfl
          rw [h3] at hj
          simpa using hj
        subst hit
        obtain ⟨x0, x1, x2, x3, x4⟩ := cells_of5 h2
        have ht : (nest k).tag = 4325377 ∧ (nest k).typ = 1 ∧ (nest k).int = 0 ∧ (nest k).data = [] := by cases k <;> exact ⟨rfl, rfl, rfl, rfl⟩
        refine ⟨.slice none 0 0, kv, by rw [ht.1]; simpa using x0, by rw [ht.2.1]; simpa using x1, by rw [ht.2.2.1]; simpa using x2, by simpa using x3, by simpa using x4, ?_⟩
        refine ItAt.only o2 (fun q _ hq e => by omega) (k + 1) (i := nest k) (dv := .slice none 0 0) (kv := kv) ?_
        exact ⟨by rw [ht.2.2.2]; exact Or.inl ⟨rfl, rfl⟩, fun h => absurd ht.2.2.2 h, unhide HKk⟩
      clear oA hbA hgA hBlt
      go_wp2
      go_roundw
      case rel =>
        obtain ⟨h1, h2, h3⟩ := unhide HNew _ rfl
        exact ⟨k + 1, _, by omega, by go_num, h1, h2, h3⟩
      case measure => simp [intOf]; omega
    · obtain rfl : k = 12 := by omega
      obtain ⟨ao, cap, hkv, hcl, hcm⟩ := (unhide HKk).shape
      have hk12 : (nest 12).kids.length = 1 := rfl
      rw [hk12] at hkv hcl
      subst hkv
      obtain ⟨bb, off, dv1, kv1, rfl, hbq, x0, x1, x2, x3, x4, hx⟩ := (unhide HKk).at 0 (by rw [hk12]; omega)
      have y0 : wr.cell? ⟨bb, off, none⟩ = some (.int .i64 4325377) := x0
      have y1 : wr.cell? ⟨bb, off + 1, none⟩ = some (.int .i64 1) := x1
      have y2 : wr.cell? ⟨bb, off + 2, none⟩ = some (.int .i64 0) := x2
      have y3 : wr.cell? ⟨bb, off + 3, none⟩ = some dv1 := x3
      have y4 : wr.cell? ⟨bb, off + 4, none⟩ = some kv1 := x4
      have hx11 : ItAt (fun b => B < b) wr 12 (nest 11) dv1 kv1 := hx
      obtain ⟨⟨da, dc, hds⟩, ka, kc, hks⟩ := hx11.shapes
      have hd0 : (nest 11).data.length = 0 := rfl
      have hk1 : (nest 11).kids.length = 1 := rfl
      rw [hd0] at hds
      rw [hk1] at hks
      subst hds
      subst hks
      have HOr := hide ((unhide HO9).trans (unhide HOk) (fun q hq e => by have := unhide HBW; omega))
      have HE12 : Hid (Calls Tryd.prog 10 #[.agg #[.int .i64 4325377, .int .i64 1, .int .i64 0, .slice none 0 0, .slice (some ⟨bb, off, none⟩) 1 cap]] wr fun e w' => e = .returned (.tuple #[.slice none 0 0, .int .i64 1]) ∧ Only (fun _ => False) wr w') := by
        refine (Encode_any (Q := fun b => B < b) 13 (nest 12) (.slice none 0 0) _ wr ⟨Or.inl ⟨rfl, rfl⟩, fun h => absurd rfl h, unhide HKk⟩ ((unhide HT).same (unhide HOr)) (by decide) (by rw [nest_size]; decide) (nest_small _ _)).mono ?_
        rintro e w' ⟨he, o⟩
        unfold EncAs at he
        rw [nest_right.2, if_neg (by decide)] at he
        exact ⟨he, o⟩
      have HE11 : Hid (∀ W, Only (fun _ => False) wr W → Calls Tryd.prog 10 #[.agg #[.int .i64 4325377, .int .i64 1, .int .i64 0, .slice da 0 dc, .slice ka 1 kc]] W fun e w' => ∃ vo vc, e = .returned (.tuple #[.slice vo 96 vc, .int .i64 0]) ∧ Only (fun _ => False) W w') := fun W oW => by
        refine (Encode_any (Q := fun b => B < b) 12 (nest 11) (.slice da 0 dc) (.slice ka 1 kc) W (hx11.same oW) ((unhide HT).same ((unhide HOr).trans oW (fun _ _ e => e))) (by decide) (by rw [nest_size]; decide) (nest_small _ _)).mono ?_
        rintro e w' ⟨he, o⟩
        unfold EncAs at he
        rw [nest_right.1, if_pos rfl] at he
        obtain ⟨v, rfl, hv, _⟩ := he
        obtain ⟨vo, vc, rfl, _⟩ := hv.shape
        exact ⟨vo, vc, by rw [lay_length, nest_size], o⟩
      have HKn := hide (fun W (o : Only (fun _ => False) w W) => known_any W ((unhide HT).same o))
      have HKid := hide (fun (g : Nat) (W : World) (hg : W.heap[g]? = some (.cells K3 25 (0, 0))) => kid_lit g W hg)
      unfold iv at HKid
      obtain ⟨c0, c1, c2, c3, c4⟩ := cells_of5 (unhide HBk)
      clear x0 x1 x2 x3 x4 hx hx11 hd0 hk1 hk12 hbq HBk HKk HOk HO9 HBW
      go_wp2_with fail
      refine (unhide HE12).mono ?_
      rintro e wa ⟨rfl, oa⟩
      have z0 := oa.cell y0 (fun e => e)
      have z1 := oa.cell y1 (fun e => e)
      have z2 := oa.cell y2 (fun e => e)
      have z3 := oa.cell y3 (fun e => e)
      have z4 := oa.cell y4 (fun e => e)
      have c4a := oa.cell c4 (fun e => e)
      have HOa := hide oa
      clear oa y0 y1 y2 y3 y4 c0 c1 c2 c3 c4 HE12
      go_wp2_with fail
      refine (unhide HE11 _ (unhide HOa)).mono ?_
      rintro e wb ⟨vo, vc, rfl, ob⟩
      have HOb := hide (((unhide HOr).trans (unhide HOa) (fun _ _ e => e)).trans (ob.trans ((Only.refl (fun _ => False) wb).alloc (.cells K3 25)) (fun _ _ e => e)) (fun _ _ e => e))
      have hk3 := heap_alloc_new wb (.cells K3 25)
      have HKid := hide (unhide HKid _ _ hk3)
      unfold K3 at HOb HKid
      clear ob z0 z1 z2 z3 z4 c4a HE11 HOa HOr hk3
      go_wp2_with fail
      refine (unhide HKid).mono ?_
      rintro e wc ⟨rfl, oc⟩
      have HOc := hide (((unhide HOb).trans oc (fun _ _ e => e)).trans ((Only.refl (fun _ => False) wc).alloc (.cells #[.int .i64 2, .int .i64 0, .int .i64 3, .slice none 0 0, .slice none 0 0] 25)) (fun _ _ e => e))
      obtain ⟨_, _, q2, _, _⟩ := cells_of5 (heap_alloc_new wc (.cells #[.int .i64 2, .int .i64 0, .int .i64 3, .slice none 0 0, .slice none 0 0] 25))
      clear oc HKid HOb
      go_upto_region 17 with fail
      generalize wc.alloc (.cells #[.int .i64 2, .int .i64 0, .int .i64 3, .slice none 0 0, .slice none 0 0] 25) = wd at *
      generalize wc.heap.size = bd at *
      go_wp2_with fail
      refine (unhide HKn _ (unhide HOc)).mono ?_
      rintro e we ⟨rfl, oe⟩
      have q2e := oe.cell q2 (fun e => e)
      have HOe := hide ((unhide HOc).trans oe (fun _ _ e => e))
      clear oe q2
      go_wp2
      go_ret
      exact ⟨rfl, unhide HOe⟩
end Tt
end Go.Proofs.YtedmfjnmclbkpaaDoor
