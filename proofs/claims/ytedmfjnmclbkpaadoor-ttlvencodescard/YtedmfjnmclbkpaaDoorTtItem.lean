/-
  The decoder's item: a way a type.
-/
import Derived.Test.YtedmfjnmclbkpaaDoorTtHead
import Derived.BigRegion
namespace Go.Proofs.YtedmfjnmclbkpaaDoor
open Go.RowKit
set_option linter.unusedSimpArgs false
set_option linter.unusedVariables false
namespace Tt

theorem pads_err : ∀ (k : Nat) (bs : List UInt8) (e : Int), pads k bs = .err e → 0 < e
  | 0, _, _, h => by simp [pads] at h
  | _ + 1, [], e, h => by simp only [pads, RP.err.injEq] at h; omega
  | k + 1, b :: r, e, h => by
    rw [pads] at h
    by_cases hb : b ≠ 0
    · rw [if_pos hb] at h; simp only [RP.err.injEq] at h; omega
    · rw [if_neg hb] at h; exact pads_err k r e h
theorem many_err (f : List UInt8 → Nat → RI) (hf : ∀ bs c e, f bs c = .err e → 0 < e) : ∀ (m : Nat) (bs : List UInt8) (c : Nat) (acc : List It) (e : Int), many f m bs c acc = .err e → 0 < e
  | m, [], c, acc, e, h => by unfold many at h; cases h
  | 0, b :: bs, c, acc, e, h => by rw [many] at h; simp only [RK.err.injEq] at h; omega
  | m + 1, b :: bs, c, acc, e, h => by
    rw [many] at h
    cases hx : f (b :: bs) c with
    | err e' => rw [hx] at h; simp only [RK.err.injEq] at h; rw [← h]; exact hf _ _ _ hx
    | ok i r c1 => rw [hx] at h; exact many_err f hf m r c1 _ e h
theorem rdr_err (n : Nat) (hf : ∀ bs c e, dOne n bs c = .err e → 0 < e) (y : Int) (L : Nat) (r : List UInt8) (c : Nat) (e : Int) (h : rdr n y L r c = .err e) : 0 < e := by
  unfold rdr at h
  by_cases h1 : y = 1
  · rw [if_pos h1] at h
    cases hm : many (dOne n) L (r.take L) c [] with
    | err e' => rw [hm] at h; simp only [RB.err.injEq] at h; rw [← h]; exact many_err _ hf _ _ _ _ _ hm
    | ok ks c' => rw [hm] at h; cases h
  · rw [if_neg h1] at h
    by_cases h2 : leafB y (r.take L) = true
    · rw [if_pos h2] at h; cases h
    · rw [if_neg h2] at h; simp only [RB.err.injEq] at h; omega
theorem after_err (t y : Int) (L : Nat) (R : RB) (e : Int) (hR : ∀ e, R = .err e → 0 < e) (h : after t y L R = .err e) : 0 < e := by
  cases R with
  | err e' => simp only [after, RI.err.injEq] at h; rw [← h]; exact hR e' rfl
  | ok n d ks r c =>
    rw [after, fin] at h
    cases hp : pads (pad8 L - L) r with
    | err e' => rw [hp] at h; simp only [RI.err.injEq] at h; rw [← h]; exact pads_err _ _ _ hp
    | ok r' => rw [hp] at h; cases h
theorem dOne_err : ∀ (n : Nat) (bs : List UInt8) (c : Nat) (e : Int), dOne n bs c = .err e → 0 < e
  | 0, bs, c, e, h => by rw [dOne] at h; split at h <;> simp only [RI.err.injEq] at h <;> omega
  | n + 1, bs, c, e, h => by
    rw [dOne_eq] at h
    cases hh : hdr (n + 1) bs c with
    | err e' =>
      rw [hh] at h
      simp only [RI.err.injEq] at h
      unfold hdr at hh
      rw [← h]
      repeat' split at hh
      all_goals first | (simp only [RH.err.injEq] at hh; omega) | cases hh
    | ok t y L => rw [hh] at h; exact after_err _ _ _ _ e (rdr_err n (dOne_err n) _ _ _ _) h

theorem iOut_err {w w' : World} {db rb cb depth : Nat} {v : Value} {m : Nat} {r : RI} {er : Int} (h : r = .err er) (ho : Only (fun k => k = rb ∨ k = cb) w w') : IOut w db rb cb depth v m r (.returned (.tuple #[zeroI, .int .i64 er])) w' := by rw [h]; exact ⟨rfl, ho⟩
theorem iOut_ok {w w' : World} {db rb cb depth : Nat} {v v' : Value} {m : Nat} {r : RI} {it : It} {r' : List UInt8} {c' : Nat} {dv kv : Value} (h : r = .ok it r' c') (hi : ItAt (fun k => w.heap.size ≤ k) w' (m + 1) it dv kv) (ht : DTo w db rb cb depth v w' v' r' c') : IOut w db rb cb depth v m r (.returned (.tuple #[ival it dv kv, .int .i64 0])) w' := by rw [h]; exact ⟨dv, kv, v', rfl, hi, ht⟩

section
variable {w : World} {db rb cb depth : Nat} {v : Value} {r : List UInt8} {c : Nat}

set_option maxHeartbeats 4000000 in
set_option maxRecDepth 100000 in
theorem item_1 (h : DcAt w db rb cb depth v r c) (hT : Tabs w) (m T L : Nat) (R : RB)
    (HH : Hid (∀ W, DcAt W db rb cb depth v r c → Calls Tryd.prog 40 #[.pointer (some ⟨db, 0, none⟩)] W (HOut W db rb cb depth v r c (.ok T 1 L))))
    (HR : Hid (∀ W v', DcAt W db rb cb depth v' (r.drop 8) (c + 1) → Tabs W → Calls Tryd.prog 41 #[.pointer (some ⟨db, 0, none⟩), .int .i64 L] W (ROut W db rb cb depth v' m R)))
    (hpos : ∀ er, R = .err er → 0 < er) (hlen : ∀ n d ks r' c', R = .ok n d ks r' c' → r'.length ≤ 140737488355328) (hL : L ≤ 140737488355320) :
    Calls Tryd.prog 25 #[.pointer (some ⟨db, 0, none⟩)] w (IOut w db rb cb depth v m (after T 1 L R)) := by
  obtain ⟨w1, hw1, h1, hb, o1⟩ := zeroed h
  obtain ⟨X, hE⟩ : ∃ X, after T 1 L R = X := ⟨_, rfl⟩
  rw [hE]
  have HE := hide hE
  have HD := hide h
  have HB := hide hb
  have HO := hide o1
  have HT := hide hT
  have HC := hide (unhide HH _ h1)
  have HS1 : Hid (w1.heap.size = w.heap.size + 1) := by show _ = _; rw [hw1]; simp
  have hne : ¬ (w.heap.size = rb ∨ w.heap.size = cb) := by
    have h1 := lt_of_block h.rd.blk
    have h2 := lt_of_block h.cnt
    omega
  have HPos := hide hpos
  have HLen := hide hlen
  clear h h1 hE hb o1 HH hT hpos hlen
  go_enter Tryd.func25, Tryd.ntmps25
  subst hw1
  go_wp2_with fail
  refine (unhide HC).mono ?_
  rintro e w2 ⟨rfl, v2, d2⟩
  generalize w.alloc (.cells #[.int .i64 0, .int .i64 0, .int .i64 0, .slice none 0 0, .slice none 0 0] 25) = w1 at *
  have hs2 := d2.only.size
  have HD2 := hide (((unhide HD).to (unhide HO)).trans d2)
  have hb2 := d2.only.heap (unhide HB) hne
  -- the box of the head, the row of readers
  obtain ⟨⟨x0, x1, x2, x3, x4⟩, oA⟩ := boxed w2 (.int .i64 T) (.int .i64 1) (.int .i64 0) (.slice none 0 0) (.slice none 0 0)
  have HD3 := hide ((unhide HD2).same oA)
  have hb3 := oA.heap hb2 (fun e => e)
  have HS3 : Hid ((w2.alloc (.cells #[.int .i64 T, .int .i64 1, .int .i64 0, .slice none 0 0, .slice none 0 0] 25)).heap.size = w2.heap.size + 1) := by show _ = _; simp
  have HB3 := hide hb3
  clear d2 hb2 oA hb3 HC
  go_upto_region 2 with fail
  generalize w2.alloc (.cells #[.int .i64 T, .int .i64 1, .int .i64 0, .slice none 0 0, .slice none 0 0] 25) = w3 at *
  have oR : Only (fun _ => False) w3 (w3.alloc (.cells #[Value.nilFunc, Value.func (Fn.func 41) #[Value.pointer (some ⟨db, 0, none⟩)] #[], Value.func (Fn.func 42) #[Value.pointer (some ⟨db, 0, none⟩)] #[], Value.func (Fn.func 43) #[Value.pointer (some ⟨db, 0, none⟩)] #[], Value.func (Fn.func 44) #[Value.pointer (some ⟨db, 0, none⟩)] #[], Value.func (Fn.func 45) #[Value.pointer (some ⟨db, 0, none⟩)] #[], Value.func (Fn.func 46) #[Value.pointer (some ⟨db, 0, none⟩)] #[], Value.func (Fn.func 47) #[Value.pointer (some ⟨db, 0, none⟩)] #[], Value.func (Fn.func 48) #[Value.pointer (some ⟨db, 0, none⟩)] #[], Value.func (Fn.func 43) #[Value.pointer (some ⟨db, 0, none⟩)] #[], Value.func (Fn.func 45) #[Value.pointer (some ⟨db, 0, none⟩)] #[]] 88)) := (Only.refl _ _).alloc _
  have hR : (w3.alloc (.cells #[Value.nilFunc, Value.func (Fn.func 41) #[Value.pointer (some ⟨db, 0, none⟩)] #[], Value.func (Fn.func 42) #[Value.pointer (some ⟨db, 0, none⟩)] #[], Value.func (Fn.func 43) #[Value.pointer (some ⟨db, 0, none⟩)] #[], Value.func (Fn.func 44) #[Value.pointer (some ⟨db, 0, none⟩)] #[], Value.func (Fn.func 45) #[Value.pointer (some ⟨db, 0, none⟩)] #[], Value.func (Fn.func 46) #[Value.pointer (some ⟨db, 0, none⟩)] #[], Value.func (Fn.func 47) #[Value.pointer (some ⟨db, 0, none⟩)] #[], Value.func (Fn.func 48) #[Value.pointer (some ⟨db, 0, none⟩)] #[], Value.func (Fn.func 43) #[Value.pointer (some ⟨db, 0, none⟩)] #[], Value.func (Fn.func 45) #[Value.pointer (some ⟨db, 0, none⟩)] #[]] 88)).cell? ⟨w3.heap.size, 1, none⟩ = some (Value.func (Fn.func 41) #[Value.pointer (some ⟨db, 0, none⟩)] #[]) := (cell_of_heap (heap_alloc_new w3 (.cells #[Value.nilFunc, Value.func (Fn.func 41) #[Value.pointer (some ⟨db, 0, none⟩)] #[], Value.func (Fn.func 42) #[Value.pointer (some ⟨db, 0, none⟩)] #[], Value.func (Fn.func 43) #[Value.pointer (some ⟨db, 0, none⟩)] #[], Value.func (Fn.func 44) #[Value.pointer (some ⟨db, 0, none⟩)] #[], Value.func (Fn.func 45) #[Value.pointer (some ⟨db, 0, none⟩)] #[], Value.func (Fn.func 46) #[Value.pointer (some ⟨db, 0, none⟩)] #[], Value.func (Fn.func 47) #[Value.pointer (some ⟨db, 0, none⟩)] #[], Value.func (Fn.func 48) #[Value.pointer (some ⟨db, 0, none⟩)] #[], Value.func (Fn.func 43) #[Value.pointer (some ⟨db, 0, none⟩)] #[], Value.func (Fn.func 45) #[Value.pointer (some ⟨db, 0, none⟩)] #[]] 88))).trans rfl
  have z0 := oR.cell x0 (fun e => e)
  have z1 := oR.cell x1 (fun e => e)
  have z2 := oR.cell x2 (fun e => e)
  have z3 := oR.cell x3 (fun e => e)
  have z4 := oR.cell x4 (fun e => e)
  have hb4 := oR.heap (unhide HB3) (fun e => e)
  have HD4 := hide ((unhide HD3).same oR)
  have HS4 : Hid ((w3.alloc (.cells #[Value.nilFunc, Value.func (Fn.func 41) #[Value.pointer (some ⟨db, 0, none⟩)] #[], Value.func (Fn.func 42) #[Value.pointer (some ⟨db, 0, none⟩)] #[], Value.func (Fn.func 43) #[Value.pointer (some ⟨db, 0, none⟩)] #[], Value.func (Fn.func 44) #[Value.pointer (some ⟨db, 0, none⟩)] #[], Value.func (Fn.func 45) #[Value.pointer (some ⟨db, 0, none⟩)] #[], Value.func (Fn.func 46) #[Value.pointer (some ⟨db, 0, none⟩)] #[], Value.func (Fn.func 47) #[Value.pointer (some ⟨db, 0, none⟩)] #[], Value.func (Fn.func 48) #[Value.pointer (some ⟨db, 0, none⟩)] #[], Value.func (Fn.func 43) #[Value.pointer (some ⟨db, 0, none⟩)] #[], Value.func (Fn.func 45) #[Value.pointer (some ⟨db, 0, none⟩)] #[]] 88)).heap.size = w3.heap.size + 1) := by show _ = _; simp
  have HCR := hide (unhide HR _ v2 (unhide HD4).now ((unhide HD4).tabs (unhide HT)))
  have HB4 := hide hb4
  clear oR hb4 x0 x1 x2 x3 x4 HB3 HR
  go_upto_region 5 with fail
  generalize w3.alloc (.cells #[Value.nilFunc, Value.func (Fn.func 41) #[Value.pointer (some ⟨db, 0, none⟩)] #[], Value.func (Fn.func 42) #[Value.pointer (some ⟨db, 0, none⟩)] #[], Value.func (Fn.func 43) #[Value.pointer (some ⟨db, 0, none⟩)] #[], Value.func (Fn.func 44) #[Value.pointer (some ⟨db, 0, none⟩)] #[], Value.func (Fn.func 45) #[Value.pointer (some ⟨db, 0, none⟩)] #[], Value.func (Fn.func 46) #[Value.pointer (some ⟨db, 0, none⟩)] #[], Value.func (Fn.func 47) #[Value.pointer (some ⟨db, 0, none⟩)] #[], Value.func (Fn.func 48) #[Value.pointer (some ⟨db, 0, none⟩)] #[], Value.func (Fn.func 43) #[Value.pointer (some ⟨db, 0, none⟩)] #[], Value.func (Fn.func 45) #[Value.pointer (some ⟨db, 0, none⟩)] #[]] 88) = w4 at *
  have hup : ¬ (w2.heap.size = rb ∨ w2.heap.size = cb) := by
    have h1 := lt_of_block (unhide HD).rd.blk
    have h2 := lt_of_block (unhide HD).cnt
    have := unhide HS1
    omega
  cases R with
  | err er =>
    have hep := unhide HPos er rfl
    have e4 : (er == 0) = false := by rw [beq_eq_false_iff_ne]; omega
    rw [after] at HE
    go_wp2_with fail
    refine (unhide HCR).mono ?_
    rintro e w5 ⟨rfl, o5⟩
    have hb5 := o5.heap (unhide HB4) hne
    have HO5 := hide ((unhide HD4).only.trans o5 (fun _ _ e => e))
    have oI : Only (fun _ => False) w5 (w5.alloc (.cells #[.int .i64 0, .int .i64 0, .int .i64 0, .slice none 0 0, .slice none 0 0] 25)) := (Only.refl _ _).alloc _
    have hb6 := oI.heap hb5 (fun e => e)
    have HB6 := hide hb6
    have HO6 := hide ((unhide HO5).trans oI (fun _ _ e => e.elim))
    have HS6 : Hid ((∀ i, (w5.alloc (.cells #[.int .i64 0, .int .i64 0, .int .i64 0, .slice none 0 0, .slice none 0 0] 25)).frozen? ⟨w.heap.size, i, none⟩ = false) ∧ (w5.alloc (.cells #[.int .i64 0, .int .i64 0, .int .i64 0, .slice none 0 0, .slice none 0 0] 25)).cell? ⟨w.heap.size, 0, none⟩ = some (.int .i64 0) ∧ (w5.alloc (.cells #[.int .i64 0, .int .i64 0, .int .i64 0, .slice none 0 0, .slice none 0 0] 25)).cell? ⟨w.heap.size, 1, none⟩ = some (.int .i64 0) ∧ (w5.alloc (.cells #[.int .i64 0, .int .i64 0, .int .i64 0, .slice none 0 0, .slice none 0 0] 25)).cell? ⟨w.heap.size, 2, none⟩ = some (.int .i64 0) ∧ (w5.alloc (.cells #[.int .i64 0, .int .i64 0, .int .i64 0, .slice none 0 0, .slice none 0 0] 25)).cell? ⟨w.heap.size, 3, none⟩ = some (.slice none 0 0) ∧ (w5.alloc (.cells #[.int .i64 0, .int .i64 0, .int .i64 0, .slice none 0 0, .slice none 0 0] 25)).cell? ⟨w.heap.size, 4, none⟩ = some (.slice none 0 0)) := ⟨by simp [World.frozen?, hb6], cells_of5 hb6⟩
    clear o5 hb5 oI hb6 HCR hR z0 z1 z2 z3 z4
    go_upto_region 6 with fail
    generalize w5.alloc (.cells #[.int .i64 0, .int .i64 0, .int .i64 0, .slice none 0 0, .slice none 0 0] 25) = w6 at *
    obtain ⟨hf, s0, s1, s2, s3, s4⟩ := unhide HS6
    go_wp2
    obtain ⟨hb7, o7⟩ := put5 (unhide HB6) (.int .i64 0) (.int .i64 0) (.int .i64 0) (.slice none 0 0) (.slice none 0 0)
    refine bodyPost_ret (results_it2 rfl _ _ w.heap.size 0 0 0 none 0 0 none 0 0 rfl (cells_of5 hb7)) rfl ?_
    exact iOut_err (unhide HE).symm (only_set (unhide HO6) (o7.mono (fun k _ e => by omega)))
  | ok nn d ks r' c' =>
    have hrl := unhide HLen nn d ks r' c' rfl
    rw [after, fin] at HE
    go_wp2_with fail
    refine (unhide HCR).mono ?_
    rintro e w5 ⟨dv, kv, v5, rfl, hit, d5⟩
    obtain ⟨⟨da, dc, hds⟩, ka, kc, hks⟩ := hit.shapes
    simp only [It.data, It.kids] at hds hks
    subst hds
    subst hks
    have hb5 := d5.only.heap (unhide HB4) hne
    have u0 := d5.only.cell z0 hup
    have u1 := d5.only.cell z1 hup
    have HD5 := hide ((unhide HD4).trans d5)
    have hs5 := d5.only.size
    obtain ⟨⟨x0, x1, x2, x3, x4⟩, oI⟩ := boxed w5 (.int .i64 0) (.int .i64 0) (.int .i64 nn) (.slice da d.length dc) (.slice ka ks.length kc)
    have hbi := heap_alloc_new w5 (.cells #[.int .i64 0, .int .i64 0, .int .i64 nn, .slice da d.length dc, .slice ka ks.length kc] 25)
    have hb6 := oI.heap hb5 (fun e => e)
    have q0 := oI.cell u0 (fun e => e)
    have q1 := oI.cell u1 (fun e => e)
    have HD6 := hide ((unhide HD5).same oI)
    have HIT6 := hide ((ItAt.mono (R := fun k => w4.heap.size ≤ k ∧ k < w5.heap.size) (fun k hk hq => ⟨hq, hk⟩) _ hit).same oI)
    have HPd := hide (padding_any (unhide HD6).now L hL hrl)
    have HB6 := hide hb6
    have HBI := hide hbi
    have HLT : Hid (w.heap.size < w4.heap.size ∧ w4.heap.size ≤ w5.heap.size) := ⟨by have := unhide HS4; have := unhide HS3; have := unhide HS1; omega, hs5⟩
    clear d5 hb5 oI hb6 hbi HCR hR z0 z1 z2 z3 z4 hit u0 u1 x0 x1 x2 x3 x4 hs5
    generalize hdl : d.length = dl at *
    generalize hkl : ks.length = kl at *
    go_upto_region 6 with fail
    generalize w5.alloc (.cells #[.int .i64 0, .int .i64 0, .int .i64 nn, .slice da dl dc, .slice ka kl kc] 25) = w6 at *
    cases hp : pads (pad8 L - L) r' with
    | err er =>
      have hep := pads_err _ _ _ hp
      have e4 : (er == 0) = false := by rw [beq_eq_false_iff_ne]; omega
      rw [hp] at HE HPd
      clear hp
      go_wp2_with fail
      refine (unhide HPd).mono ?_
      rintro e w7 ⟨rfl, o7⟩
      have hb7 := o7.heap (unhide HB6) hne
      have HO7 := hide ((unhide HD6).only.trans o7 (fun _ _ e => e))
      have HB7 := hide hb7
      have hf : ∀ i, w7.frozen? ⟨w.heap.size, i, none⟩ = false := by simp [World.frozen?, hb7]
      obtain ⟨s0, s1, s2, s3, s4⟩ := cells_of5 hb7
      clear o7 hb7 HPd q0 q1 hdl hkl
      go_wp2
      obtain ⟨hb8, o8⟩ := put5 (unhide HB7) (.int .i64 0) (.int .i64 0) (.int .i64 0) (.slice none 0 0) (.slice none 0 0)
      refine bodyPost_ret (results_it2 rfl _ _ w.heap.size 0 0 0 none 0 0 none 0 0 rfl (cells_of5 hb8)) rfl ?_
      exact iOut_err (unhide HE).symm (only_set (unhide HO7) (o8.mono (fun k _ e => by omega)))
    | ok r2 =>
      rw [hp] at HE HPd
      clear hp
      go_wp2_with fail
      refine (unhide HPd).mono ?_
      rintro e w7 ⟨rfl, v7, d7⟩
      have hb7 := d7.only.heap (unhide HB6) hne
      have hni : ¬ (w5.heap.size = rb ∨ w5.heap.size = cb) := by
        have h1 := lt_of_block (unhide HD).rd.blk
        have h2 := lt_of_block (unhide HD).cnt
        have := unhide HLT
        omega
      have hbi := d7.only.heap (unhide HBI) hni
      have t0 := d7.only.cell q0 hup
      have t1 := d7.only.cell q1 hup
      have HD7 := hide ((unhide HD6).trans d7)
      have HIT7 := hide (ItAt.only d7.only (fun k _ hk e => by
        have h1 := lt_of_block (unhide HD).rd.blk
        have h2 := lt_of_block (unhide HD).cnt
        have := unhide HLT
        omega) _ (unhide HIT6))
      have HB7 := hide hb7
      have HBI7 := hide hbi
      obtain ⟨i0, i1, i2, i3, i4⟩ := cells_of5 hbi
      have hfi : ∀ i, w7.frozen? ⟨w5.heap.size, i, none⟩ = false := by simp [World.frozen?, hbi]
      have hn1 : ¬ w2.heap.size = w5.heap.size := by have := unhide HLT; have := unhide HS4; have := unhide HS3; omega
      have hn2 : ¬ w5.heap.size = w2.heap.size := by omega
      clear d7 hb7 hbi HPd q0 q1
      go_wp2_with fail
      go_region
      have o8 : Only (fun k => k = w5.heap.size) w7 ((w7.setCell ⟨w5.heap.size, 0, none⟩ (.int .i64 T)).setCell ⟨w5.heap.size, 1, none⟩ (.int .i64 1)).drew := (((Only.refl _ _).here 0 _).here 1 _).drew
      have hbi8 : ((w7.setCell ⟨w5.heap.size, 0, none⟩ (.int .i64 T)).setCell ⟨w5.heap.size, 1, none⟩ (.int .i64 1)).drew.heap[w5.heap.size]? = some (.cells #[.int .i64 T, .int .i64 1, .int .i64 nn, .slice da dl dc, .slice ka kl kc] 25 (0, 0)) := two_setCell (i := 1) (two_setCell (i := 0) (unhide HBI7))
      have hb8 := o8.heap (unhide HB7) (show ¬ w.heap.size = w5.heap.size by have := unhide HLT; omega)
      have HB8 := hide hb8
      have HO8 := hide o8
      have hf : ∀ i, ((w7.setCell ⟨w5.heap.size, 0, none⟩ (.int .i64 T)).setCell ⟨w5.heap.size, 1, none⟩ (.int .i64 1)).drew.frozen? ⟨w.heap.size, i, none⟩ = false := by simp [World.frozen?, hb8]
      have HF := hide hf
      have HC8 := hide (cells_of5 hb8)
      have HC9 := hide (cells_of5 hbi8)
      clear o8 hbi8 hb8 hf i0 i1 i2 i3 i4 hfi t0 t1
      generalize ((w7.setCell ⟨w5.heap.size, 0, none⟩ (.int .i64 T)).setCell ⟨w5.heap.size, 1, none⟩ (.int .i64 1)).drew = w8 at *
      have hf := unhide HF
      obtain ⟨s0, s1, s2, s3, s4⟩ := unhide HC8
      obtain ⟨i0, i1, i2, i3, i4⟩ := unhide HC9
      have hn3 : ¬ w5.heap.size = w.heap.size := by have := unhide HLT; omega
      go_wp2
      obtain ⟨hb9, o9⟩ := put5 (unhide HB8) (.int .i64 T) (.int .i64 1) (.int .i64 nn) (.slice da dl dc) (.slice ka kl kc)
      refine bodyPost_ret (results_it2 rfl _ _ w.heap.size T 1 nn da dl dc ka kl kc rfl (cells_of5 hb9)) rfl ?_
      have hlt := unhide HLT
      refine iOut_ok (it := .mk T 1 nn d ks) (unhide HE).symm ?_ ((unhide HD).set (unhide HD7) (((unhide HO8).mono (T := fun k => w.heap.size ≤ k) (fun k _ e => by omega)).trans o9 (fun k _ e => by omega)))
      have hi := ItAt.only o9 (fun k _ hk e => by omega) _ (ItAt.only (unhide HO8) (fun k _ hk e => by omega) _ (unhide HIT7))
      exact ItAt.mono (fun k _ hk => by omega) (m + 1) hi

set_option maxHeartbeats 4000000 in
set_option maxRecDepth 100000 in
theorem item_2 (h : DcAt w db rb cb depth v r c) (hT : Tabs w) (m T L : Nat) (R : RB)
    (HH : Hid (∀ W, DcAt W db rb cb depth v r c → Calls Tryd.prog 40 #[.pointer (some ⟨db, 0, none⟩)] W (HOut W db rb cb depth v r c (.ok T 2 L))))
    (HR : Hid (∀ W v', DcAt W db rb cb depth v' (r.drop 8) (c + 1) → Tabs W → Calls Tryd.prog 42 #[.pointer (some ⟨db, 0, none⟩), .int .i64 L] W (ROut W db rb cb depth v' m R)))
    (hpos : ∀ er, R = .err er → 0 < er) (hlen : ∀ n d ks r' c', R = .ok n d ks r' c' → r'.length ≤ 140737488355328) (hL : L ≤ 140737488355320) :
    Calls Tryd.prog 25 #[.pointer (some ⟨db, 0, none⟩)] w (IOut w db rb cb depth v m (after T 2 L R)) := by
  obtain ⟨w1, hw1, h1, hb, o1⟩ := zeroed h
  obtain ⟨X, hE⟩ : ∃ X, after T 2 L R = X := ⟨_, rfl⟩
  rw [hE]
  have HE := hide hE
  have HD := hide h
  have HB := hide hb
  have HO := hide o1
  have HT := hide hT
  have HC := hide (unhide HH _ h1)
  have HS1 : Hid (w1.heap.size = w.heap.size + 1) := by show _ = _; rw [hw1]; simp
  have hne : ¬ (w.heap.size = rb ∨ w.heap.size = cb) := by
    have h1 := lt_of_block h.rd.blk
    have h2 := lt_of_block h.cnt
    omega
  have HPos := hide hpos
  have HLen := hide hlen
  clear h h1 hE hb o1 HH hT hpos hlen
  go_enter Tryd.func25, Tryd.ntmps25
  subst hw1
  go_wp2_with fail
  refine (unhide HC).mono ?_
  rintro e w2 ⟨rfl, v2, d2⟩
  generalize w.alloc (.cells #[.int .i64 0, .int .i64 0, .int .i64 0, .slice none 0 0, .slice none 0 0] 25) = w1 at *
  have hs2 := d2.only.size
  have HD2 := hide (((unhide HD).to (unhide HO)).trans d2)
  have hb2 := d2.only.heap (unhide HB) hne
  -- the box of the head, the row of readers
  obtain ⟨⟨x0, x1, x2, x3, x4⟩, oA⟩ := boxed w2 (.int .i64 T) (.int .i64 2) (.int .i64 0) (.slice none 0 0) (.slice none 0 0)
  have HD3 := hide ((unhide HD2).same oA)
  have hb3 := oA.heap hb2 (fun e => e)
  have HS3 : Hid ((w2.alloc (.cells #[.int .i64 T, .int .i64 2, .int .i64 0, .slice none 0 0, .slice none 0 0] 25)).heap.size = w2.heap.size + 1) := by show _ = _; simp
  have HB3 := hide hb3
  clear d2 hb2 oA hb3 HC
  go_upto_region 2 with fail
  generalize w2.alloc (.cells #[.int .i64 T, .int .i64 2, .int .i64 0, .slice none 0 0, .slice none 0 0] 25) = w3 at *
  have oR : Only (fun _ => False) w3 (w3.alloc (.cells #[Value.nilFunc, Value.func (Fn.func 41) #[Value.pointer (some ⟨db, 0, none⟩)] #[], Value.func (Fn.func 42) #[Value.pointer (some ⟨db, 0, none⟩)] #[], Value.func (Fn.func 43) #[Value.pointer (some ⟨db, 0, none⟩)] #[], Value.func (Fn.func 44) #[Value.pointer (some ⟨db, 0, none⟩)] #[], Value.func (Fn.func 45) #[Value.pointer (some ⟨db, 0, none⟩)] #[], Value.func (Fn.func 46) #[Value.pointer (some ⟨db, 0, none⟩)] #[], Value.func (Fn.func 47) #[Value.pointer (some ⟨db, 0, none⟩)] #[], Value.func (Fn.func 48) #[Value.pointer (some ⟨db, 0, none⟩)] #[], Value.func (Fn.func 43) #[Value.pointer (some ⟨db, 0, none⟩)] #[], Value.func (Fn.func 45) #[Value.pointer (some ⟨db, 0, none⟩)] #[]] 88)) := (Only.refl _ _).alloc _
  have hR : (w3.alloc (.cells #[Value.nilFunc, Value.func (Fn.func 41) #[Value.pointer (some ⟨db, 0, none⟩)] #[], Value.func (Fn.func 42) #[Value.pointer (some ⟨db, 0, none⟩)] #[], Value.func (Fn.func 43) #[Value.pointer (some ⟨db, 0, none⟩)] #[], Value.func (Fn.func 44) #[Value.pointer (some ⟨db, 0, none⟩)] #[], Value.func (Fn.func 45) #[Value.pointer (some ⟨db, 0, none⟩)] #[], Value.func (Fn.func 46) #[Value.pointer (some ⟨db, 0, none⟩)] #[], Value.func (Fn.func 47) #[Value.pointer (some ⟨db, 0, none⟩)] #[], Value.func (Fn.func 48) #[Value.pointer (some ⟨db, 0, none⟩)] #[], Value.func (Fn.func 43) #[Value.pointer (some ⟨db, 0, none⟩)] #[], Value.func (Fn.func 45) #[Value.pointer (some ⟨db, 0, none⟩)] #[]] 88)).cell? ⟨w3.heap.size, 2, none⟩ = some (Value.func (Fn.func 42) #[Value.pointer (some ⟨db, 0, none⟩)] #[]) := (cell_of_heap (heap_alloc_new w3 (.cells #[Value.nilFunc, Value.func (Fn.func 41) #[Value.pointer (some ⟨db, 0, none⟩)] #[], Value.func (Fn.func 42) #[Value.pointer (some ⟨db, 0, none⟩)] #[], Value.func (Fn.func 43) #[Value.pointer (some ⟨db, 0, none⟩)] #[], Value.func (Fn.func 44) #[Value.pointer (some ⟨db, 0, none⟩)] #[], Value.func (Fn.func 45) #[Value.pointer (some ⟨db, 0, none⟩)] #[], Value.func (Fn.func 46) #[Value.pointer (some ⟨db, 0, none⟩)] #[], Value.func (Fn.func 47) #[Value.pointer (some ⟨db, 0, none⟩)] #[], Value.func (Fn.func 48) #[Value.pointer (some ⟨db, 0, none⟩)] #[], Value.func (Fn.func 43) #[Value.pointer (some ⟨db, 0, none⟩)] #[], Value.func (Fn.func 45) #[Value.pointer (some ⟨db, 0, none⟩)] #[]] 88))).trans rfl
  have z0 := oR.cell x0 (fun e => e)
  have z1 := oR.cell x1 (fun e => e)
  have z2 := oR.cell x2 (fun e => e)
  have z3 := oR.cell x3 (fun e => e)
  have z4 := oR.cell x4 (fun e => e)
  have hb4 := oR.heap (unhide HB3) (fun e => e)
  have HD4 := hide ((unhide HD3).same oR)
  have HS4 : Hid ((w3.alloc (.cells #[Value.nilFunc, Value.func (Fn.func 41) #[Value.pointer (some ⟨db, 0, none⟩)] #[], Value.func (Fn.func 42) #[Value.pointer (some ⟨db, 0, none⟩)] #[], Value.func (Fn.func 43) #[Value.pointer (some ⟨db, 0, none⟩)] #[], Value.func (Fn.func 44) #[Value.pointer (some ⟨db, 0, none⟩)] #[], Value.func (Fn.func 45) #[Value.pointer (some ⟨db, 0, none⟩)] #[], Value.func (Fn.func 46) #[Value.pointer (some ⟨db, 0, none⟩)] #[], Value.func (Fn.func 47) #[Value.pointer (some ⟨db, 0, none⟩)] #[], Value.func (Fn.func 48) #[Value.pointer (some ⟨db, 0, none⟩)] #[], Value.func (Fn.func 43) #[Value.pointer (some ⟨db, 0, none⟩)] #[], Value.func (Fn.func 45) #[Value.pointer (some ⟨db, 0, none⟩)] #[]] 88)).heap.size = w3.heap.size + 1) := by show _ = _; simp
  have HCR := hide (unhide HR _ v2 (unhide HD4).now ((unhide HD4).tabs (unhide HT)))
  have HB4 := hide hb4
  clear oR hb4 x0 x1 x2 x3 x4 HB3 HR
  go_upto_region 5 with fail
  generalize w3.alloc (.cells #[Value.nilFunc, Value.func (Fn.func 41) #[Value.pointer (some ⟨db, 0, none⟩)] #[], Value.func (Fn.func 42) #[Value.pointer (some ⟨db, 0, none⟩)] #[], Value.func (Fn.func 43) #[Value.pointer (some ⟨db, 0, none⟩)] #[], Value.func (Fn.func 44) #[Value.pointer (some ⟨db, 0, none⟩)] #[], Value.func (Fn.func 45) #[Value.pointer (some ⟨db, 0, none⟩)] #[], Value.func (Fn.func 46) #[Value.pointer (some ⟨db, 0, none⟩)] #[], Value.func (Fn.func 47) #[Value.pointer (some ⟨db, 0, none⟩)] #[], Value.func (Fn.func 48) #[Value.pointer (some ⟨db, 0, none⟩)] #[], Value.func (Fn.func 43) #[Value.pointer (some ⟨db, 0, none⟩)] #[], Value.func (Fn.func 45) #[Value.pointer (some ⟨db, 0, none⟩)] #[]] 88) = w4 at *
  have hup : ¬ (w2.heap.size = rb ∨ w2.heap.size = cb) := by
    have h1 := lt_of_block (unhide HD).rd.blk
    have h2 := lt_of_block (unhide HD).cnt
    have := unhide HS1
    omega
  cases R with
  | err er =>
    have hep := unhide HPos er rfl
    have e4 : (er == 0) = false := by rw [beq_eq_false_iff_ne]; omega
    rw [after] at HE
    go_wp2_with fail
    refine (unhide HCR).mono ?_
    rintro e w5 ⟨rfl, o5⟩
    have hb5 := o5.heap (unhide HB4) hne
    have HO5 := hide ((unhide HD4).only.trans o5 (fun _ _ e => e))
    have oI : Only (fun _ => False) w5 (w5.alloc (.cells #[.int .i64 0, .int .i64 0, .int .i64 0, .slice none 0 0, .slice none 0 0] 25)) := (Only.refl _ _).alloc _
    have hb6 := oI.heap hb5 (fun e => e)
    have HB6 := hide hb6
    have HO6 := hide ((unhide HO5).trans oI (fun _ _ e => e.elim))
    have HS6 : Hid ((∀ i, (w5.alloc (.cells #[.int .i64 0, .int .i64 0, .int .i64 0, .slice none 0 0, .slice none 0 0] 25)).frozen? ⟨w.heap.size, i, none⟩ = false) ∧ (w5.alloc (.cells #[.int .i64 0, .int .i64 0, .int .i64 0, .slice none 0 0, .slice none 0 0] 25)).cell? ⟨w.heap.size, 0, none⟩ = some (.int .i64 0) ∧ (w5.alloc (.cells #[.int .i64 0, .int .i64 0, .int .i64 0, .slice none 0 0, .slice none 0 0] 25)).cell? ⟨w.heap.size, 1, none⟩ = some (.int .i64 0) ∧ (w5.alloc (.cells #[.int .i64 0, .int .i64 0, .int .i64 0, .slice none 0 0, .slice none 0 0] 25)).cell? ⟨w.heap.size, 2, none⟩ = some (.int .i64 0) ∧ (w5.alloc (.cells #[.int .i64 0, .int .i64 0, .int .i64 0, .slice none 0 0, .slice none 0 0] 25)).cell? ⟨w.heap.size, 3, none⟩ = some (.slice none 0 0) ∧ (w5.alloc (.cells #[.int .i64 0, .int .i64 0, .int .i64 0, .slice none 0 0, .slice none 0 0] 25)).cell? ⟨w.heap.size, 4, none⟩ = some (.slice none 0 0)) := ⟨by simp [World.frozen?, hb6], cells_of5 hb6⟩
    clear o5 hb5 oI hb6 HCR hR z0 z1 z2 z3 z4
    go_upto_region 6 with fail
    generalize w5.alloc (.cells #[.int .i64 0, .int .i64 0, .int .i64 0, .slice none 0 0, .slice none 0 0] 25) = w6 at *
    obtain ⟨hf, s0, s1, s2, s3, s4⟩ := unhide HS6
    go_wp2
    obtain ⟨hb7, o7⟩ := put5 (unhide HB6) (.int .i64 0) (.int .i64 0) (.int .i64 0) (.slice none 0 0) (.slice none 0 0)
    refine bodyPost_ret (results_it2 rfl _ _ w.heap.size 0 0 0 none 0 0 none 0 0 rfl (cells_of5 hb7)) rfl ?_
    exact iOut_err (unhide HE).symm (only_set (unhide HO6) (o7.mono (fun k _ e => by omega)))
  | ok nn d ks r' c' =>
    have hrl := unhide HLen nn d ks r' c' rfl
    rw [after, fin] at HE
    go_wp2_with fail
    refine (unhide HCR).mono ?_
    rintro e w5 ⟨dv, kv, v5, rfl, hit, d5⟩
    obtain ⟨⟨da, dc, hds⟩, ka, kc, hks⟩ := hit.shapes
    simp only [It.data, It.kids] at hds hks
    subst hds
    subst hks
    have hb5 := d5.only.heap (unhide HB4) hne
    have u0 := d5.only.cell z0 hup
    have u1 := d5.only.cell z1 hup
    have HD5 := hide ((unhide HD4).trans d5)
    have hs5 := d5.only.size
    obtain ⟨⟨x0, x1, x2, x3, x4⟩, oI⟩ := boxed w5 (.int .i64 0) (.int .i64 0) (.int .i64 nn) (.slice da d.length dc) (.slice ka ks.length kc)
    have hbi := heap_alloc_new w5 (.cells #[.int .i64 0, .int .i64 0, .int .i64 nn, .slice da d.length dc, .slice ka ks.length kc] 25)
    have hb6 := oI.heap hb5 (fun e => e)
    have q0 := oI.cell u0 (fun e => e)
    have q1 := oI.cell u1 (fun e => e)
    have HD6 := hide ((unhide HD5).same oI)
    have HIT6 := hide ((ItAt.mono (R := fun k => w4.heap.size ≤ k ∧ k < w5.heap.size) (fun k hk hq => ⟨hq, hk⟩) _ hit).same oI)
    have HPd := hide (padding_any (unhide HD6).now L hL hrl)
    have HB6 := hide hb6
    have HBI := hide hbi
    have HLT : Hid (w.heap.size < w4.heap.size ∧ w4.heap.size ≤ w5.heap.size) := ⟨by have := unhide HS4; have := unhide HS3; have := unhide HS1; omega, hs5⟩
    clear d5 hb5 oI hb6 hbi HCR hR z0 z1 z2 z3 z4 hit u0 u1 x0 x1 x2 x3 x4 hs5
    generalize hdl : d.length = dl at *
    generalize hkl : ks.length = kl at *
    go_upto_region 6 with fail
    generalize w5.alloc (.cells #[.int .i64 0, .int .i64 0, .int .i64 nn, .slice da dl dc, .slice ka kl kc] 25) = w6 at *
    cases hp : pads (pad8 L - L) r' with
    | err er =>
      have hep := pads_err _ _ _ hp
      have e4 : (er == 0) = false := by rw [beq_eq_false_iff_ne]; omega
      rw [hp] at HE HPd
      clear hp
      go_wp2_with fail
      refine (unhide HPd).mono ?_
      rintro e w7 ⟨rfl, o7⟩
      have hb7 := o7.heap (unhide HB6) hne
      have HO7 := hide ((unhide HD6).only.trans o7 (fun _ _ e => e))
      have HB7 := hide hb7
      have hf : ∀ i, w7.frozen? ⟨w.heap.size, i, none⟩ = false := by simp [World.frozen?, hb7]
      obtain ⟨s0, s1, s2, s3, s4⟩ := cells_of5 hb7
      clear o7 hb7 HPd q0 q1 hdl hkl
      go_wp2
      obtain ⟨hb8, o8⟩ := put5 (unhide HB7) (.int .i64 0) (.int .i64 0) (.int .i64 0) (.slice none 0 0) (.slice none 0 0)
      refine bodyPost_ret (results_it2 rfl _ _ w.heap.size 0 0 0 none 0 0 none 0 0 rfl (cells_of5 hb8)) rfl ?_
      exact iOut_err (unhide HE).symm (only_set (unhide HO7) (o8.mono (fun k _ e => by omega)))
    | ok r2 =>
      rw [hp] at HE HPd
      clear hp
      go_wp2_with fail
      refine (unhide HPd).mono ?_
      rintro e w7 ⟨rfl, v7, d7⟩
      have hb7 := d7.only.heap (unhide HB6) hne
      have hni : ¬ (w5.heap.size = rb ∨ w5.heap.size = cb) := by
        have h1 := lt_of_block (unhide HD).rd.blk
        have h2 := lt_of_block (unhide HD).cnt
        have := unhide HLT
        omega
      have hbi := d7.only.heap (unhide HBI) hni
      have t0 := d7.only.cell q0 hup
      have t1 := d7.only.cell q1 hup
      have HD7 := hide ((unhide HD6).trans d7)
      have HIT7 := hide (ItAt.only d7.only (fun k _ hk e => by
        have h1 := lt_of_block (unhide HD).rd.blk
        have h2 := lt_of_block (unhide HD).cnt
        have := unhide HLT
        omega) _ (unhide HIT6))
      have HB7 := hide hb7
      have HBI7 := hide hbi
      obtain ⟨i0, i1, i2, i3, i4⟩ := cells_of5 hbi
      have hfi : ∀ i, w7.frozen? ⟨w5.heap.size, i, none⟩ = false := by simp [World.frozen?, hbi]
      have hn1 : ¬ w2.heap.size = w5.heap.size := by have := unhide HLT; have := unhide HS4; have := unhide HS3; omega
      have hn2 : ¬ w5.heap.size = w2.heap.size := by omega
      clear d7 hb7 hbi HPd q0 q1
      go_wp2_with fail
      go_region
      have o8 : Only (fun k => k = w5.heap.size) w7 ((w7.setCell ⟨w5.heap.size, 0, none⟩ (.int .i64 T)).setCell ⟨w5.heap.size, 1, none⟩ (.int .i64 2)).drew := (((Only.refl _ _).here 0 _).here 1 _).drew
      have hbi8 : ((w7.setCell ⟨w5.heap.size, 0, none⟩ (.int .i64 T)).setCell ⟨w5.heap.size, 1, none⟩ (.int .i64 2)).drew.heap[w5.heap.size]? = some (.cells #[.int .i64 T, .int .i64 2, .int .i64 nn, .slice da dl dc, .slice ka kl kc] 25 (0, 0)) := two_setCell (i := 1) (two_setCell (i := 0) (unhide HBI7))
      have hb8 := o8.heap (unhide HB7) (show ¬ w.heap.size = w5.heap.size by have := unhide HLT; omega)
      have HB8 := hide hb8
      have HO8 := hide o8
      have hf : ∀ i, ((w7.setCell ⟨w5.heap.size, 0, none⟩ (.int .i64 T)).setCell ⟨w5.heap.size, 1, none⟩ (.int .i64 2)).drew.frozen? ⟨w.heap.size, i, none⟩ = false := by simp [World.frozen?, hb8]
      have HF := hide hf
      have HC8 := hide (cells_of5 hb8)
      have HC9 := hide (cells_of5 hbi8)
      clear o8 hbi8 hb8 hf i0 i1 i2 i3 i4 hfi t0 t1
      generalize ((w7.setCell ⟨w5.heap.size, 0, none⟩ (.int .i64 T)).setCell ⟨w5.heap.size, 1, none⟩ (.int .i64 2)).drew = w8 at *
      have hf := unhide HF
      obtain ⟨s0, s1, s2, s3, s4⟩ := unhide HC8
      obtain ⟨i0, i1, i2, i3, i4⟩ := unhide HC9
      have hn3 : ¬ w5.heap.size = w.heap.size := by have := unhide HLT; omega
      go_wp2
      obtain ⟨hb9, o9⟩ := put5 (unhide HB8) (.int .i64 T) (.int .i64 2) (.int .i64 nn) (.slice da dl dc) (.slice ka kl kc)
      refine bodyPost_ret (results_it2 rfl _ _ w.heap.size T 2 nn da dl dc ka kl kc rfl (cells_of5 hb9)) rfl ?_
      have hlt := unhide HLT
      refine iOut_ok (it := .mk T 2 nn d ks) (unhide HE).symm ?_ ((unhide HD).set (unhide HD7) (((unhide HO8).mono (T := fun k => w.heap.size ≤ k) (fun k _ e => by omega)).trans o9 (fun k _ e => by omega)))
      have hi := ItAt.only o9 (fun k _ hk e => by omega) _ (ItAt.only (unhide HO8) (fun k _ hk e => by omega) _ (unhide HIT7))
      exact ItAt.mono (fun k _ hk => by omega) (m + 1) hi

set_option maxHeartbeats 4000000 in
set_option maxRecDepth 100000 in
theorem item_3 (h : DcAt w db rb cb depth v r c) (hT : Tabs w) (m T L : Nat) (R : RB)
    (HH : Hid (∀ W, DcAt W db rb cb depth v r c → Calls Tryd.prog 40 #[.pointer (some ⟨db, 0, none⟩)] W (HOut W db rb cb depth v r c (.ok T 3 L))))
    (HR : Hid (∀ W v', DcAt W db rb cb depth v' (r.drop 8) (c + 1) → Tabs W → Calls Tryd.prog 43 #[.pointer (some ⟨db, 0, none⟩), .int .i64 L] W (ROut W db rb cb depth v' m R)))
    (hpos : ∀ er, R = .err er → 0 < er) (hlen : ∀ n d ks r' c', R = .ok n d ks r' c' → r'.length ≤ 140737488355328) (hL : L ≤ 140737488355320) :
    Calls Tryd.prog 25 #[.pointer (some ⟨db, 0, none⟩)] w (IOut w db rb cb depth v m (after T 3 L R)) := by
  obtain ⟨w1, hw1, h1, hb, o1⟩ := zeroed h
  obtain ⟨X, hE⟩ : ∃ X, after T 3 L R = X := ⟨_, rfl⟩
  rw [hE]
  have HE := hide hE
  have HD := hide h
  have HB := hide hb
  have HO := hide o1
  have HT := hide hT
  have HC := hide (unhide HH _ h1)
  have HS1 : Hid (w1.heap.size = w.heap.size + 1) := by show _ = _; rw [hw1]; simp
  have hne : ¬ (w.heap.size = rb ∨ w.heap.size = cb) := by
    have h1 := lt_of_block h.rd.blk
    have h2 := lt_of_block h.cnt
    omega
  have HPos := hide hpos
  have HLen := hide hlen
  clear h h1 hE hb o1 HH hT hpos hlen
  go_enter Tryd.func25, Tryd.ntmps25
  subst hw1
  go_wp2_with fail
  refine (unhide HC).mono ?_
  rintro e w2 ⟨rfl, v2, d2⟩
  generalize w.alloc (.cells #[.int .i64 0, .int .i64 0, .int .i64 0, .slice none 0 0, .slice none 0 0] 25) = w1 at *
  have hs2 := d2.only.size
  have HD2 := hide (((unhide HD).to (unhide HO)).trans d2)
  have hb2 := d2.only.heap (unhide HB) hne
  -- the box of the head, the row of readers
  obtain ⟨⟨x0, x1, x2, x3, x4⟩, oA⟩ := boxed w2 (.int .i64 T) (.int .i64 3) (.int .i64 0) (.slice none 0 0) (.slice none 0 0)
  have HD3 := hide ((unhide HD2).same oA)
  have hb3 := oA.heap hb2 (fun e => e)
  have HS3 : Hid ((w2.alloc (.cells #[.int .i64 T, .int .i64 3, .int .i64 0, .slice none 0 0, .slice none 0 0] 25)).heap.size = w2.heap.size + 1) := by show _ = _; simp
  have HB3 := hide hb3
  clear d2 hb2 oA hb3 HC
  go_upto_region 2 with fail
  generalize w2.alloc (.cells #[.int .i64 T, .int .i64 3, .int .i64 0, .slice none 0 0, .slice none 0 0] 25) = w3 at *
  have oR : Only (fun _ => False) w3 (w3.alloc (.cells #[Value.nilFunc, Value.func (Fn.func 41) #[Value.pointer (some ⟨db, 0, none⟩)] #[], Value.func (Fn.func 42) #[Value.pointer (some ⟨db, 0, none⟩)] #[], Value.func (Fn.func 43) #[Value.pointer (some ⟨db, 0, none⟩)] #[], Value.func (Fn.func 44) #[Value.pointer (some ⟨db, 0, none⟩)] #[], Value.func (Fn.func 45) #[Value.pointer (some ⟨db, 0, none⟩)] #[], Value.func (Fn.func 46) #[Value.pointer (some ⟨db, 0, none⟩)] #[], Value.func (Fn.func 47) #[Value.pointer (some ⟨db, 0, none⟩)] #[], Value.func (Fn.func 48) #[Value.pointer (some ⟨db, 0, none⟩)] #[], Value.func (Fn.func 43) #[Value.pointer (some ⟨db, 0, none⟩)] #[], Value.func (Fn.func 45) #[Value.pointer (some ⟨db, 0, none⟩)] #[]] 88)) := (Only.refl _ _).alloc _
  have hR : (w3.alloc (.cells #[Value.nilFunc, Value.func (Fn.func 41) #[Value.pointer (some ⟨db, 0, none⟩)] #[], Value.func (Fn.func 42) #[Value.pointer (some ⟨db, 0, none⟩)] #[], Value.func (Fn.func 43) #[Value.pointer (some ⟨db, 0, none⟩)] #[], Value.func (Fn.func 44) #[Value.pointer (some ⟨db, 0, none⟩)] #[], Value.func (Fn.func 45) #[Value.pointer (some ⟨db, 0, none⟩)] #[], Value.func (Fn.func 46) #[Value.pointer (some ⟨db, 0, none⟩)] #[], Value.func (Fn.func 47) #[Value.pointer (some ⟨db, 0, none⟩)] #[], Value.func (Fn.func 48) #[Value.pointer (some ⟨db, 0, none⟩)] #[], Value.func (Fn.func 43) #[Value.pointer (some ⟨db, 0, none⟩)] #[], Value.func (Fn.func 45) #[Value.pointer (some ⟨db, 0, none⟩)] #[]] 88)).cell? ⟨w3.heap.size, 3, none⟩ = some (Value.func (Fn.func 43) #[Value.pointer (some ⟨db, 0, none⟩)] #[]) := (cell_of_heap (heap_alloc_new w3 (.cells #[Value.nilFunc, Value.func (Fn.func 41) #[Value.pointer (some ⟨db, 0, none⟩)] #[], Value.func (Fn.func 42) #[Value.pointer (some ⟨db, 0, none⟩)] #[], Value.func (Fn.func 43) #[Value.pointer (some ⟨db, 0, none⟩)] #[], Value.func (Fn.func 44) #[Value.pointer (some ⟨db, 0, none⟩)] #[], Value.func (Fn.func 45) #[Value.pointer (some ⟨db, 0, none⟩)] #[], Value.func (Fn.func 46) #[Value.pointer (some ⟨db, 0, none⟩)] #[], Value.func (Fn.func 47) #[Value.pointer (some ⟨db, 0, none⟩)] #[], Value.func (Fn.func 48) #[Value.pointer (some ⟨db, 0, none⟩)] #[], Value.func (Fn.func 43) #[Value.pointer (some ⟨db, 0, none⟩)] #[], Value.func (Fn.func 45) #[Value.pointer (some ⟨db, 0, none⟩)] #[]] 88))).trans rfl
  have z0 := oR.cell x0 (fun e => e)
  have z1 := oR.cell x1 (fun e => e)
  have z2 := oR.cell x2 (fun e => e)
  have z3 := oR.cell x3 (fun e => e)
  have z4 := oR.cell x4 (fun e => e)
  have hb4 := oR.heap (unhide HB3) (fun e => e)
  have HD4 := hide ((unhide HD3).same oR)
  have HS4 : Hid ((w3.alloc (.cells #[Value.nilFunc, Value.func (Fn.func 41) #[Value.pointer (some ⟨db, 0, none⟩)] #[], Value.func (Fn.func 42) #[Value.pointer (some ⟨db, 0, none⟩)] #[], Value.func (Fn.func 43) #[Value.pointer (some ⟨db, 0, none⟩)] #[], Value.func (Fn.func 44) #[Value.pointer (some ⟨db, 0, none⟩)] #[], Value.func (Fn.func 45) #[Value.pointer (some ⟨db, 0, none⟩)] #[], Value.func (Fn.func 46) #[Value.pointer (some ⟨db, 0, none⟩)] #[], Value.func (Fn.func 47) #[Value.pointer (some ⟨db, 0, none⟩)] #[], Value.func (Fn.func 48) #[Value.pointer (some ⟨db, 0, none⟩)] #[], Value.func (Fn.func 43) #[Value.pointer (some ⟨db, 0, none⟩)] #[], Value.func (Fn.func 45) #[Value.pointer (some ⟨db, 0, none⟩)] #[]] 88)).heap.size = w3.heap.size + 1) := by show _ = _; simp
  have HCR := hide (unhide HR _ v2 (unhide HD4).now ((unhide HD4).tabs (unhide HT)))
  have HB4 := hide hb4
  clear oR hb4 x0 x1 x2 x3 x4 HB3 HR
  go_upto_region 5 with fail
  generalize w3.alloc (.cells #[Value.nilFunc, Value.func (Fn.func 41) #[Value.pointer (some ⟨db, 0, none⟩)] #[], Value.func (Fn.func 42) #[Value.pointer (some ⟨db, 0, none⟩)] #[], Value.func (Fn.func 43) #[Value.pointer (some ⟨db, 0, none⟩)] #[], Value.func (Fn.func 44) #[Value.pointer (some ⟨db, 0, none⟩)] #[], Value.func (Fn.func 45) #[Value.pointer (some ⟨db, 0, none⟩)] #[], Value.func (Fn.func 46) #[Value.pointer (some ⟨db, 0, none⟩)] #[], Value.func (Fn.func 47) #[Value.pointer (some ⟨db, 0, none⟩)] #[], Value.func (Fn.func 48) #[Value.pointer (some ⟨db, 0, none⟩)] #[], Value.func (Fn.func 43) #[Value.pointer (some ⟨db, 0, none⟩)] #[], Value.func (Fn.func 45) #[Value.pointer (some ⟨db, 0, none⟩)] #[]] 88) = w4 at *
  have hup : ¬ (w2.heap.size = rb ∨ w2.heap.size = cb) := by
    have h1 := lt_of_block (unhide HD).rd.blk
    have h2 := lt_of_block (unhide HD).cnt
    have := unhide HS1
    omega
  cases R with
  | err er =>
    have hep := unhide HPos er rfl
    have e4 : (er == 0) = false := by rw [beq_eq_false_iff_ne]; omega
    rw [after] at HE
    go_wp2_with fail
    refine (unhide HCR).mono ?_
    rintro e w5 ⟨rfl, o5⟩
    have hb5 := o5.heap (unhide HB4) hne
    have HO5 := hide ((unhide HD4).only.trans o5 (fun _ _ e => e))
    have oI : Only (fun _ => False) w5 (w5.alloc (.cells #[.int .i64 0, .int .i64 0, .int .i64 0, .slice none 0 0, .slice none 0 0] 25)) := (Only.refl _ _).alloc _
    have hb6 := oI.heap hb5 (fun e => e)
    have HB6 := hide hb6
    have HO6 := hide ((unhide HO5).trans oI (fun _ _ e => e.elim))
    have HS6 : Hid ((∀ i, (w5.alloc (.cells #[.int .i64 0, .int .i64 0, .int .i64 0, .slice none 0 0, .slice none 0 0] 25)).frozen? ⟨w.heap.size, i, none⟩ = false) ∧ (w5.alloc (.cells #[.int .i64 0, .int .i64 0, .int .i64 0, .slice none 0 0, .slice none 0 0] 25)).cell? ⟨w.heap.size, 0, none⟩ = some (.int .i64 0) ∧ (w5.alloc (.cells #[.int .i64 0, .int .i64 0, .int .i64 0, .slice none 0 0, .slice none 0 0] 25)).cell? ⟨w.heap.size, 1, none⟩ = some (.int .i64 0) ∧ (w5.alloc (.cells #[.int .i64 0, .int .i64 0, .int .i64 0, .slice none 0 0, .slice none 0 0] 25)).cell? ⟨w.heap.size, 2, none⟩ = some (.int .i64 0) ∧ (w5.alloc (.cells #[.int .i64 0, .int .i64 0, .int .i64 0, .slice none 0 0, .slice none 0 0] 25)).cell? ⟨w.heap.size, 3, none⟩ = some (.slice none 0 0) ∧ (w5.alloc (.cells #[.int .i64 0, .int .i64 0, .int .i64 0, .slice none 0 0, .slice none 0 0] 25)).cell? ⟨w.heap.size, 4, none⟩ = some (.slice none 0 0)) := ⟨by simp [World.frozen?, hb6], cells_of5 hb6⟩
    clear o5 hb5 oI hb6 HCR hR z0 z1 z2 z3 z4
    go_upto_region 6 with fail
    generalize w5.alloc (.cells #[.int .i64 0, .int .i64 0, .int .i64 0, .slice none 0 0, .slice none 0 0] 25) = w6 at *
    obtain ⟨hf, s0, s1, s2, s3, s4⟩ := unhide HS6
    go_wp2
    obtain ⟨hb7, o7⟩ := put5 (unhide HB6) (.int .i64 0) (.int .i64 0) (.int .i64 0) (.slice none 0 0) (.slice none 0 0)
    refine bodyPost_ret (results_it2 rfl _ _ w.heap.size 0 0 0 none 0 0 none 0 0 rfl (cells_of5 hb7)) rfl ?_
    exact iOut_err (unhide HE).symm (only_set (unhide HO6) (o7.mono (fun k _ e => by omega)))
  | ok nn d ks r' c' =>
    have hrl := unhide HLen nn d ks r' c' rfl
    rw [after, fin] at HE
    go_wp2_with fail
    refine (unhide HCR).mono ?_
    rintro e w5 ⟨dv, kv, v5, rfl, hit, d5⟩
    obtain ⟨⟨da, dc, hds⟩, ka, kc, hks⟩ := hit.shapes
    simp only [It.data, It.kids] at hds hks
    subst hds
    subst hks
    have hb5 := d5.only.heap (unhide HB4) hne
    have u0 := d5.only.cell z0 hup
    have u1 := d5.only.cell z1 hup
    have HD5 := hide ((unhide HD4).trans d5)
    have hs5 := d5.only.size
    obtain ⟨⟨x0, x1, x2, x3, x4⟩, oI⟩ := boxed w5 (.int .i64 0) (.int .i64 0) (.int .i64 nn) (.slice da d.length dc) (.slice ka ks.length kc)
    have hbi := heap_alloc_new w5 (.cells #[.int .i64 0, .int .i64 0, .int .i64 nn, .slice da d.length dc, .slice ka ks.length kc] 25)
    have hb6 := oI.heap hb5 (fun e => e)
    have q0 := oI.cell u0 (fun e => e)
    have q1 := oI.cell u1 (fun e => e)
    have HD6 := hide ((unhide HD5).same oI)
    have HIT6 := hide ((ItAt.mono (R := fun k => w4.heap.size ≤ k ∧ k < w5.heap.size) (fun k hk hq => ⟨hq, hk⟩) _ hit).same oI)
    have HPd := hide (padding_any (unhide HD6).now L hL hrl)
    have HB6 := hide hb6
    have HBI := hide hbi
    have HLT : Hid (w.heap.size < w4.heap.size ∧ w4.heap.size ≤ w5.heap.size) := ⟨by have := unhide HS4; have := unhide HS3; have := unhide HS1; omega, hs5⟩
    clear d5 hb5 oI hb6 hbi HCR hR z0 z1 z2 z3 z4 hit u0 u1 x0 x1 x2 x3 x4 hs5
    generalize hdl : d.length = dl at *
    generalize hkl : ks.length = kl at *
    go_upto_region 6 with fail
    generalize w5.alloc (.cells #[.int .i64 0, .int .i64 0, .int .i64 nn, .slice da dl dc, .slice ka kl kc] 25) = w6 at *
    cases hp : pads (pad8 L - L) r' with
    | err er =>
      have hep := pads_err _ _ _ hp
      have e4 : (er == 0) = false := by rw [beq_eq_false_iff_ne]; omega
      rw [hp] at HE HPd
      clear hp
      go_wp2_with fail
      refine (unhide HPd).mono ?_
      rintro e w7 ⟨rfl, o7⟩
      have hb7 := o7.heap (unhide HB6) hne
      have HO7 := hide ((unhide HD6).only.trans o7 (fun _ _ e => e))
      have HB7 := hide hb7
      have hf : ∀ i, w7.frozen? ⟨w.heap.size, i, none⟩ = false := by simp [World.frozen?, hb7]
      obtain ⟨s0, s1, s2, s3, s4⟩ := cells_of5 hb7
      clear o7 hb7 HPd q0 q1 hdl hkl
      go_wp2
      obtain ⟨hb8, o8⟩ := put5 (unhide HB7) (.int .i64 0) (.int .i64 0) (.int .i64 0) (.slice none 0 0) (.slice none 0 0)
      refine bodyPost_ret (results_it2 rfl _ _ w.heap.size 0 0 0 none 0 0 none 0 0 rfl (cells_of5 hb8)) rfl ?_
      exact iOut_err (unhide HE).symm (only_set (unhide HO7) (o8.mono (fun k _ e => by omega)))
    | ok r2 =>
      rw [hp] at HE HPd
      clear hp
      go_wp2_with fail
      refine (unhide HPd).mono ?_
      rintro e w7 ⟨rfl, v7, d7⟩
      have hb7 := d7.only.heap (unhide HB6) hne
      have hni : ¬ (w5.heap.size = rb ∨ w5.heap.size = cb) := by
        have h1 := lt_of_block (unhide HD).rd.blk
        have h2 := lt_of_block (unhide HD).cnt
        have := unhide HLT
        omega
      have hbi := d7.only.heap (unhide HBI) hni
      have t0 := d7.only.cell q0 hup
      have t1 := d7.only.cell q1 hup
      have HD7 := hide ((unhide HD6).trans d7)
      have HIT7 := hide (ItAt.only d7.only (fun k _ hk e => by
        have h1 := lt_of_block (unhide HD).rd.blk
        have h2 := lt_of_block (unhide HD).cnt
        have := unhide HLT
        omega) _ (unhide HIT6))
      have HB7 := hide hb7
      have HBI7 := hide hbi
      obtain ⟨i0, i1, i2, i3, i4⟩ := cells_of5 hbi
      have hfi : ∀ i, w7.frozen? ⟨w5.heap.size, i, none⟩ = false := by simp [World.frozen?, hbi]
      have hn1 : ¬ w2.heap.size = w5.heap.size := by have := unhide HLT; have := unhide HS4; have := unhide HS3; omega
      have hn2 : ¬ w5.heap.size = w2.heap.size := by omega
      clear d7 hb7 hbi HPd q0 q1
      go_wp2_with fail
      go_region
      have o8 : Only (fun k => k = w5.heap.size) w7 ((w7.setCell ⟨w5.heap.size, 0, none⟩ (.int .i64 T)).setCell ⟨w5.heap.size, 1, none⟩ (.int .i64 3)).drew := (((Only.refl _ _).here 0 _).here 1 _).drew
      have hbi8 : ((w7.setCell ⟨w5.heap.size, 0, none⟩ (.int .i64 T)).setCell ⟨w5.heap.size, 1, none⟩ (.int .i64 3)).drew.heap[w5.heap.size]? = some (.cells #[.int .i64 T, .int .i64 3, .int .i64 nn, .slice da dl dc, .slice ka kl kc] 25 (0, 0)) := two_setCell (i := 1) (two_setCell (i := 0) (unhide HBI7))
      have hb8 := o8.heap (unhide HB7) (show ¬ w.heap.size = w5.heap.size by have := unhide HLT; omega)
      have HB8 := hide hb8
      have HO8 := hide o8
      have hf : ∀ i, ((w7.setCell ⟨w5.heap.size, 0, none⟩ (.int .i64 T)).setCell ⟨w5.heap.size, 1, none⟩ (.int .i64 3)).drew.frozen? ⟨w.heap.size, i, none⟩ = false := by simp [World.frozen?, hb8]
      have HF := hide hf
      have HC8 := hide (cells_of5 hb8)
      have HC9 := hide (cells_of5 hbi8)
      clear o8 hbi8 hb8 hf i0 i1 i2 i3 i4 hfi t0 t1
      generalize ((w7.setCell ⟨w5.heap.size, 0, none⟩ (.int .i64 T)).setCell ⟨w5.heap.size, 1, none⟩ (.int .i64 3)).drew = w8 at *
      have hf := unhide HF
      obtain ⟨s0, s1, s2, s3, s4⟩ := unhide HC8
      obtain ⟨i0, i1, i2, i3, i4⟩ := unhide HC9
      have hn3 : ¬ w5.heap.size = w.heap.size := by have := unhide HLT; omega
      go_wp2
      obtain ⟨hb9, o9⟩ := put5 (unhide HB8) (.int .i64 T) (.int .i64 3) (.int .i64 nn) (.slice da dl dc) (.slice ka kl kc)
      refine bodyPost_ret (results_it2 rfl _ _ w.heap.size T 3 nn da dl dc ka kl kc rfl (cells_of5 hb9)) rfl ?_
      have hlt := unhide HLT
      refine iOut_ok (it := .mk T 3 nn d ks) (unhide HE).symm ?_ ((unhide HD).set (unhide HD7) (((unhide HO8).mono (T := fun k => w.heap.size ≤ k) (fun k _ e => by omega)).trans o9 (fun k _ e => by omega)))
      have hi := ItAt.only o9 (fun k _ hk e => by omega) _ (ItAt.only (unhide HO8) (fun k _ hk e => by omega) _ (unhide HIT7))
      exact ItAt.mono (fun k _ hk => by omega) (m + 1) hi

set_option maxHeartbeats 4000000 in
set_option maxRecDepth 100000 in
theorem item_4 (h : DcAt w db rb cb depth v r c) (hT : Tabs w) (m T L : Nat) (R : RB)
    (HH : Hid (∀ W, DcAt W db rb cb depth v r c → Calls Tryd.prog 40 #[.pointer (some ⟨db, 0, none⟩)] W (HOut W db rb cb depth v r c (.ok T 4 L))))
    (HR : Hid (∀ W v', DcAt W db rb cb depth v' (r.drop 8) (c + 1) → Tabs W → Calls Tryd.prog 44 #[.pointer (some ⟨db, 0, none⟩), .int .i64 L] W (ROut W db rb cb depth v' m R)))
    (hpos : ∀ er, R = .err er → 0 < er) (hlen : ∀ n d ks r' c', R = .ok n d ks r' c' → r'.length ≤ 140737488355328) (hL : L ≤ 140737488355320) :
    Calls Tryd.prog 25 #[.pointer (some ⟨db, 0, none⟩)] w (IOut w db rb cb depth v m (after T 4 L R)) := by
  obtain ⟨w1, hw1, h1, hb, o1⟩ := zeroed h
  obtain ⟨X, hE⟩ : ∃ X, after T 4 L R = X := ⟨_, rfl⟩
  rw [hE]
  have HE := hide hE
  have HD := hide h
  have HB := hide hb
  have HO := hide o1
  have HT := hide hT
  have HC := hide (unhide HH _ h1)
  have HS1 : Hid (w1.heap.size = w.heap.size + 1) := by show _ = _; rw [hw1]; simp
  have hne : ¬ (w.heap.size = rb ∨ w.heap.size = cb) := by
    have h1 := lt_of_block h.rd.blk
    have h2 := lt_of_block h.cnt
    omega
  have HPos := hide hpos
  have HLen := hide hlen
  clear h h1 hE hb o1 HH hT hpos hlen
  go_enter Tryd.func25, Tryd.ntmps25
  subst hw1
  go_wp2_with fail
  refine (unhide HC).mono ?_
  rintro e w2 ⟨rfl, v2, d2⟩
  generalize w.alloc (.cells #[.int .i64 0, .int .i64 0, .int .i64 0, .slice none 0 0, .slice none 0 0] 25) = w1 at *
  have hs2 := d2.only.size
  have HD2 := hide (((unhide HD).to (unhide HO)).trans d2)
  have hb2 := d2.only.heap (unhide HB) hne
  -- the box of the head, the row of readers
  obtain ⟨⟨x0, x1, x2, x3, x4⟩, oA⟩ := boxed w2 (.int .i64 T) (.int .i64 4) (.int .i64 0) (.slice none 0 0) (.slice none 0 0)
  have HD3 := hide ((unhide HD2).same oA)
  have hb3 := oA.heap hb2 (fun e => e)
  have HS3 : Hid ((w2.alloc (.cells #[.int .i64 T, .int .i64 4, .int .i64 0, .slice none 0 0, .slice none 0 0] 25)).heap.size = w2.heap.size + 1) := by show _ = _; simp
  have HB3 := hide hb3
  clear d2 hb2 oA hb3 HC
  go_upto_region 2 with fail
  generalize w2.alloc (.cells #[.int .i64 T, .int .i64 4, .int .i64 0, .slice none 0 0, .slice none 0 0] 25) = w3 at *
  have oR : Only (fun _ => False) w3 (w3.alloc (.cells #[Value.nilFunc, Value.func (Fn.func 41) #[Value.pointer (some ⟨db, 0, none⟩)] #[], Value.func (Fn.func 42) #[Value.pointer (some ⟨db, 0, none⟩)] #[], Value.func (Fn.func 43) #[Value.pointer (some ⟨db, 0, none⟩)] #[], Value.func (Fn.func 44) #[Value.pointer (some ⟨db, 0, none⟩)] #[], Value.func (Fn.func 45) #[Value.pointer (some ⟨db, 0, none⟩)] #[], Value.func (Fn.func 46) #[Value.pointer (some ⟨db, 0, none⟩)] #[], Value.func (Fn.func 47) #[Value.pointer (some ⟨db, 0, none⟩)] #[], Value.func (Fn.func 48) #[Value.pointer (some ⟨db, 0, none⟩)] #[], Value.func (Fn.func 43) #[Value.pointer (some ⟨db, 0, none⟩)] #[], Value.func (Fn.func 45) #[Value.pointer (some ⟨db, 0, none⟩)] #[]] 88)) := (Only.refl _ _).alloc _
  have hR : (w3.alloc (.cells #[Value.nilFunc, Value.func (Fn.func 41) #[Value.pointer (some ⟨db, 0, none⟩)] #[], Value.func (Fn.func 42) #[Value.pointer (some ⟨db, 0, none⟩)] #[], Value.func (Fn.func 43) #[Value.pointer (some ⟨db, 0, none⟩)] #[], Value.func (Fn.func 44) #[Value.pointer (some ⟨db, 0, none⟩)] #[], Value.func (Fn.func 45) #[Value.pointer (some ⟨db, 0, none⟩)] #[], Value.func (Fn.func 46) #[Value.pointer (some ⟨db, 0, none⟩)] #[], Value.func (Fn.func 47) #[Value.pointer (some ⟨db, 0, none⟩)] #[], Value.func (Fn.func 48) #[Value.pointer (some ⟨db, 0, none⟩)] #[], Value.func (Fn.func 43) #[Value.pointer (some ⟨db, 0, none⟩)] #[], Value.func (Fn.func 45) #[Value.pointer (some ⟨db, 0, none⟩)] #[]] 88)).cell? ⟨w3.heap.size, 4, none⟩ = some (Value.func (Fn.func 44) #[Value.pointer (some ⟨db, 0, none⟩)] #[]) := (cell_of_heap (heap_alloc_new w3 (.cells #[Value.nilFunc, Value.func (Fn.func 41) #[Value.pointer (some ⟨db, 0, none⟩)] #[], Value.func (Fn.func 42) #[Value.pointer (some ⟨db, 0, none⟩)] #[], Value.func (Fn.func 43) #[Value.pointer (some ⟨db, 0, none⟩)] #[], Value.func (Fn.func 44) #[Value.pointer (some ⟨db, 0, none⟩)] #[], Value.func (Fn.func 45) #[Value.pointer (some ⟨db, 0, none⟩)] #[], Value.func (Fn.func 46) #[Value.pointer (some ⟨db, 0, none⟩)] #[], Value.func (Fn.func 47) #[Value.pointer (some ⟨db, 0, none⟩)] #[], Value.func (Fn.func 48) #[Value.pointer (some ⟨db, 0, none⟩)] #[], Value.func (Fn.func 43) #[Value.pointer (some ⟨db, 0, none⟩)] #[], Value.func (Fn.func 45) #[Value.pointer (some ⟨db, 0, none⟩)] #[]] 88))).trans rfl
  have z0 := oR.cell x0 (fun e => e)
  have z1 := oR.cell x1 (fun e => e)
  have z2 := oR.cell x2 (fun e => e)
  have z3 := oR.cell x3 (fun e => e)
  have z4 := oR.cell x4 (fun e => e)
  have hb4 := oR.heap (unhide HB3) (fun e => e)
  have HD4 := hide ((unhide HD3).same oR)
  have HS4 : Hid ((w3.alloc (.cells #[Value.nilFunc, Value.func (Fn.func 41) #[Value.pointer (some ⟨db, 0, none⟩)] #[], Value.func (Fn.func 42) #[Value.pointer (some ⟨db, 0, none⟩)] #[], Value.func (Fn.func 43) #[Value.pointer (some ⟨db, 0, none⟩)] #[], Value.func (Fn.func 44) #[Value.pointer (some ⟨db, 0, none⟩)] #[], Value.func (Fn.func 45) #[Value.pointer (some ⟨db, 0, none⟩)] #[], Value.func (Fn.func 46) #[Value.pointer (some ⟨db, 0, none⟩)] #[], Value.func (Fn.func 47) #[Value.pointer (some ⟨db, 0, none⟩)] #[], Value.func (Fn.func 48) #[Value.pointer (some ⟨db, 0, none⟩)] #[], Value.func (Fn.func 43) #[Value.pointer (some ⟨db, 0, none⟩)] #[], Value.func (Fn.func 45) #[Value.pointer (some ⟨db, 0, none⟩)] #[]] 88)).heap.size = w3.heap.size + 1) := by show _ = _; simp
  have HCR := hide (unhide HR _ v2 (unhide HD4).now ((unhide HD4).tabs (unhide HT)))
  have HB4 := hide hb4
  clear oR hb4 x0 x1 x2 x3 x4 HB3 HR
  go_upto_region 5 with fail
  generalize w3.alloc (.cells #[Value.nilFunc, Value.func (Fn.func 41) #[Value.pointer (some ⟨db, 0, none⟩)] #[], Value.func (Fn.func 42) #[Value.pointer (some ⟨db, 0, none⟩)] #[], Value.func (Fn.func 43) #[Value.pointer (some ⟨db, 0, none⟩)] #[], Value.func (Fn.func 44) #[Value.pointer (some ⟨db, 0, none⟩)] #[], Value.func (Fn.func 45) #[Value.pointer (some ⟨db, 0, none⟩)] #[], Value.func (Fn.func 46) #[Value.pointer (some ⟨db, 0, none⟩)] #[], Value.func (Fn.func 47) #[Value.pointer (some ⟨db, 0, none⟩)] #[], Value.func (Fn.func 48) #[Value.pointer (some ⟨db, 0, none⟩)] #[], Value.func (Fn.func 43) #[Value.pointer (some ⟨db, 0, none⟩)] #[], Value.func (Fn.func 45) #[Value.pointer (some ⟨db, 0, none⟩)] #[]] 88) = w4 at *
  have hup : ¬ (w2.heap.size = rb ∨ w2.heap.size = cb) := by
    have h1 := lt_of_block (unhide HD).rd.blk
    have h2 := lt_of_block (unhide HD).cnt
    have := unhide HS1
    omega
  cases R with
  | err er =>
    have hep := unhide HPos er rfl
    have e4 : (er == 0) = false := by rw [beq_eq_false_iff_ne]; omega
    rw [after] at HE
    go_wp2_with fail
    refine (unhide HCR).mono ?_
    rintro e w5 ⟨rfl, o5⟩
    have hb5 := o5.heap (unhide HB4) hne
    have HO5 := hide ((unhide HD4).only.trans o5 (fun _ _ e => e))
    have oI : Only (fun _ => False) w5 (w5.alloc (.cells #[.int .i64 0, .int .i64 0, .int .i64 0, .slice none 0 0, .slice none 0 0] 25)) := (Only.refl _ _).alloc _
    have hb6 := oI.heap hb5 (fun e => e)
    have HB6 := hide hb6
    have HO6 := hide ((unhide HO5).trans oI (fun _ _ e => e.elim))
    have HS6 : Hid ((∀ i, (w5.alloc (.cells #[.int .i64 0, .int .i64 0, .int .i64 0, .slice none 0 0, .slice none 0 0] 25)).frozen? ⟨w.heap.size, i, none⟩ = false) ∧ (w5.alloc (.cells #[.int .i64 0, .int .i64 0, .int .i64 0, .slice none 0 0, .slice none 0 0] 25)).cell? ⟨w.heap.size, 0, none⟩ = some (.int .i64 0) ∧ (w5.alloc (.cells #[.int .i64 0, .int .i64 0, .int .i64 0, .slice none 0 0, .slice none 0 0] 25)).cell? ⟨w.heap.size, 1, none⟩ = some (.int .i64 0) ∧ (w5.alloc (.cells #[.int .i64 0, .int .i64 0, .int .i64 0, .slice none 0 0, .slice none 0 0] 25)).cell? ⟨w.heap.size, 2, none⟩ = some (.int .i64 0) ∧ (w5.alloc (.cells #[.int .i64 0, .int .i64 0, .int .i64 0, .slice none 0 0, .slice none 0 0] 25)).cell? ⟨w.heap.size, 3, none⟩ = some (.slice none 0 0) ∧ (w5.alloc (.cells #[.int .i64 0, .int .i64 0, .int .i64 0, .slice none 0 0, .slice none 0 0] 25)).cell? ⟨w.heap.size, 4, none⟩ = some (.slice none 0 0)) := ⟨by simp [World.frozen?, hb6], cells_of5 hb6⟩
    clear o5 hb5 oI hb6 HCR hR z0 z1 z2 z3 z4
    go_upto_region 6 with fail
    generalize w5.alloc (.cells #[.int .i64 0, .int .i64 0, .int .i64 0, .slice none 0 0, .slice none 0 0] 25) = w6 at *
    obtain ⟨hf, s0, s1, s2, s3, s4⟩ := unhide HS6
    go_wp2
    obtain ⟨hb7, o7⟩ := put5 (unhide HB6) (.int .i64 0) (.int .i64 0) (.int .i64 0) (.slice none 0 0) (.slice none 0 0)
    refine bodyPost_ret (results_it2 rfl _ _ w.heap.size 0 0 0 none 0 0 none 0 0 rfl (cells_of5 hb7)) rfl ?_
    exact iOut_err (unhide HE).symm (only_set (unhide HO6) (o7.mono (fun k _ e => by omega)))
  | ok nn d ks r' c' =>
    have hrl := unhide HLen nn d ks r' c' rfl
    rw [after, fin] at HE
    go_wp2_with fail
    refine (unhide HCR).mono ?_
    rintro e w5 ⟨dv, kv, v5, rfl, hit, d5⟩
    obtain ⟨⟨da, dc, hds⟩, ka, kc, hks⟩ := hit.shapes
    simp only [It.data, It.kids] at hds hks
    subst hds
    subst hks
    have hb5 := d5.only.heap (unhide HB4) hne
    have u0 := d5.only.cell z0 hup
    have u1 := d5.only.cell z1 hup
    have HD5 := hide ((unhide HD4).trans d5)
    have hs5 := d5.only.size
    obtain ⟨⟨x0, x1, x2, x3, x4⟩, oI⟩ := boxed w5 (.int .i64 0) (.int .i64 0) (.int .i64 nn) (.slice da d.length dc) (.slice ka ks.length kc)
    have hbi := heap_alloc_new w5 (.cells #[.int .i64 0, .int .i64 0, .int .i64 nn, .slice da d.length dc, .slice ka ks.length kc] 25)
    have hb6 := oI.heap hb5 (fun e => e)
    have q0 := oI.cell u0 (fun e => e)
    have q1 := oI.cell u1 (fun e => e)
    have HD6 := hide ((unhide HD5).same oI)
    have HIT6 := hide ((ItAt.mono (R := fun k => w4.heap.size ≤ k ∧ k < w5.heap.size) (fun k hk hq => ⟨hq, hk⟩) _ hit).same oI)
    have HPd := hide (padding_any (unhide HD6).now L hL hrl)
    have HB6 := hide hb6
    have HBI := hide hbi
    have HLT : Hid (w.heap.size < w4.heap.size ∧ w4.heap.size ≤ w5.heap.size) := ⟨by have := unhide HS4; have := unhide HS3; have := unhide HS1; omega, hs5⟩
    clear d5 hb5 oI hb6 hbi HCR hR z0 z1 z2 z3 z4 hit u0 u1 x0 x1 x2 x3 x4 hs5
    generalize hdl : d.length = dl at *
    generalize hkl : ks.length = kl at *
    go_upto_region 6 with fail
    generalize w5.alloc (.cells #[.int .i64 0, .int .i64 0, .int .i64 nn, .slice da dl dc, .slice ka kl kc] 25) = w6 at *
    cases hp : pads (pad8 L - L) r' with
    | err er =>
      have hep := pads_err _ _ _ hp
      have e4 : (er == 0) = false := by rw [beq_eq_false_iff_ne]; omega
      rw [hp] at HE HPd
      clear hp
      go_wp2_with fail
      refine (unhide HPd).mono ?_
      rintro e w7 ⟨rfl, o7⟩
      have hb7 := o7.heap (unhide HB6) hne
      have HO7 := hide ((unhide HD6).only.trans o7 (fun _ _ e => e))
      have HB7 := hide hb7
      have hf : ∀ i, w7.frozen? ⟨w.heap.size, i, none⟩ = false := by simp [World.frozen?, hb7]
      obtain ⟨s0, s1, s2, s3, s4⟩ := cells_of5 hb7
      clear o7 hb7 HPd q0 q1 hdl hkl
      go_wp2
      obtain ⟨hb8, o8⟩ := put5 (unhide HB7) (.int .i64 0) (.int .i64 0) (.int .i64 0) (.slice none 0 0) (.slice none 0 0)
      refine bodyPost_ret (results_it2 rfl _ _ w.heap.size 0 0 0 none 0 0 none 0 0 rfl (cells_of5 hb8)) rfl ?_
      exact iOut_err (unhide HE).symm (only_set (unhide HO7) (o8.mono (fun k _ e => by omega)))
    | ok r2 =>
      rw [hp] at HE HPd
      clear hp
      go_wp2_with fail
      refine (unhide HPd).mono ?_
      rintro e w7 ⟨rfl, v7, d7⟩
      have hb7 := d7.only.heap (unhide HB6) hne
      have hni : ¬ (w5.heap.size = rb ∨ w5.heap.size = cb) := by
        have h1 := lt_of_block (unhide HD).rd.blk
        have h2 := lt_of_block (unhide HD).cnt
        have := unhide HLT
        omega
      have hbi := d7.only.heap (unhide HBI) hni
      have t0 := d7.only.cell q0 hup
      have t1 := d7.only.cell q1 hup
      have HD7 := hide ((unhide HD6).trans d7)
      have HIT7 := hide (ItAt.only d7.only (fun k _ hk e => by
        have h1 := lt_of_block (unhide HD).rd.blk
        have h2 := lt_of_block (unhide HD).cnt
        have := unhide HLT
        omega) _ (unhide HIT6))
      have HB7 := hide hb7
      have HBI7 := hide hbi
      obtain ⟨i0, i1, i2, i3, i4⟩ := cells_of5 hbi
      have hfi : ∀ i, w7.frozen? ⟨w5.heap.size, i, none⟩ = false := by simp [World.frozen?, hbi]
      have hn1 : ¬ w2.heap.size = w5.heap.size := by have := unhide HLT; have := unhide HS4; have := unhide HS3; omega
      have hn2 : ¬ w5.heap.size = w2.heap.size := by omega
      clear d7 hb7 hbi HPd q0 q1
      go_wp2_with fail
      go_region
      have o8 : Only (fun k => k = w5.heap.size) w7 ((w7.setCell ⟨w5.heap.size, 0, none⟩ (.int .i64 T)).setCell ⟨w5.heap.size, 1, none⟩ (.int .i64 4)).drew := (((Only.refl _ _).here 0 _).here 1 _).drew
      have hbi8 : ((w7.setCell ⟨w5.heap.size, 0, none⟩ (.int .i64 T)).setCell ⟨w5.heap.size, 1, none⟩ (.int .i64 4)).drew.heap[w5.heap.size]? = some (.cells #[.int .i64 T, .int .i64 4, .int .i64 nn, .slice da dl dc, .slice ka kl kc] 25 (0, 0)) := two_setCell (i := 1) (two_setCell (i := 0) (unhide HBI7))
      have hb8 := o8.heap (unhide HB7) (show ¬ w.heap.size = w5.heap.size by have := unhide HLT; omega)
      have HB8 := hide hb8
      have HO8 := hide o8
      have hf : ∀ i, ((w7.setCell ⟨w5.heap.size, 0, none⟩ (.int .i64 T)).setCell ⟨w5.heap.size, 1, none⟩ (.int .i64 4)).drew.frozen? ⟨w.heap.size, i, none⟩ = false := by simp [World.frozen?, hb8]
      have HF := hide hf
      have HC8 := hide (cells_of5 hb8)
      have HC9 := hide (cells_of5 hbi8)
      clear o8 hbi8 hb8 hf i0 i1 i2 i3 i4 hfi t0 t1
      generalize ((w7.setCell ⟨w5.heap.size, 0, none⟩ (.int .i64 T)).setCell ⟨w5.heap.size, 1, none⟩ (.int .i64 4)).drew = w8 at *
      have hf := unhide HF
      obtain ⟨s0, s1, s2, s3, s4⟩ := unhide HC8
      obtain ⟨i0, i1, i2, i3, i4⟩ := unhide HC9
      have hn3 : ¬ w5.heap.size = w.heap.size := by have := unhide HLT; omega
      go_wp2
      obtain ⟨hb9, o9⟩ := put5 (unhide HB8) (.int .i64 T) (.int .i64 4) (.int .i64 nn) (.slice da dl dc) (.slice ka kl kc)
      refine bodyPost_ret (results_it2 rfl _ _ w.heap.size T 4 nn da dl dc ka kl kc rfl (cells_of5 hb9)) rfl ?_
      have hlt := unhide HLT
      refine iOut_ok (it := .mk T 4 nn d ks) (unhide HE).symm ?_ ((unhide HD).set (unhide HD7) (((unhide HO8).mono (T := fun k => w.heap.size ≤ k) (fun k _ e => by omega)).trans o9 (fun k _ e => by omega)))
      have hi := ItAt.only o9 (fun k _ hk e => by omega) _ (ItAt.only (unhide HO8) (fun k _ hk e => by omega) _ (unhide HIT7))
      exact ItAt.mono (fun k _ hk => by omega) (m + 1) hi

set_option maxHeartbeats 4000000 in
set_option maxRecDepth 100000 in
theorem item_5 (h : DcAt w db rb cb depth v r c) (hT : Tabs w) (m T L : Nat) (R : RB)
    (HH : Hid (∀ W, DcAt W db rb cb depth v r c → Calls Tryd.prog 40 #[.pointer (some ⟨db, 0, none⟩)] W (HOut W db rb cb depth v r c (.ok T 5 L))))
    (HR : Hid (∀ W v', DcAt W db rb cb depth v' (r.drop 8) (c + 1) → Tabs W → Calls Tryd.prog 45 #[.pointer (some ⟨db, 0, none⟩), .int .i64 L] W (ROut W db rb cb depth v' m R)))
    (hpos : ∀ er, R = .err er → 0 < er) (hlen : ∀ n d ks r' c', R = .ok n d ks r' c' → r'.length ≤ 140737488355328) (hL : L ≤ 140737488355320) :
    Calls Tryd.prog 25 #[.pointer (some ⟨db, 0, none⟩)] w (IOut w db rb cb depth v m (after T 5 L R)) := by
  obtain ⟨w1, hw1, h1, hb, o1⟩ := zeroed h
  obtain ⟨X, hE⟩ : ∃ X, after T 5 L R = X := ⟨_, rfl⟩
  rw [hE]
  have HE := hide hE
  have HD := hide h
  have HB := hide hb
  have HO := hide o1
  have HT := hide hT
  have HC := hide (unhide HH _ h1)
  have HS1 : Hid (w1.heap.size = w.heap.size + 1) := by show _ = _; rw [hw1]; simp
  have hne : ¬ (w.heap.size = rb ∨ w.heap.size = cb) := by
    have h1 := lt_of_block h.rd.blk
    have h2 := lt_of_block h.cnt
    omega
  have HPos := hide hpos
  have HLen := hide hlen
  clear h h1 hE hb o1 HH hT hpos hlen
  go_enter Tryd.func25, Tryd.ntmps25
  subst hw1
  go_wp2_with fail
  refine (unhide HC).mono ?_
  rintro e w2 ⟨rfl, v2, d2⟩
  generalize w.alloc (.cells #[.int .i64 0, .int .i64 0, .int .i64 0, .slice none 0 0, .slice none 0 0] 25) = w1 at *
  have hs2 := d2.only.size
  have HD2 := hide (((unhide HD).to (unhide HO)).trans d2)
  have hb2 := d2.only.heap (unhide HB) hne
  -- the box of the head, the row of readers
  obtain ⟨⟨x0, x1, x2, x3, x4⟩, oA⟩ := boxed w2 (.int .i64 T) (.int .i64 5) (.int .i64 0) (.slice none 0 0) (.slice none 0 0)
  have HD3 := hide ((unhide HD2).same oA)
  have hb3 := oA.heap hb2 (fun e => e)
  have HS3 : Hid ((w2.alloc (.cells #[.int .i64 T, .int .i64 5, .int .i64 0, .slice none 0 0, .slice none 0 0] 25)).heap.size = w2.heap.size + 1) := by show _ = _; simp
  have HB3 := hide hb3
  clear d2 hb2 oA hb3 HC
  go_upto_region 2 with fail
  generalize w2.alloc (.cells #[.int .i64 T, .int .i64 5, .int .i64 0, .slice none 0 0, .slice none 0 0] 25) = w3 at *
  have oR : Only (fun _ => False) w3 (w3.alloc (.cells #[Value.nilFunc, Value.func (Fn.func 41) #[Value.pointer (some ⟨db, 0, none⟩)] #[], Value.func (Fn.func 42) #[Value.pointer (some ⟨db, 0, none⟩)] #[], Value.func (Fn.func 43) #[Value.pointer (some ⟨db, 0, none⟩)] #[], Value.func (Fn.func 44) #[Value.pointer (some ⟨db, 0, none⟩)] #[], Value.func (Fn.func 45) #[Value.pointer (some ⟨db, 0, none⟩)] #[], Value.func (Fn.func 46) #[Value.pointer (some ⟨db, 0, none⟩)] #[], Value.func (Fn.func 47) #[Value.pointer (some ⟨db, 0, none⟩)] #[], Value.func (Fn.func 48) #[Value.pointer (some ⟨db, 0, none⟩)] #[], Value.func (Fn.func 43) #[Value.pointer (some ⟨db, 0, none⟩)] #[], Value.func (Fn.func 45) #[Value.pointer (some ⟨db, 0, none⟩)] #[]] 88)) := (Only.refl _ _).alloc _
  have hR : (w3.alloc (.cells #[Value.nilFunc, Value.func (Fn.func 41) #[Value.pointer (some ⟨db, 0, none⟩)] #[], Value.func (Fn.func 42) #[Value.pointer (some ⟨db, 0, none⟩)] #[], Value.func (Fn.func 43) #[Value.pointer (some ⟨db, 0, none⟩)] #[], Value.func (Fn.func 44) #[Value.pointer (some ⟨db, 0, none⟩)] #[], Value.func (Fn.func 45) #[Value.pointer (some ⟨db, 0, none⟩)] #[], Value.func (Fn.func 46) #[Value.pointer (some ⟨db, 0, none⟩)] #[], Value.func (Fn.func 47) #[Value.pointer (some ⟨db, 0, none⟩)] #[], Value.func (Fn.func 48) #[Value.pointer (some ⟨db, 0, none⟩)] #[], Value.func (Fn.func 43) #[Value.pointer (some ⟨db, 0, none⟩)] #[], Value.func (Fn.func 45) #[Value.pointer (some ⟨db, 0, none⟩)] #[]] 88)).cell? ⟨w3.heap.size, 5, none⟩ = some (Value.func (Fn.func 45) #[Value.pointer (some ⟨db, 0, none⟩)] #[]) := (cell_of_heap (heap_alloc_new w3 (.cells #[Value.nilFunc, Value.func (Fn.func 41) #[Value.pointer (some ⟨db, 0, none⟩)] #[], Value.func (Fn.func 42) #[Value.pointer (some ⟨db, 0, none⟩)] #[], Value.func (Fn.func 43) #[Value.pointer (some ⟨db, 0, none⟩)] #[], Value.func (Fn.func 44) #[Value.pointer (some ⟨db, 0, none⟩)] #[], Value.func (Fn.func 45) #[Value.pointer (some ⟨db, 0, none⟩)] #[], Value.func (Fn.func 46) #[Value.pointer (some ⟨db, 0, none⟩)] #[], Value.func (Fn.func 47) #[Value.pointer (some ⟨db, 0, none⟩)] #[], Value.func (Fn.func 48) #[Value.pointer (some ⟨db, 0, none⟩)] #[], Value.func (Fn.func 43) #[Value.pointer (some ⟨db, 0, none⟩)] #[], Value.func (Fn.func 45) #[Value.pointer (some ⟨db, 0, none⟩)] #[]] 88))).trans rfl
  have z0 := oR.cell x0 (fun e => e)
  have z1 := oR.cell x1 (fun e => e)
  have z2 := oR.cell x2 (fun e => e)
  have z3 := oR.cell x3 (fun e => e)
  have z4 := oR.cell x4 (fun e => e)
  have hb4 := oR.heap (unhide HB3) (fun e => e)
  have HD4 := hide ((unhide HD3).same oR)
  have HS4 : Hid ((w3.alloc (.cells #[Value.nilFunc, Value.func (Fn.func 41) #[Value.pointer (some ⟨db, 0, none⟩)] #[], Value.func (Fn.func 42) #[Value.pointer (some ⟨db, 0, none⟩)] #[], Value.func (Fn.func 43) #[Value.pointer (some ⟨db, 0, none⟩)] #[], Value.func (Fn.func 44) #[Value.pointer (some ⟨db, 0, none⟩)] #[], Value.func (Fn.func 45) #[Value.pointer (some ⟨db, 0, none⟩)] #[], Value.func (Fn.func 46) #[Value.pointer (some ⟨db, 0, none⟩)] #[], Value.func (Fn.func 47) #[Value.pointer (some ⟨db, 0, none⟩)] #[], Value.func (Fn.func 48) #[Value.pointer (some ⟨db, 0, none⟩)] #[], Value.func (Fn.func 43) #[Value.pointer (some ⟨db, 0, none⟩)] #[], Value.func (Fn.func 45) #[Value.pointer (some ⟨db, 0, none⟩)] #[]] 88)).heap.size = w3.heap.size + 1) := by show _ = _; simp
  have HCR := hide (unhide HR _ v2 (unhide HD4).now ((unhide HD4).tabs (unhide HT)))
  have HB4 := hide hb4
  clear oR hb4 x0 x1 x2 x3 x4 HB3 HR
  go_upto_region 5 with fail
  generalize w3.alloc (.cells #[Value.nilFunc, Value.func (Fn.func 41) #[Value.pointer (some ⟨db, 0, none⟩)] #[], Value.func (Fn.func 42) #[Value.pointer (some ⟨db, 0, none⟩)] #[], Value.func (Fn.func 43) #[Value.pointer (some ⟨db, 0, none⟩)] #[], Value.func (Fn.func 44) #[Value.pointer (some ⟨db, 0, none⟩)] #[], Value.func (Fn.func 45) #[Value.pointer (some ⟨db, 0, none⟩)] #[], Value.func (Fn.func 46) #[Value.pointer (some ⟨db, 0, none⟩)] #[], Value.func (Fn.func 47) #[Value.pointer (some ⟨db, 0, none⟩)] #[], Value.func (Fn.func 48) #[Value.pointer (some ⟨db, 0, none⟩)] #[], Value.func (Fn.func 43) #[Value.pointer (some ⟨db, 0, none⟩)] #[], Value.func (Fn.func 45) #[Value.pointer (some ⟨db, 0, none⟩)] #[]] 88) = w4 at *
  have hup : ¬ (w2.heap.size = rb ∨ w2.heap.size = cb) := by
    have h1 := lt_of_block (unhide HD).rd.blk
    have h2 := lt_of_block (unhide HD).cnt
    have := unhide HS1
    omega
  cases R with
  | err er =>
    have hep := unhide HPos er rfl
    have e4 : (er == 0) = false := by rw [beq_eq_false_iff_ne]; omega
    rw [after] at HE
    go_wp2_with fail
    refine (unhide HCR).mono ?_
    rintro e w5 ⟨rfl, o5⟩
    have hb5 := o5.heap (unhide HB4) hne
    have HO5 := hide ((unhide HD4).only.trans o5 (fun _ _ e => e))
    have oI : Only (fun _ => False) w5 (w5.alloc (.cells #[.int .i64 0, .int .i64 0, .int .i64 0, .slice none 0 0, .slice none 0 0] 25)) := (Only.refl _ _).alloc _
    have hb6 := oI.heap hb5 (fun e => e)
    have HB6 := hide hb6
    have HO6 := hide ((unhide HO5).trans oI (fun _ _ e => e.elim))
    have HS6 : Hid ((∀ i, (w5.alloc (.cells #[.int .i64 0, .int .i64 0, .int .i64 0, .slice none 0 0, .slice none 0 0] 25)).frozen? ⟨w.heap.size, i, none⟩ = false) ∧ (w5.alloc (.cells #[.int .i64 0, .int .i64 0, .int .i64 0, .slice none 0 0, .slice none 0 0] 25)).cell? ⟨w.heap.size, 0, none⟩ = some (.int .i64 0) ∧ (w5.alloc (.cells #[.int .i64 0, .int .i64 0, .int .i64 0, .slice none 0 0, .slice none 0 0] 25)).cell? ⟨w.heap.size, 1, none⟩ = some (.int .i64 0) ∧ (w5.alloc (.cells #[.int .i64 0, .int .i64 0, .int .i64 0, .slice none 0 0, .slice none 0 0] 25)).cell? ⟨w.heap.size, 2, none⟩ = some (.int .i64 0) ∧ (w5.alloc (.cells #[.int .i64 0, .int .i64 0, .int .i64 0, .slice none 0 0, .slice none 0 0] 25)).cell? ⟨w.heap.size, 3, none⟩ = some (.slice none 0 0) ∧ (w5.alloc (.cells #[.int .i64 0, .int .i64 0, .int .i64 0, .slice none 0 0, .slice none 0 0] 25)).cell? ⟨w.heap.size, 4, none⟩ = some (.slice none 0 0)) := ⟨by simp [World.frozen?, hb6], cells_of5 hb6⟩
    clear o5 hb5 oI hb6 HCR hR z0 z1 z2 z3 z4
    go_upto_region 6 with fail
    generalize w5.alloc (.cells #[.int .i64 0, .int .i64 0, .int .i64 0, .slice none 0 0, .slice none 0 0] 25) = w6 at *
    obtain ⟨hf, s0, s1, s2, s3, s4⟩ := unhide HS6
    go_wp2
    obtain ⟨hb7, o7⟩ := put5 (unhide HB6) (.int .i64 0) (.int .i64 0) (.int .i64 0) (.slice none 0 0) (.slice none 0 0)
    refine bodyPost_ret (results_it2 rfl _ _ w.heap.size 0 0 0 none 0 0 none 0 0 rfl (cells_of5 hb7)) rfl ?_
    exact iOut_err (unhide HE).symm (only_set (unhide HO6) (o7.mono (fun k _ e => by omega)))
  | ok nn d ks r' c' =>
    have hrl := unhide HLen nn d ks r' c' rfl
    rw [after, fin] at HE
    go_wp2_with fail
    refine (unhide HCR).mono ?_
    rintro e w5 ⟨dv, kv, v5, rfl, hit, d5⟩
    obtain ⟨⟨da, dc, hds⟩, ka, kc, hks⟩ := hit.shapes
    simp only [It.data, It.kids] at hds hks
    subst hds
    subst hks
    have hb5 := d5.only.heap (unhide HB4) hne
    have u0 := d5.only.cell z0 hup
    have u1 := d5.only.cell z1 hup
    have HD5 := hide ((unhide HD4).trans d5)
    have hs5 := d5.only.size
    obtain ⟨⟨x0, x1, x2, x3, x4⟩, oI⟩ := boxed w5 (.int .i64 0) (.int .i64 0) (.int .i64 nn) (.slice da d.length dc) (.slice ka ks.length kc)
    have hbi := heap_alloc_new w5 (.cells #[.int .i64 0, .int .i64 0, .int .i64 nn, .slice da d.length dc, .slice ka ks.length kc] 25)
    have hb6 := oI.heap hb5 (fun e => e)
    have q0 := oI.cell u0 (fun e => e)
    have q1 := oI.cell u1 (fun e => e)
    have HD6 := hide ((unhide HD5).same oI)
    have HIT6 := hide ((ItAt.mono (R := fun k => w4.heap.size ≤ k ∧ k < w5.heap.size) (fun k hk hq => ⟨hq, hk⟩) _ hit).same oI)
    have HPd := hide (padding_any (unhide HD6).now L hL hrl)
    have HB6 := hide hb6
    have HBI := hide hbi
    have HLT : Hid (w.heap.size < w4.heap.size ∧ w4.heap.size ≤ w5.heap.size) := ⟨by have := unhide HS4; have := unhide HS3; have := unhide HS1; omega, hs5⟩
    clear d5 hb5 oI hb6 hbi HCR hR z0 z1 z2 z3 z4 hit u0 u1 x0 x1 x2 x3 x4 hs5
    generalize hdl : d.length = dl at *
    generalize hkl : ks.length = kl at *
    go_upto_region 6 with fail
    generalize w5.alloc (.cells #[.int .i64 0, .int .i64 0, .int .i64 nn, .slice da dl dc, .slice ka kl kc] 25) = w6 at *
    cases hp : pads (pad8 L - L) r' with
    | err er =>
      have hep := pads_err _ _ _ hp
      have e4 : (er == 0) = false := by rw [beq_eq_false_iff_ne]; omega
      rw [hp] at HE HPd
      clear hp
      go_wp2_with fail
      refine (unhide HPd).mono ?_
      rintro e w7 ⟨rfl, o7⟩
      have hb7 := o7.heap (unhide HB6) hne
      have HO7 := hide ((unhide HD6).only.trans o7 (fun _ _ e => e))
      have HB7 := hide hb7
      have hf : ∀ i, w7.frozen? ⟨w.heap.size, i, none⟩ = false := by simp [World.frozen?, hb7]
      obtain ⟨s0, s1, s2, s3, s4⟩ := cells_of5 hb7
      clear o7 hb7 HPd q0 q1 hdl hkl
      go_wp2
      obtain ⟨hb8, o8⟩ := put5 (unhide HB7) (.int .i64 0) (.int .i64 0) (.int .i64 0) (.slice none 0 0) (.slice none 0 0)
      refine bodyPost_ret (results_it2 rfl _ _ w.heap.size 0 0 0 none 0 0 none 0 0 rfl (cells_of5 hb8)) rfl ?_
      exact iOut_err (unhide HE).symm (only_set (unhide HO7) (o8.mono (fun k _ e => by omega)))
    | ok r2 =>
      rw [hp] at HE HPd
      clear hp
      go_wp2_with fail
      refine (unhide HPd).mono ?_
      rintro e w7 ⟨rfl, v7, d7⟩
      have hb7 := d7.only.heap (unhide HB6) hne
      have hni : ¬ (w5.heap.size = rb ∨ w5.heap.size = cb) := by
        have h1 := lt_of_block (unhide HD).rd.blk
        have h2 := lt_of_block (unhide HD).cnt
        have := unhide HLT
        omega
      have hbi := d7.only.heap (unhide HBI) hni
      have t0 := d7.only.cell q0 hup
      have t1 := d7.only.cell q1 hup
      have HD7 := hide ((unhide HD6).trans d7)
      have HIT7 := hide (ItAt.only d7.only (fun k _ hk e => by
        have h1 := lt_of_block (unhide HD).rd.blk
        have h2 := lt_of_block (unhide HD).cnt
        have := unhide HLT
        omega) _ (unhide HIT6))
      have HB7 := hide hb7
      have HBI7 := hide hbi
      obtain ⟨i0, i1, i2, i3, i4⟩ := cells_of5 hbi
      have hfi : ∀ i, w7.frozen? ⟨w5.heap.size, i, none⟩ = false := by simp [World.frozen?, hbi]
      have hn1 : ¬ w2.heap.size = w5.heap.size := by have := unhide HLT; have := unhide HS4; have := unhide HS3; omega
      have hn2 : ¬ w5.heap.size = w2.heap.size := by omega
      clear d7 hb7 hbi HPd q0 q1
      go_wp2_with fail
      go_region
      have o8 : Only (fun k => k = w5.heap.size) w7 ((w7.setCell ⟨w5.heap.size, 0, none⟩ (.int .i64 T)).setCell ⟨w5.heap.size, 1, none⟩ (.int .i64 5)).drew := (((Only.refl _ _).here 0 _).here 1 _).drew
      have hbi8 : ((w7.setCell ⟨w5.heap.size, 0, none⟩ (.int .i64 T)).setCell ⟨w5.heap.size, 1, none⟩ (.int .i64 5)).drew.heap[w5.heap.size]? = some (.cells #[.int .i64 T, .int .i64 5, .int .i64 nn, .slice da dl dc, .slice ka kl kc] 25 (0, 0)) := two_setCell (i := 1) (two_setCell (i := 0) (unhide HBI7))
      have hb8 := o8.heap (unhide HB7) (show ¬ w.heap.size = w5.heap.size by have := unhide HLT; omega)
      have HB8 := hide hb8
      have HO8 := hide o8
      have hf : ∀ i, ((w7.setCell ⟨w5.heap.size, 0, none⟩ (.int .i64 T)).setCell ⟨w5.heap.size, 1, none⟩ (.int .i64 5)).drew.frozen? ⟨w.heap.size, i, none⟩ = false := by simp [World.frozen?, hb8]
      have HF := hide hf
      have HC8 := hide (cells_of5 hb8)
      have HC9 := hide (cells_of5 hbi8)
      clear o8 hbi8 hb8 hf i0 i1 i2 i3 i4 hfi t0 t1
      generalize ((w7.setCell ⟨w5.heap.size, 0, none⟩ (.int .i64 T)).setCell ⟨w5.heap.size, 1, none⟩ (.int .i64 5)).drew = w8 at *
      have hf := unhide HF
      obtain ⟨s0, s1, s2, s3, s4⟩ := unhide HC8
      obtain ⟨i0, i1, i2, i3, i4⟩ := unhide HC9
      have hn3 : ¬ w5.heap.size = w.heap.size := by have := unhide HLT; omega
      go_wp2
      obtain ⟨hb9, o9⟩ := put5 (unhide HB8) (.int .i64 T) (.int .i64 5) (.int .i64 nn) (.slice da dl dc) (.slice ka kl kc)
      refine bodyPost_ret (results_it2 rfl _ _ w.heap.size T 5 nn da dl dc ka kl kc rfl (cells_of5 hb9)) rfl ?_
      have hlt := unhide HLT
      refine iOut_ok (it := .mk T 5 nn d ks) (unhide HE).symm ?_ ((unhide HD).set (unhide HD7) (((unhide HO8).mono (T := fun k => w.heap.size ≤ k) (fun k _ e => by omega)).trans o9 (fun k _ e => by omega)))
      have hi := ItAt.only o9 (fun k _ hk e => by omega) _ (ItAt.only (unhide HO8) (fun k _ hk e => by omega) _ (unhide HIT7))
      exact ItAt.mono (fun k _ hk => by omega) (m + 1) hi

set_option maxHeartbeats 4000000 in
set_option maxRecDepth 100000 in
theorem item_6 (h : DcAt w db rb cb depth v r c) (hT : Tabs w) (m T L : Nat) (R : RB)
    (HH : Hid (∀ W, DcAt W db rb cb depth v r c → Calls Tryd.prog 40 #[.pointer (some ⟨db, 0, none⟩)] W (HOut W db rb cb depth v r c (.ok T 6 L))))
    (HR : Hid (∀ W v', DcAt W db rb cb depth v' (r.drop 8) (c + 1) → Tabs W → Calls Tryd.prog 46 #[.pointer (some ⟨db, 0, none⟩), .int .i64 L] W (ROut W db rb cb depth v' m R)))
    (hpos : ∀ er, R = .err er → 0 < er) (hlen : ∀ n d ks r' c', R = .ok n d ks r' c' → r'.length ≤ 140737488355328) (hL : L ≤ 140737488355320) :
    Calls Tryd.prog 25 #[.pointer (some ⟨db, 0, none⟩)] w (IOut w db rb cb depth v m (after T 6 L R)) := by
  obtain ⟨w1, hw1, h1, hb, o1⟩ := zeroed h
  obtain ⟨X, hE⟩ : ∃ X, after T 6 L R = X := ⟨_, rfl⟩
  rw [hE]
  have HE := hide hE
  have HD := hide h
  have HB := hide hb
  have HO := hide o1
  have HT := hide hT
  have HC := hide (unhide HH _ h1)
  have HS1 : Hid (w1.heap.size = w.heap.size + 1) := by show _ = _; rw [hw1]; simp
  have hne : ¬ (w.heap.size = rb ∨ w.heap.size = cb) := by
    have h1 := lt_of_block h.rd.blk
    have h2 := lt_of_block h.cnt
    omega
  have HPos := hide hpos
  have HLen := hide hlen
  clear h h1 hE hb o1 HH hT hpos hlen
  go_enter Tryd.func25, Tryd.ntmps25
  subst hw1
  go_wp2_with fail
  refine (unhide HC).mono ?_
  rintro e w2 ⟨rfl, v2, d2⟩
  generalize w.alloc (.cells #[.int .i64 0, .int .i64 0, .int .i64 0, .slice none 0 0, .slice none 0 0] 25) = w1 at *
  have hs2 := d2.only.size
  have HD2 := hide (((unhide HD).to (unhide HO)).trans d2)
  have hb2 := d2.only.heap (unhide HB) hne
  -- the box of the head, the row of readers
  obtain ⟨⟨x0, x1, x2, x3, x4⟩, oA⟩ := boxed w2 (.int .i64 T) (.int .i64 6) (.int .i64 0) (.slice none 0 0) (.slice none 0 0)
  have HD3 := hide ((unhide HD2).same oA)
  have hb3 := oA.heap hb2 (fun e => e)
  have HS3 : Hid ((w2.alloc (.cells #[.int .i64 T, .int .i64 6, .int .i64 0, .slice none 0 0, .slice none 0 0] 25)).heap.size = w2.heap.size + 1) := by show _ = _; simp
  have HB3 := hide hb3
  clear d2 hb2 oA hb3 HC
  go_upto_region 2 with fail
  generalize w2.alloc (.cells #[.int .i64 T, .int .i64 6, .int .i64 0, .slice none 0 0, .slice none 0 0] 25) = w3 at *
  have oR : Only (fun _ => False) w3 (w3.alloc (.cells #[Value.nilFunc, Value.func (Fn.func 41) #[Value.pointer (some ⟨db, 0, none⟩)] #[], Value.func (Fn.func 42) #[Value.pointer (some ⟨db, 0, none⟩)] #[], Value.func (Fn.func 43) #[Value.pointer (some ⟨db, 0, none⟩)] #[], Value.func (Fn.func 44) #[Value.pointer (some ⟨db, 0, none⟩)] #[], Value.func (Fn.func 45) #[Value.pointer (some ⟨db, 0, none⟩)] #[], Value.func (Fn.func 46) #[Value.pointer (some ⟨db, 0, none⟩)] #[], Value.func (Fn.func 47) #[Value.pointer (some ⟨db, 0, none⟩)] #[], Value.func (Fn.func 48) #[Value.pointer (some ⟨db, 0, none⟩)] #[], Value.func (Fn.func 43) #[Value.pointer (some ⟨db, 0, none⟩)] #[], Value.func (Fn.func 45) #[Value.pointer (some ⟨db, 0, none⟩)] #[]] 88)) := (Only.refl _ _).alloc _
  have hR : (w3.alloc (.cells #[Value.nilFunc, Value.func (Fn.func 41) #[Value.pointer (some ⟨db, 0, none⟩)] #[], Value.func (Fn.func 42) #[Value.pointer (some ⟨db, 0, none⟩)] #[], Value.func (Fn.func 43) #[Value.pointer (some ⟨db, 0, none⟩)] #[], Value.func (Fn.func 44) #[Value.pointer (some ⟨db, 0, none⟩)] #[], Value.func (Fn.func 45) #[Value.pointer (some ⟨db, 0, none⟩)] #[], Value.func (Fn.func 46) #[Value.pointer (some ⟨db, 0, none⟩)] #[], Value.func (Fn.func 47) #[Value.pointer (some ⟨db, 0, none⟩)] #[], Value.func (Fn.func 48) #[Value.pointer (some ⟨db, 0, none⟩)] #[], Value.func (Fn.func 43) #[Value.pointer (some ⟨db, 0, none⟩)] #[], Value.func (Fn.func 45) #[Value.pointer (some ⟨db, 0, none⟩)] #[]] 88)).cell? ⟨w3.heap.size, 6, none⟩ = some (Value.func (Fn.func 46) #[Value.pointer (some ⟨db, 0, none⟩)] #[]) := (cell_of_heap (heap_alloc_new w3 (.cells #[Value.nilFunc, Value.func (Fn.func 41) #[Value.pointer (some ⟨db, 0, none⟩)] #[], Value.func (Fn.func 42) #[Value.pointer (some ⟨db, 0, none⟩)] #[], Value.func (Fn.func 43) #[Value.pointer (some ⟨db, 0, none⟩)] #[], Value.func (Fn.func 44) #[Value.pointer (some ⟨db, 0, none⟩)] #[], Value.func (Fn.func 45) #[Value.pointer (some ⟨db, 0, none⟩)] #[], Value.func (Fn.func 46) #[Value.pointer (some ⟨db, 0, none⟩)] #[], Value.func (Fn.func 47) #[Value.pointer (some ⟨db, 0, none⟩)] #[], Value.func (Fn.func 48) #[Value.pointer (some ⟨db, 0, none⟩)] #[], Value.func (Fn.func 43) #[Value.pointer (some ⟨db, 0, none⟩)] #[], Value.func (Fn.func 45) #[Value.pointer (some ⟨db, 0, none⟩)] #[]] 88))).trans rfl
  have z0 := oR.cell x0 (fun e => e)
  have z1 := oR.cell x1 (fun e => e)
  have z2 := oR.cell x2 (fun e => e)
  have z3 := oR.cell x3 (fun e => e)
  have z4 := oR.cell x4 (fun e => e)
  have hb4 := oR.heap (unhide HB3) (fun e => e)
  have HD4 := hide ((unhide HD3).same oR)
  have HS4 : Hid ((w3.alloc (.cells #[Value.nilFunc, Value.func (Fn.func 41) #[Value.pointer (some ⟨db, 0, none⟩)] #[], Value.func (Fn.func 42) #[Value.pointer (some ⟨db, 0, none⟩)] #[], Value.func (Fn.func 43) #[Value.pointer (some ⟨db, 0, none⟩)] #[], Value.func (Fn.func 44) #[Value.pointer (some ⟨db, 0, none⟩)] #[], Value.func (Fn.func 45) #[Value.pointer (some ⟨db, 0, none⟩)] #[], Value.func (Fn.func 46) #[Value.pointer (some ⟨db, 0, none⟩)] #[], Value.func (Fn.func 47) #[Value.pointer (some ⟨db, 0, none⟩)] #[], Value.func (Fn.func 48) #[Value.pointer (some ⟨db, 0, none⟩)] #[], Value.func (Fn.func 43) #[Value.pointer (some ⟨db, 0, none⟩)] #[], Value.func (Fn.func 45) #[Value.pointer (some ⟨db, 0, none⟩)] #[]] 88)).heap.size = w3.heap.size + 1) := by show _ = _; simp
  have HCR := hide (unhide HR _ v2 (unhide HD4).now ((unhide HD4).tabs (unhide HT)))
  have HB4 := hide hb4
  clear oR hb4 x0 x1 x2 x3 x4 HB3 HR
  go_upto_region 5 with fail
  generalize w3.alloc (.cells #[Value.nilFunc, Value.func (Fn.func 41) #[Value.pointer (some ⟨db, 0, none⟩)] #[], Value.func (Fn.func 42) #[Value.pointer (some ⟨db, 0, none⟩)] #[], Value.func (Fn.func 43) #[Value.pointer (some ⟨db, 0, none⟩)] #[], Value.func (Fn.func 44) #[Value.pointer (some ⟨db, 0, none⟩)] #[], Value.func (Fn.func 45) #[Value.pointer (some ⟨db, 0, none⟩)] #[], Value.func (Fn.func 46) #[Value.pointer (some ⟨db, 0, none⟩)] #[], Value.func (Fn.func 47) #[Value.pointer (some ⟨db, 0, none⟩)] #[], Value.func (Fn.func 48) #[Value.pointer (some ⟨db, 0, none⟩)] #[], Value.func (Fn.func 43) #[Value.pointer (some ⟨db, 0, none⟩)] #[], Value.func (Fn.func 45) #[Value.pointer (some ⟨db, 0, none⟩)] #[]] 88) = w4 at *
  have hup : ¬ (w2.heap.size = rb ∨ w2.heap.size = cb) := by
    have h1 := lt_of_block (unhide HD).rd.blk
    have h2 := lt_of_block (unhide HD).cnt
    have := unhide HS1
    omega
  cases R with
  | err er =>
    have hep := unhide HPos er rfl
    have e4 : (er == 0) = false := by rw [beq_eq_false_iff_ne]; omega
    rw [after] at HE
    go_wp2_with fail
    refine (unhide HCR).mono ?_
    rintro e w5 ⟨rfl, o5⟩
    have hb5 := o5.heap (unhide HB4) hne
    have HO5 := hide ((unhide HD4).only.trans o5 (fun _ _ e => e))
    have oI : Only (fun _ => False) w5 (w5.alloc (.cells #[.int .i64 0, .int .i64 0, .int .i64 0, .slice none 0 0, .slice none 0 0] 25)) := (Only.refl _ _).alloc _
    have hb6 := oI.heap hb5 (fun e => e)
    have HB6 := hide hb6
    have HO6 := hide ((unhide HO5).trans oI (fun _ _ e => e.elim))
    have HS6 : Hid ((∀ i, (w5.alloc (.cells #[.int .i64 0, .int .i64 0, .int .i64 0, .slice none 0 0, .slice none 0 0] 25)).frozen? ⟨w.heap.size, i, none⟩ = false) ∧ (w5.alloc (.cells #[.int .i64 0, .int .i64 0, .int .i64 0, .slice none 0 0, .slice none 0 0] 25)).cell? ⟨w.heap.size, 0, none⟩ = some (.int .i64 0) ∧ (w5.alloc (.cells #[.int .i64 0, .int .i64 0, .int .i64 0, .slice none 0 0, .slice none 0 0] 25)).cell? ⟨w.heap.size, 1, none⟩ = some (.int .i64 0) ∧ (w5.alloc (.cells #[.int .i64 0, .int .i64 0, .int .i64 0, .slice none 0 0, .slice none 0 0] 25)).cell? ⟨w.heap.size, 2, none⟩ = some (.int .i64 0) ∧ (w5.alloc (.cells #[.int .i64 0, .int .i64 0, .int .i64 0, .slice none 0 0, .slice none 0 0] 25)).cell? ⟨w.heap.size, 3, none⟩ = some (.slice none 0 0) ∧ (w5.alloc (.cells #[.int .i64 0, .int .i64 0, .int .i64 0, .slice none 0 0, .slice none 0 0] 25)).cell? ⟨w.heap.size, 4, none⟩ = some (.slice none 0 0)) := ⟨by simp [World.frozen?, hb6], cells_of5 hb6⟩
    clear o5 hb5 oI hb6 HCR hR z0 z1 z2 z3 z4
    go_upto_region 6 with fail
    generalize w5.alloc (.cells #[.int .i64 0, .int .i64 0, .int .i64 0, .slice none 0 0, .slice none 0 0] 25) = w6 at *
    obtain ⟨hf, s0, s1, s2, s3, s4⟩ := unhide HS6
    go_wp2
    obtain ⟨hb7, o7⟩ := put5 (unhide HB6) (.int .i64 0) (.int .i64 0) (.int .i64 0) (.slice none 0 0) (.slice none 0 0)
    refine bodyPost_ret (results_it2 rfl _ _ w.heap.size 0 0 0 none 0 0 none 0 0 rfl (cells_of5 hb7)) rfl ?_
    exact iOut_err (unhide HE).symm (only_set (unhide HO6) (o7.mono (fun k _ e => by omega)))
  | ok nn d ks r' c' =>
    have hrl := unhide HLen nn d ks r' c' rfl
    rw [after, fin] at HE
    go_wp2_with fail
    refine (unhide HCR).mono ?_
    rintro e w5 ⟨dv, kv, v5, rfl, hit, d5⟩
    obtain ⟨⟨da, dc, hds⟩, ka, kc, hks⟩ := hit.shapes
    simp only [It.data, It.kids] at hds hks
    subst hds
    subst hks
    have hb5 := d5.only.heap (unhide HB4) hne
    have u0 := d5.only.cell z0 hup
    have u1 := d5.only.cell z1 hup
    have HD5 := hide ((unhide HD4).trans d5)
    have hs5 := d5.only.size
    obtain ⟨⟨x0, x1, x2, x3, x4⟩, oI⟩ := boxed w5 (.int .i64 0) (.int .i64 0) (.int .i64 nn) (.slice da d.length dc) (.slice ka ks.length kc)
    have hbi := heap_alloc_new w5 (.cells #[.int .i64 0, .int .i64 0, .int .i64 nn, .slice da d.length dc, .slice ka ks.length kc] 25)
    have hb6 := oI.heap hb5 (fun e => e)
    have q0 := oI.cell u0 (fun e => e)
    have q1 := oI.cell u1 (fun e => e)
    have HD6 := hide ((unhide HD5).same oI)
    have HIT6 := hide ((ItAt.mono (R := fun k => w4.heap.size ≤ k ∧ k < w5.heap.size) (fun k hk hq => ⟨hq, hk⟩) _ hit).same oI)
    have HPd := hide (padding_any (unhide HD6).now L hL hrl)
    have HB6 := hide hb6
    have HBI := hide hbi
    have HLT : Hid (w.heap.size < w4.heap.size ∧ w4.heap.size ≤ w5.heap.size) := ⟨by have := unhide HS4; have := unhide HS3; have := unhide HS1; omega, hs5⟩
    clear d5 hb5 oI hb6 hbi HCR hR z0 z1 z2 z3 z4 hit u0 u1 x0 x1 x2 x3 x4 hs5
    generalize hdl : d.length = dl at *
    generalize hkl : ks.length = kl at *
    go_upto_region 6 with fail
    generalize w5.alloc (.cells #[.int .i64 0, .int .i64 0, .int .i64 nn, .slice da dl dc, .slice ka kl kc] 25) = w6 at *
    cases hp : pads (pad8 L - L) r' with
    | err er =>
      have hep := pads_err _ _ _ hp
      have e4 : (er == 0) = false := by rw [beq_eq_false_iff_ne]; omega
      rw [hp] at HE HPd
      clear hp
      go_wp2_with fail
      refine (unhide HPd).mono ?_
      rintro e w7 ⟨rfl, o7⟩
      have hb7 := o7.heap (unhide HB6) hne
      have HO7 := hide ((unhide HD6).only.trans o7 (fun _ _ e => e))
      have HB7 := hide hb7
      have hf : ∀ i, w7.frozen? ⟨w.heap.size, i, none⟩ = false := by simp [World.frozen?, hb7]
      obtain ⟨s0, s1, s2, s3, s4⟩ := cells_of5 hb7
      clear o7 hb7 HPd q0 q1 hdl hkl
      go_wp2
      obtain ⟨hb8, o8⟩ := put5 (unhide HB7) (.int .i64 0) (.int .i64 0) (.int .i64 0) (.slice none 0 0) (.slice none 0 0)
      refine bodyPost_ret (results_it2 rfl _ _ w.heap.size 0 0 0 none 0 0 none 0 0 rfl (cells_of5 hb8)) rfl ?_
      exact iOut_err (unhide HE).symm (only_set (unhide HO7) (o8.mono (fun k _ e => by omega)))
    | ok r2 =>
      rw [hp] at HE HPd
      clear hp
      go_wp2_with fail
      refine (unhide HPd).mono ?_
      rintro e w7 ⟨rfl, v7, d7⟩
      have hb7 := d7.only.heap (unhide HB6) hne
      have hni : ¬ (w5.heap.size = rb ∨ w5.heap.size = cb) := by
        have h1 := lt_of_block (unhide HD).rd.blk
        have h2 := lt_of_block (unhide HD).cnt
        have := unhide HLT
        omega
      have hbi := d7.only.heap (unhide HBI) hni
      have t0 := d7.only.cell q0 hup
      have t1 := d7.only.cell q1 hup
      have HD7 := hide ((unhide HD6).trans d7)
      have HIT7 := hide (ItAt.only d7.only (fun k _ hk e => by
        have h1 := lt_of_block (unhide HD).rd.blk
        have h2 := lt_of_block (unhide HD).cnt
        have := unhide HLT
        omega) _ (unhide HIT6))
      have HB7 := hide hb7
      have HBI7 := hide hbi
      obtain ⟨i0, i1, i2, i3, i4⟩ := cells_of5 hbi
      have hfi : ∀ i, w7.frozen? ⟨w5.heap.size, i, none⟩ = false := by simp [World.frozen?, hbi]
      have hn1 : ¬ w2.heap.size = w5.heap.size := by have := unhide HLT; have := unhide HS4; have := unhide HS3; omega
      have hn2 : ¬ w5.heap.size = w2.heap.size := by omega
      clear d7 hb7 hbi HPd q0 q1
      go_wp2_with fail
      go_region
      have o8 : Only (fun k => k = w5.heap.size) w7 ((w7.setCell ⟨w5.heap.size, 0, none⟩ (.int .i64 T)).setCell ⟨w5.heap.size, 1, none⟩ (.int .i64 6)).drew := (((Only.refl _ _).here 0 _).here 1 _).drew
      have hbi8 : ((w7.setCell ⟨w5.heap.size, 0, none⟩ (.int .i64 T)).setCell ⟨w5.heap.size, 1, none⟩ (.int .i64 6)).drew.heap[w5.heap.size]? = some (.cells #[.int .i64 T, .int .i64 6, .int .i64 nn, .slice da dl dc, .slice ka kl kc] 25 (0, 0)) := two_setCell (i := 1) (two_setCell (i := 0) (unhide HBI7))
      have hb8 := o8.heap (unhide HB7) (show ¬ w.heap.size = w5.heap.size by have := unhide HLT; omega)
      have HB8 := hide hb8
      have HO8 := hide o8
      have hf : ∀ i, ((w7.setCell ⟨w5.heap.size, 0, none⟩ (.int .i64 T)).setCell ⟨w5.heap.size, 1, none⟩ (.int .i64 6)).drew.frozen? ⟨w.heap.size, i, none⟩ = false := by simp [World.frozen?, hb8]
      have HF := hide hf
      have HC8 := hide (cells_of5 hb8)
      have HC9 := hide (cells_of5 hbi8)
      clear o8 hbi8 hb8 hf i0 i1 i2 i3 i4 hfi t0 t1
      generalize ((w7.setCell ⟨w5.heap.size, 0, none⟩ (.int .i64 T)).setCell ⟨w5.heap.size, 1, none⟩ (.int .i64 6)).drew = w8 at *
      have hf := unhide HF
      obtain ⟨s0, s1, s2, s3, s4⟩ := unhide HC8
      obtain ⟨i0, i1, i2, i3, i4⟩ := unhide HC9
      have hn3 : ¬ w5.heap.size = w.heap.size := by have := unhide HLT; omega
      go_wp2
      obtain ⟨hb9, o9⟩ := put5 (unhide HB8) (.int .i64 T) (.int .i64 6) (.int .i64 nn) (.slice da dl dc) (.slice ka kl kc)
      refine bodyPost_ret (results_it2 rfl _ _ w.heap.size T 6 nn da dl dc ka kl kc rfl (cells_of5 hb9)) rfl ?_
      have hlt := unhide HLT
      refine iOut_ok (it := .mk T 6 nn d ks) (unhide HE).symm ?_ ((unhide HD).set (unhide HD7) (((unhide HO8).mono (T := fun k => w.heap.size ≤ k) (fun k _ e => by omega)).trans o9 (fun k _ e => by omega)))
      have hi := ItAt.only o9 (fun k _ hk e => by omega) _ (ItAt.only (unhide HO8) (fun k _ hk e => by omega) _ (unhide HIT7))
      exact ItAt.mono (fun k _ hk => by omega) (m + 1) hi

set_option maxHeartbeats 4000000 in
set_option maxRecDepth 100000 in
theorem item_7 (h : DcAt w db rb cb depth v r c) (hT : Tabs w) (m T L : Nat) (R : RB)
    (HH : Hid (∀ W, DcAt W db rb cb depth v r c → Calls Tryd.prog 40 #[.pointer (some ⟨db, 0, none⟩)] W (HOut W db rb cb depth v r c (.ok T 7 L))))
    (HR : Hid (∀ W v', DcAt W db rb cb depth v' (r.drop 8) (c + 1) → Tabs W → Calls Tryd.prog 47 #[.pointer (some ⟨db, 0, none⟩), .int .i64 L] W (ROut W db rb cb depth v' m R)))
    (hpos : ∀ er, R = .err er → 0 < er) (hlen : ∀ n d ks r' c', R = .ok n d ks r' c' → r'.length ≤ 140737488355328) (hL : L ≤ 140737488355320) :
    Calls Tryd.prog 25 #[.pointer (some ⟨db, 0, none⟩)] w (IOut w db rb cb depth v m (after T 7 L R)) := by
  obtain ⟨w1, hw1, h1, hb, o1⟩ := zeroed h
  obtain ⟨X, hE⟩ : ∃ X, after T 7 L R = X := ⟨_, rfl⟩
  rw [hE]
  have HE := hide hE
  have HD := hide h
  have HB := hide hb
  have HO := hide o1
  have HT := hide hT
  have HC := hide (unhide HH _ h1)
  have HS1 : Hid (w1.heap.size = w.heap.size + 1) := by show _ = _; rw [hw1]; simp
  have hne : ¬ (w.heap.size = rb ∨ w.heap.size = cb) := by
    have h1 := lt_of_block h.rd.blk
    have h2 := lt_of_block h.cnt
    omega
  have HPos := hide hpos
  have HLen := hide hlen
  clear h h1 hE hb o1 HH hT hpos hlen
  go_enter Tryd.func25, Tryd.ntmps25
  subst hw1
  go_wp2_with fail
  refine (unhide HC).mono ?_
  rintro e w2 ⟨rfl, v2, d2⟩
  generalize w.alloc (.cells #[.int .i64 0, .int .i64 0, .int .i64 0, .slice none 0 0, .slice none 0 0] 25) = w1 at *
  have hs2 := d2.only.size
  have HD2 := hide (((unhide HD).to (unhide HO)).trans d2)
  have hb2 := d2.only.heap (unhide HB) hne
  -- the box of the head, the row of readers
  obtain ⟨⟨x0, x1, x2, x3, x4⟩, oA⟩ := boxed w2 (.int .i64 T) (.int .i64 7) (.int .i64 0) (.slice none 0 0) (.slice none 0 0)
  have HD3 := hide ((unhide HD2).same oA)
  have hb3 := oA.heap hb2 (fun e => e)
  have HS3 : Hid ((w2.alloc (.cells #[.int .i64 T, .int .i64 7, .int .i64 0, .slice none 0 0, .slice none 0 0] 25)).heap.size = w2.heap.size + 1) := by show _ = _; simp
  have HB3 := hide hb3
  clear d2 hb2 oA hb3 HC
  go_upto_region 2 with fail
  generalize w2.alloc (.cells #[.int .i64 T, .int .i64 7, .int .i64 0, .slice none 0 0, .slice none 0 0] 25) = w3 at *
  have oR : Only (fun _ => False) w3 (w3.alloc (.cells #[Value.nilFunc, Value.func (Fn.func 41) #[Value.pointer (some ⟨db, 0, none⟩)] #[], Value.func (Fn.func 42) #[Value.pointer (some ⟨db, 0, none⟩)] #[], Value.func (Fn.func 43) #[Value.pointer (some ⟨db, 0, none⟩)] #[], Value.func (Fn.func 44) #[Value.pointer (some ⟨db, 0, none⟩)] #[], Value.func (Fn.func 45) #[Value.pointer (some ⟨db, 0, none⟩)] #[], Value.func (Fn.func 46) #[Value.pointer (some ⟨db, 0, none⟩)] #[], Value.func (Fn.func 47) #[Value.pointer (some ⟨db, 0, none⟩)] #[], Value.func (Fn.func 48) #[Value.pointer (some ⟨db, 0, none⟩)] #[], Value.func (Fn.func 43) #[Value.pointer (some ⟨db, 0, none⟩)] #[], Value.func (Fn.func 45) #[Value.pointer (some ⟨db, 0, none⟩)] #[]] 88)) := (Only.refl _ _).alloc _
  have hR : (w3.alloc (.cells #[Value.nilFunc, Value.func (Fn.func 41) #[Value.pointer (some ⟨db, 0, none⟩)] #[], Value.func (Fn.func 42) #[Value.pointer (some ⟨db, 0, none⟩)] #[], Value.func (Fn.func 43) #[Value.pointer (some ⟨db, 0, none⟩)] #[], Value.func (Fn.func 44) #[Value.pointer (some ⟨db, 0, none⟩)] #[], Value.func (Fn.func 45) #[Value.pointer (some ⟨db, 0, none⟩)] #[], Value.func (Fn.func 46) #[Value.pointer (some ⟨db, 0, none⟩)] #[], Value.func (Fn.func 47) #[Value.pointer (some ⟨db, 0, none⟩)] #[], Value.func (Fn.func 48) #[Value.pointer (some ⟨db, 0, none⟩)] #[], Value.func (Fn.func 43) #[Value.pointer (some ⟨db, 0, none⟩)] #[], Value.func (Fn.func 45) #[Value.pointer (some ⟨db, 0, none⟩)] #[]] 88)).cell? ⟨w3.heap.size, 7, none⟩ = some (Value.func (Fn.func 47) #[Value.pointer (some ⟨db, 0, none⟩)] #[]) := (cell_of_heap (heap_alloc_new w3 (.cells #[Value.nilFunc, Value.func (Fn.func 41) #[Value.pointer (some ⟨db, 0, none⟩)] #[], Value.func (Fn.func 42) #[Value.pointer (some ⟨db, 0, none⟩)] #[], Value.func (Fn.func 43) #[Value.pointer (some ⟨db, 0, none⟩)] #[], Value.func (Fn.func 44) #[Value.pointer (some ⟨db, 0, none⟩)] #[], Value.func (Fn.func 45) #[Value.pointer (some ⟨db, 0, none⟩)] #[], Value.func (Fn.func 46) #[Value.pointer (some ⟨db, 0, none⟩)] #[], Value.func (Fn.func 47) #[Value.pointer (some ⟨db, 0, none⟩)] #[], Value.func (Fn.func 48) #[Value.pointer (some ⟨db, 0, none⟩)] #[], Value.func (Fn.func 43) #[Value.pointer (some ⟨db, 0, none⟩)] #[], Value.func (Fn.func 45) #[Value.pointer (some ⟨db, 0, none⟩)] #[]] 88))).trans rfl
  have z0 := oR.cell x0 (fun e => e)
  have z1 := oR.cell x1 (fun e => e)
  have z2 := oR.cell x2 (fun e => e)
  have z3 := oR.cell x3 (fun e => e)
  have z4 := oR.cell x4 (fun e => e)
  have hb4 := oR.heap (unhide HB3) (fun e => e)
  have HD4 := hide ((unhide HD3).same oR)
  have HS4 : Hid ((w3.alloc (.cells #[Value.nilFunc, Value.func (Fn.func 41) #[Value.pointer (some ⟨db, 0, none⟩)] #[], Value.func (Fn.func 42) #[Value.pointer (some ⟨db, 0, none⟩)] #[], Value.func (Fn.func 43) #[Value.pointer (some ⟨db, 0, none⟩)] #[], Value.func (Fn.func 44) #[Value.pointer (some ⟨db, 0, none⟩)] #[], Value.func (Fn.func 45) #[Value.pointer (some ⟨db, 0, none⟩)] #[], Value.func (Fn.func 46) #[Value.pointer (some ⟨db, 0, none⟩)] #[], Value.func (Fn.func 47) #[Value.pointer (some ⟨db, 0, none⟩)] #[], Value.func (Fn.func 48) #[Value.pointer (some ⟨db, 0, none⟩)] #[], Value.func (Fn.func 43) #[Value.pointer (some ⟨db, 0, none⟩)] #[], Value.func (Fn.func 45) #[Value.pointer (some ⟨db, 0, none⟩)] #[]] 88)).heap.size = w3.heap.size + 1) := by show _ = _; simp
  have HCR := hide (unhide HR _ v2 (unhide HD4).now ((unhide HD4).tabs (unhide HT)))
  have HB4 := hide hb4
  clear oR hb4 x0 x1 x2 x3 x4 HB3 HR
  go_upto_region 5 with fail
  generalize w3.alloc (.cells #[Value.nilFunc, Value.func (Fn.func 41) #[Value.pointer (some ⟨db, 0, none⟩)] #[], Value.func (Fn.func 42) #[Value.pointer (some ⟨db, 0, none⟩)] #[], Value.func (Fn.func 43) #[Value.pointer (some ⟨db, 0, none⟩)] #[], Value.func (Fn.func 44) #[Value.pointer (some ⟨db, 0, none⟩)] #[], Value.func (Fn.func 45) #[Value.pointer (some ⟨db, 0, none⟩)] #[], Value.func (Fn.func 46) #[Value.pointer (some ⟨db, 0, none⟩)] #[], Value.func (Fn.func 47) #[Value.pointer (some ⟨db, 0, none⟩)] #[], Value.func (Fn.func 48) #[Value.pointer (some ⟨db, 0, none⟩)] #[], Value.func (Fn.func 43) #[Value.pointer (some ⟨db, 0, none⟩)] #[], Value.func (Fn.func 45) #[Value.pointer (some ⟨db, 0, none⟩)] #[]] 88) = w4 at *
  have hup : ¬ (w2.heap.size = rb ∨ w2.heap.size = cb) := by
    have h1 := lt_of_block (unhide HD).rd.blk
    have h2 := lt_of_block (unhide HD).cnt
    have := unhide HS1
    omega
  cases R with
  | err er =>
    have hep := unhide HPos er rfl
    have e4 : (er == 0) = false := by rw [beq_eq_false_iff_ne]; omega
    rw [after] at HE
    go_wp2_with fail
    refine (unhide HCR).mono ?_
    rintro e w5 ⟨rfl, o5⟩
    have hb5 := o5.heap (unhide HB4) hne
    have HO5 := hide ((unhide HD4).only.trans o5 (fun _ _ e => e))
    have oI : Only (fun _ => False) w5 (w5.alloc (.cells #[.int .i64 0, .int .i64 0, .int .i64 0, .slice none 0 0, .slice none 0 0] 25)) := (Only.refl _ _).alloc _
    have hb6 := oI.heap hb5 (fun e => e)
    have HB6 := hide hb6
    have HO6 := hide ((unhide HO5).trans oI (fun _ _ e => e.elim))
    have HS6 : Hid ((∀ i, (w5.alloc (.cells #[.int .i64 0, .int .i64 0, .int .i64 0, .slice none 0 0, .slice none 0 0] 25)).frozen? ⟨w.heap.size, i, none⟩ = false) ∧ (w5.alloc (.cells #[.int .i64 0, .int .i64 0, .int .i64 0, .slice none 0 0, .slice none 0 0] 25)).cell? ⟨w.heap.size, 0, none⟩ = some (.int .i64 0) ∧ (w5.alloc (.cells #[.int .i64 0, .int .i64 0, .int .i64 0, .slice none 0 0, .slice none 0 0] 25)).cell? ⟨w.heap.size, 1, none⟩ = some (.int .i64 0) ∧ (w5.alloc (.cells #[.int .i64 0, .int .i64 0, .int .i64 0, .slice none 0 0, .slice none 0 0] 25)).cell? ⟨w.heap.size, 2, none⟩ = some (.int .i64 0) ∧ (w5.alloc (.cells #[.int .i64 0, .int .i64 0, .int .i64 0, .slice none 0 0, .slice none 0 0] 25)).cell? ⟨w.heap.size, 3, none⟩ = some (.slice none 0 0) ∧ (w5.alloc (.cells #[.int .i64 0, .int .i64 0, .int .i64 0, .slice none 0 0, .slice none 0 0] 25)).cell? ⟨w.heap.size, 4, none⟩ = some (.slice none 0 0)) := ⟨by simp [World.frozen?, hb6], cells_of5 hb6⟩
    clear o5 hb5 oI hb6 HCR hR z0 z1 z2 z3 z4
    go_upto_region 6 with fail
    generalize w5.alloc (.cells #[.int .i64 0, .int .i64 0, .int .i64 0, .slice none 0 0, .slice none 0 0] 25) = w6 at *
    obtain ⟨hf, s0, s1, s2, s3, s4⟩ := unhide HS6
    go_wp2
    obtain ⟨hb7, o7⟩ := put5 (unhide HB6) (.int .i64 0) (.int .i64 0) (.int .i64 0) (.slice none 0 0) (.slice none 0 0)
    refine bodyPost_ret (results_it2 rfl _ _ w.heap.size 0 0 0 none 0 0 none 0 0 rfl (cells_of5 hb7)) rfl ?_
    exact iOut_err (unhide HE).symm (only_set (unhide HO6) (o7.mono (fun k _ e => by omega)))
  | ok nn d ks r' c' =>
    have hrl := unhide HLen nn d ks r' c' rfl
    rw [after, fin] at HE
    go_wp2_with fail
    refine (unhide HCR).mono ?_
    rintro e w5 ⟨dv, kv, v5, rfl, hit, d5⟩
    obtain ⟨⟨da, dc, hds⟩, ka, kc, hks⟩ := hit.shapes
    simp only [It.data, It.kids] at hds hks
    subst hds
    subst hks
    have hb5 := d5.only.heap (unhide HB4) hne
    have u0 := d5.only.cell z0 hup
    have u1 := d5.only.cell z1 hup
    have HD5 := hide ((unhide HD4).trans d5)
    have hs5 := d5.only.size
    obtain ⟨⟨x0, x1, x2, x3, x4⟩, oI⟩ := boxed w5 (.int .i64 0) (.int .i64 0) (.int .i64 nn) (.slice da d.length dc) (.slice ka ks.length kc)
    have hbi := heap_alloc_new w5 (.cells #[.int .i64 0, .int .i64 0, .int .i64 nn, .slice da d.length dc, .slice ka ks.length kc] 25)
    have hb6 := oI.heap hb5 (fun e => e)
    have q0 := oI.cell u0 (fun e => e)
    have q1 := oI.cell u1 (fun e => e)
    have HD6 := hide ((unhide HD5).same oI)
    have HIT6 := hide ((ItAt.mono (R := fun k => w4.heap.size ≤ k ∧ k < w5.heap.size) (fun k hk hq => ⟨hq, hk⟩) _ hit).same oI)
    have HPd := hide (padding_any (unhide HD6).now L hL hrl)
    have HB6 := hide hb6
    have HBI := hide hbi
    have HLT : Hid (w.heap.size < w4.heap.size ∧ w4.heap.size ≤ w5.heap.size) := ⟨by have := unhide HS4; have := unhide HS3; have := unhide HS1; omega, hs5⟩
    clear d5 hb5 oI hb6 hbi HCR hR z0 z1 z2 z3 z4 hit u0 u1 x0 x1 x2 x3 x4 hs5
    generalize hdl : d.length = dl at *
    generalize hkl : ks.length = kl at *
    go_upto_region 6 with fail
    generalize w5.alloc (.cells #[.int .i64 0, .int .i64 0, .int .i64 nn, .slice da dl dc, .slice ka kl kc] 25) = w6 at *
    cases hp : pads (pad8 L - L) r' with
    | err er =>
      have hep := pads_err _ _ _ hp
      have e4 : (er == 0) = false := by rw [beq_eq_false_iff_ne]; omega
      rw [hp] at HE HPd
      clear hp
      go_wp2_with fail
      refine (unhide HPd).mono ?_
      rintro e w7 ⟨rfl, o7⟩
      have hb7 := o7.heap (unhide HB6) hne
      have HO7 := hide ((unhide HD6).only.trans o7 (fun _ _ e => e))
      have HB7 := hide hb7
      have hf : ∀ i, w7.frozen? ⟨w.heap.size, i, none⟩ = false := by simp [World.frozen?, hb7]
      obtain ⟨s0, s1, s2, s3, s4⟩ := cells_of5 hb7
      clear o7 hb7 HPd q0 q1 hdl hkl
      go_wp2
      obtain ⟨hb8, o8⟩ := put5 (unhide HB7) (.int .i64 0) (.int .i64 0) (.int .i64 0) (.slice none 0 0) (.slice none 0 0)
      refine bodyPost_ret (results_it2 rfl _ _ w.heap.size 0 0 0 none 0 0 none 0 0 rfl (cells_of5 hb8)) rfl ?_
      exact iOut_err (unhide HE).symm (only_set (unhide HO7) (o8.mono (fun k _ e => by omega)))
    | ok r2 =>
      rw [hp] at HE HPd
      clear hp
      go_wp2_with fail
      refine (unhide HPd).mono ?_
      rintro e w7 ⟨rfl, v7, d7⟩
      have hb7 := d7.only.heap (unhide HB6) hne
      have hni : ¬ (w5.heap.size = rb ∨ w5.heap.size = cb) := by
        have h1 := lt_of_block (unhide HD).rd.blk
        have h2 := lt_of_block (unhide HD).cnt
        have := unhide HLT
        omega
      have hbi := d7.only.heap (unhide HBI) hni
      have t0 := d7.only.cell q0 hup
      have t1 := d7.only.cell q1 hup
      have HD7 := hide ((unhide HD6).trans d7)
      have HIT7 := hide (ItAt.only d7.only (fun k _ hk e => by
        have h1 := lt_of_block (unhide HD).rd.blk
        have h2 := lt_of_block (unhide HD).cnt
        have := unhide HLT
        omega) _ (unhide HIT6))
      have HB7 := hide hb7
      have HBI7 := hide hbi
      obtain ⟨i0, i1, i2, i3, i4⟩ := cells_of5 hbi
      have hfi : ∀ i, w7.frozen? ⟨w5.heap.size, i, none⟩ = false := by simp [World.frozen?, hbi]
      have hn1 : ¬ w2.heap.size = w5.heap.size := by have := unhide HLT; have := unhide HS4; have := unhide HS3; omega
      have hn2 : ¬ w5.heap.size = w2.heap.size := by omega
      clear d7 hb7 hbi HPd q0 q1
      go_wp2_with fail
      go_region
      have o8 : Only (fun k => k = w5.heap.size) w7 ((w7.setCell ⟨w5.heap.size, 0, none⟩ (.int .i64 T)).setCell ⟨w5.heap.size, 1, none⟩ (.int .i64 7)).drew := (((Only.refl _ _).here 0 _).here 1 _).drew
      have hbi8 : ((w7.setCell ⟨w5.heap.size, 0, none⟩ (.int .i64 T)).setCell ⟨w5.heap.size, 1, none⟩ (.int .i64 7)).drew.heap[w5.heap.size]? = some (.cells #[.int .i64 T, .int .i64 7, .int .i64 nn, .slice da dl dc, .slice ka kl kc] 25 (0, 0)) := two_setCell (i := 1) (two_setCell (i := 0) (unhide HBI7))
      have hb8 := o8.heap (unhide HB7) (show ¬ w.heap.size = w5.heap.size by have := unhide HLT; omega)
      have HB8 := hide hb8
      have HO8 := hide o8
      have hf : ∀ i, ((w7.setCell ⟨w5.heap.size, 0, none⟩ (.int .i64 T)).setCell ⟨w5.heap.size, 1, none⟩ (.int .i64 7)).drew.frozen? ⟨w.heap.size, i, none⟩ = false := by simp [World.frozen?, hb8]
      have HF := hide hf
      have HC8 := hide (cells_of5 hb8)
      have HC9 := hide (cells_of5 hbi8)
      clear o8 hbi8 hb8 hf i0 i1 i2 i3 i4 hfi t0 t1
      generalize ((w7.setCell ⟨w5.heap.size, 0, none⟩ (.int .i64 T)).setCell ⟨w5.heap.size, 1, none⟩ (.int .i64 7)).drew = w8 at *
      have hf := unhide HF
      obtain ⟨s0, s1, s2, s3, s4⟩ := unhide HC8
      obtain ⟨i0, i1, i2, i3, i4⟩ := unhide HC9
      have hn3 : ¬ w5.heap.size = w.heap.size := by have := unhide HLT; omega
      go_wp2
      obtain ⟨hb9, o9⟩ := put5 (unhide HB8) (.int .i64 T) (.int .i64 7) (.int .i64 nn) (.slice da dl dc) (.slice ka kl kc)
      refine bodyPost_ret (results_it2 rfl _ _ w.heap.size T 7 nn da dl dc ka kl kc rfl (cells_of5 hb9)) rfl ?_
      have hlt := unhide HLT
      refine iOut_ok (it := .mk T 7 nn d ks) (unhide HE).symm ?_ ((unhide HD).set (unhide HD7) (((unhide HO8).mono (T := fun k => w.heap.size ≤ k) (fun k _ e => by omega)).trans o9 (fun k _ e => by omega)))
      have hi := ItAt.only o9 (fun k _ hk e => by omega) _ (ItAt.only (unhide HO8) (fun k _ hk e => by omega) _ (unhide HIT7))
      exact ItAt.mono (fun k _ hk => by omega) (m + 1) hi

set_option maxHeartbeats 4000000 in
set_option maxRecDepth 100000 in
theorem item_8 (h : DcAt w db rb cb depth v r c) (hT : Tabs w) (m T L : Nat) (R : RB)
    (HH : Hid (∀ W, DcAt W db rb cb depth v r c → Calls Tryd.prog 40 #[.pointer (some ⟨db, 0, none⟩)] W (HOut W db rb cb depth v r c (.ok T 8 L))))
    (HR : Hid (∀ W v', DcAt W db rb cb depth v' (r.drop 8) (c + 1) → Tabs W → Calls Tryd.prog 48 #[.pointer (some ⟨db, 0, none⟩), .int .i64 L] W (ROut W db rb cb depth v' m R)))
    (hpos : ∀ er, R = .err er → 0 < er) (hlen : ∀ n d ks r' c', R = .ok n d ks r' c' → r'.length ≤ 140737488355328) (hL : L ≤ 140737488355320) :
    Calls Tryd.prog 25 #[.pointer (some ⟨db, 0, none⟩)] w (IOut w db rb cb depth v m (after T 8 L R)) := by
  obtain ⟨w1, hw1, h1, hb, o1⟩ := zeroed h
  obtain ⟨X, hE⟩ : ∃ X, after T 8 L R = X := ⟨_, rfl⟩
  rw [hE]
  have HE := hide hE
  have HD := hide h
  have HB := hide hb
  have HO := hide o1
  have HT := hide hT
  have HC := hide (unhide HH _ h1)
  have HS1 : Hid (w1.heap.size = w.heap.size + 1) := by show _ = _; rw [hw1]; simp
  have hne : ¬ (w.heap.size = rb ∨ w.heap.size = cb) := by
    have h1 := lt_of_block h.rd.blk
    have h2 := lt_of_block h.cnt
    omega
  have HPos := hide hpos
  have HLen := hide hlen
  clear h h1 hE hb o1 HH hT hpos hlen
  go_enter Tryd.func25, Tryd.ntmps25
  subst hw1
  go_wp2_with fail
  refine (unhide HC).mono ?_
  rintro e w2 ⟨rfl, v2, d2⟩
  generalize w.alloc (.cells #[.int .i64 0, .int .i64 0, .int .i64 0, .slice none 0 0, .slice none 0 0] 25) = w1 at *
  have hs2 := d2.only.size
  have HD2 := hide (((unhide HD).to (unhide HO)).trans d2)
  have hb2 := d2.only.heap (unhide HB) hne
  -- the box of the head, the row of readers
  obtain ⟨⟨x0, x1, x2, x3, x4⟩, oA⟩ := boxed w2 (.int .i64 T) (.int .i64 8) (.int .i64 0) (.slice none 0 0) (.slice none 0 0)
  have HD3 := hide ((unhide HD2).same oA)
  have hb3 := oA.heap hb2 (fun e => e)
  have HS3 : Hid ((w2.alloc (.cells #[.int .i64 T, .int .i64 8, .int .i64 0, .slice none 0 0, .slice none 0 0] 25)).heap.size = w2.heap.size + 1) := by show _ = _; simp
  have HB3 := hide hb3
  clear d2 hb2 oA hb3 HC
  go_upto_region 2 with fail
  generalize w2.alloc (.cells #[.int .i64 T, .int .i64 8, .int .i64 0, .slice none 0 0, .slice none 0 0] 25) = w3 at *
  have oR : Only (fun _ => False) w3 (w3.alloc (.cells #[Value.nilFunc, Value.func (Fn.func 41) #[Value.pointer (some ⟨db, 0, none⟩)] #[], Value.func (Fn.func 42) #[Value.pointer (some ⟨db, 0, none⟩)] #[], Value.func (Fn.func 43) #[Value.pointer (some ⟨db, 0, none⟩)] #[], Value.func (Fn.func 44) #[Value.pointer (some ⟨db, 0, none⟩)] #[], Value.func (Fn.func 45) #[Value.pointer (some ⟨db, 0, none⟩)] #[], Value.func (Fn.func 46) #[Value.pointer (some ⟨db, 0, none⟩)] #[], Value.func (Fn.func 47) #[Value.pointer (some ⟨db, 0, none⟩)] #[], Value.func (Fn.func 48) #[Value.pointer (some ⟨db, 0, none⟩)] #[], Value.func (Fn.func 43) #[Value.pointer (some ⟨db, 0, none⟩)] #[], Value.func (Fn.func 45) #[Value.pointer (some ⟨db, 0, none⟩)] #[]] 88)) := (Only.refl _ _).alloc _
  have hR : (w3.alloc (.cells #[Value.nilFunc, Value.func (Fn.func 41) #[Value.pointer (some ⟨db, 0, none⟩)] #[], Value.func (Fn.func 42) #[Value.pointer (some ⟨db, 0, none⟩)] #[], Value.func (Fn.func 43) #[Value.pointer (some ⟨db, 0, none⟩)] #[], Value.func (Fn.func 44) #[Value.pointer (some ⟨db, 0, none⟩)] #[], Value.func (Fn.func 45) #[Value.pointer (some ⟨db, 0, none⟩)] #[], Value.func (Fn.func 46) #[Value.pointer (some ⟨db, 0, none⟩)] #[], Value.func (Fn.func 47) #[Value.pointer (some ⟨db, 0, none⟩)] #[], Value.func (Fn.func 48) #[Value.pointer (some ⟨db, 0, none⟩)] #[], Value.func (Fn.func 43) #[Value.pointer (some ⟨db, 0, none⟩)] #[], Value.func (Fn.func 45) #[Value.pointer (some ⟨db, 0, none⟩)] #[]] 88)).cell? ⟨w3.heap.size, 8, none⟩ = some (Value.func (Fn.func 48) #[Value.pointer (some ⟨db, 0, none⟩)] #[]) := (cell_of_heap (heap_alloc_new w3 (.cells #[Value.nilFunc, Value.func (Fn.func 41) #[Value.pointer (some ⟨db, 0, none⟩)] #[], Value.func (Fn.func 42) #[Value.pointer (some ⟨db, 0, none⟩)] #[], Value.func (Fn.func 43) #[Value.pointer (some ⟨db, 0, none⟩)] #[], Value.func (Fn.func 44) #[Value.pointer (some ⟨db, 0, none⟩)] #[], Value.func (Fn.func 45) #[Value.pointer (some ⟨db, 0, none⟩)] #[], Value.func (Fn.func 46) #[Value.pointer (some ⟨db, 0, none⟩)] #[], Value.func (Fn.func 47) #[Value.pointer (some ⟨db, 0, none⟩)] #[], Value.func (Fn.func 48) #[Value.pointer (some ⟨db, 0, none⟩)] #[], Value.func (Fn.func 43) #[Value.pointer (some ⟨db, 0, none⟩)] #[], Value.func (Fn.func 45) #[Value.pointer (some ⟨db, 0, none⟩)] #[]] 88))).trans rfl
  have z0 := oR.cell x0 (fun e => e)
  have z1 := oR.cell x1 (fun e => e)
  have z2 := oR.cell x2 (fun e => e)
  have z3 := oR.cell x3 (fun e => e)
  have z4 := oR.cell x4 (fun e => e)
  have hb4 := oR.heap (unhide HB3) (fun e => e)
  have HD4 := hide ((unhide HD3).same oR)
  have HS4 : Hid ((w3.alloc (.cells #[Value.nilFunc, Value.func (Fn.func 41) #[Value.pointer (some ⟨db, 0, none⟩)] #[], Value.func (Fn.func 42) #[Value.pointer (some ⟨db, 0, none⟩)] #[], Value.func (Fn.func 43) #[Value.pointer (some ⟨db, 0, none⟩)] #[], Value.func (Fn.func 44) #[Value.pointer (some ⟨db, 0, none⟩)] #[], Value.func (Fn.func 45) #[Value.pointer (some ⟨db, 0, none⟩)] #[], Value.func (Fn.func 46) #[Value.pointer (some ⟨db, 0, none⟩)] #[], Value.func (Fn.func 47) #[Value.pointer (some ⟨db, 0, none⟩)] #[], Value.func (Fn.func 48) #[Value.pointer (some ⟨db, 0, none⟩)] #[], Value.func (Fn.func 43) #[Value.pointer (some ⟨db, 0, none⟩)] #[], Value.func (Fn.func 45) #[Value.pointer (some ⟨db, 0, none⟩)] #[]] 88)).heap.size = w3.heap.size + 1) := by show _ = _; simp
  have HCR := hide (unhide HR _ v2 (unhide HD4).now ((unhide HD4).tabs (unhide HT)))
  have HB4 := hide hb4
  clear oR hb4 x0 x1 x2 x3 x4 HB3 HR
  go_upto_region 5 with fail
  generalize w3.alloc (.cells #[Value.nilFunc, Value.func (Fn.func 41) #[Value.pointer (some ⟨db, 0, none⟩)] #[], Value.func (Fn.func 42) #[Value.pointer (some ⟨db, 0, none⟩)] #[], Value.func (Fn.func 43) #[Value.pointer (some ⟨db, 0, none⟩)] #[], Value.func (Fn.func 44) #[Value.pointer (some ⟨db, 0, none⟩)] #[], Value.func (Fn.func 45) #[Value.pointer (some ⟨db, 0, none⟩)] #[], Value.func (Fn.func 46) #[Value.pointer (some ⟨db, 0, none⟩)] #[], Value.func (Fn.func 47) #[Value.pointer (some ⟨db, 0, none⟩)] #[], Value.func (Fn.func 48) #[Value.pointer (some ⟨db, 0, none⟩)] #[], Value.func (Fn.func 43) #[Value.pointer (some ⟨db, 0, none⟩)] #[], Value.func (Fn.func 45) #[Value.pointer (some ⟨db, 0, none⟩)] #[]] 88) = w4 at *
  have hup : ¬ (w2.heap.size = rb ∨ w2.heap.size = cb) := by
    have h1 := lt_of_block (unhide HD).rd.blk
    have h2 := lt_of_block (unhide HD).cnt
    have := unhide HS1
    omega
  cases R with
  | err er =>
    have hep := unhide HPos er rfl
    have e4 : (er == 0) = false := by rw [beq_eq_false_iff_ne]; omega
    rw [after] at HE
    go_wp2_with fail
    refine (unhide HCR).mono ?_
    rintro e w5 ⟨rfl, o5⟩
    have hb5 := o5.heap (unhide HB4) hne
    have HO5 := hide ((unhide HD4).only.trans o5 (fun _ _ e => e))
    have oI : Only (fun _ => False) w5 (w5.alloc (.cells #[.int .i64 0, .int .i64 0, .int .i64 0, .slice none 0 0, .slice none 0 0] 25)) := (Only.refl _ _).alloc _
    have hb6 := oI.heap hb5 (fun e => e)
    have HB6 := hide hb6
    have HO6 := hide ((unhide HO5).trans oI (fun _ _ e => e.elim))
    have HS6 : Hid ((∀ i, (w5.alloc (.cells #[.int .i64 0, .int .i64 0, .int .i64 0, .slice none 0 0, .slice none 0 0] 25)).frozen? ⟨w.heap.size, i, none⟩ = false) ∧ (w5.alloc (.cells #[.int .i64 0, .int .i64 0, .int .i64 0, .slice none 0 0, .slice none 0 0] 25)).cell? ⟨w.heap.size, 0, none⟩ = some (.int .i64 0) ∧ (w5.alloc (.cells #[.int .i64 0, .int .i64 0, .int .i64 0, .slice none 0 0, .slice none 0 0] 25)).cell? ⟨w.heap.size, 1, none⟩ = some (.int .i64 0) ∧ (w5.alloc (.cells #[.int .i64 0, .int .i64 0, .int .i64 0, .slice none 0 0, .slice none 0 0] 25)).cell? ⟨w.heap.size, 2, none⟩ = some (.int .i64 0) ∧ (w5.alloc (.cells #[.int .i64 0, .int .i64 0, .int .i64 0, .slice none 0 0, .slice none 0 0] 25)).cell? ⟨w.heap.size, 3, none⟩ = some (.slice none 0 0) ∧ (w5.alloc (.cells #[.int .i64 0, .int .i64 0, .int .i64 0, .slice none 0 0, .slice none 0 0] 25)).cell? ⟨w.heap.size, 4, none⟩ = some (.slice none 0 0)) := ⟨by simp [World.frozen?, hb6], cells_of5 hb6⟩
    clear o5 hb5 oI hb6 HCR hR z0 z1 z2 z3 z4
    go_upto_region 6 with fail
    generalize w5.alloc (.cells #[.int .i64 0, .int .i64 0, .int .i64 0, .slice none 0 0, .slice none 0 0] 25) = w6 at *
    obtain ⟨hf, s0, s1, s2, s3, s4⟩ := unhide HS6
    go_wp2
    obtain ⟨hb7, o7⟩ := put5 (unhide HB6) (.int .i64 0) (.int .i64 0) (.int .i64 0) (.slice none 0 0) (.slice none 0 0)
    refine bodyPost_ret (results_it2 rfl _ _ w.heap.size 0 0 0 none 0 0 none 0 0 rfl (cells_of5 hb7)) rfl ?_
    exact iOut_err (unhide HE).symm (only_set (unhide HO6) (o7.mono (fun k _ e => by omega)))
  | ok nn d ks r' c' =>
    have hrl := unhide HLen nn d ks r' c' rfl
    rw [after, fin] at HE
    go_wp2_with fail
    refine (unhide HCR).mono ?_
    rintro e w5 ⟨dv, kv, v5, rfl, hit, d5⟩
    obtain ⟨⟨da, dc, hds⟩, ka, kc, hks⟩ := hit.shapes
    simp only [It.data, It.kids] at hds hks
    subst hds
    subst hks
    have hb5 := d5.only.heap (unhide HB4) hne
    have u0 := d5.only.cell z0 hup
    have u1 := d5.only.cell z1 hup
    have HD5 := hide ((unhide HD4).trans d5)
    have hs5 := d5.only.size
    obtain ⟨⟨x0, x1, x2, x3, x4⟩, oI⟩ := boxed w5 (.int .i64 0) (.int .i64 0) (.int .i64 nn) (.slice da d.length dc) (.slice ka ks.length kc)
    have hbi := heap_alloc_new w5 (.cells #[.int .i64 0, .int .i64 0, .int .i64 nn, .slice da d.length dc, .slice ka ks.length kc] 25)
    have hb6 := oI.heap hb5 (fun e => e)
    have q0 := oI.cell u0 (fun e => e)
    have q1 := oI.cell u1 (fun e => e)
    have HD6 := hide ((unhide HD5).same oI)
    have HIT6 := hide ((ItAt.mono (R := fun k => w4.heap.size ≤ k ∧ k < w5.heap.size) (fun k hk hq => ⟨hq, hk⟩) _ hit).same oI)
    have HPd := hide (padding_any (unhide HD6).now L hL hrl)
    have HB6 := hide hb6
    have HBI := hide hbi
    have HLT : Hid (w.heap.size < w4.heap.size ∧ w4.heap.size ≤ w5.heap.size) := ⟨by have := unhide HS4; have := unhide HS3; have := unhide HS1; omega, hs5⟩
    clear d5 hb5 oI hb6 hbi HCR hR z0 z1 z2 z3 z4 hit u0 u1 x0 x1 x2 x3 x4 hs5
    generalize hdl : d.length = dl at *
    generalize hkl : ks.length = kl at *
    go_upto_region 6 with fail
    generalize w5.alloc (.cells #[.int .i64 0, .int .i64 0, .int .i64 nn, .slice da dl dc, .slice ka kl kc] 25) = w6 at *
    cases hp : pads (pad8 L - L) r' with
    | err er =>
      have hep := pads_err _ _ _ hp
      have e4 : (er == 0) = false := by rw [beq_eq_false_iff_ne]; omega
      rw [hp] at HE HPd
      clear hp
      go_wp2_with fail
      refine (unhide HPd).mono ?_
      rintro e w7 ⟨rfl, o7⟩
      have hb7 := o7.heap (unhide HB6) hne
      have HO7 := hide ((unhide HD6).only.trans o7 (fun _ _ e => e))
      have HB7 := hide hb7
      have hf : ∀ i, w7.frozen? ⟨w.heap.size, i, none⟩ = false := by simp [World.frozen?, hb7]
      obtain ⟨s0, s1, s2, s3, s4⟩ := cells_of5 hb7
      clear o7 hb7 HPd q0 q1 hdl hkl
      go_wp2
      obtain ⟨hb8, o8⟩ := put5 (unhide HB7) (.int .i64 0) (.int .i64 0) (.int .i64 0) (.slice none 0 0) (.slice none 0 0)
      refine bodyPost_ret (results_it2 rfl _ _ w.heap.size 0 0 0 none 0 0 none 0 0 rfl (cells_of5 hb8)) rfl ?_
      exact iOut_err (unhide HE).symm (only_set (unhide HO7) (o8.mono (fun k _ e => by omega)))
    | ok r2 =>
      rw [hp] at HE HPd
      clear hp
      go_wp2_with fail
      refine (unhide HPd).mono ?_
      rintro e w7 ⟨rfl, v7, d7⟩
      have hb7 := d7.only.heap (unhide HB6) hne
      have hni : ¬ (w5.heap.size = rb ∨ w5.heap.size = cb) := by
        have h1 := lt_of_block (unhide HD).rd.blk
        have h2 := lt_of_block (unhide HD).cnt
        have := unhide HLT
        omega
      have hbi := d7.only.heap (unhide HBI) hni
      have t0 := d7.only.cell q0 hup
      have t1 := d7.only.cell q1 hup
      have HD7 := hide ((unhide HD6).trans d7)
      have HIT7 := hide (ItAt.only d7.only (fun k _ hk e => by
        have h1 := lt_of_block (unhide HD).rd.blk
        have h2 := lt_of_block (unhide HD).cnt
        have := unhide HLT
        omega) _ (unhide HIT6))
      have HB7 := hide hb7
      have HBI7 := hide hbi
      obtain ⟨i0, i1, i2, i3, i4⟩ := cells_of5 hbi
      have hfi : ∀ i, w7.frozen? ⟨w5.heap.size, i, none⟩ = false := by simp [World.frozen?, hbi]
      have hn1 : ¬ w2.heap.size = w5.heap.size := by have := unhide HLT; have := unhide HS4; have := unhide HS3; omega
      have hn2 : ¬ w5.heap.size = w2.heap.size := by omega
      clear d7 hb7 hbi HPd q0 q1
      go_wp2_with fail
      go_region
      have o8 : Only (fun k => k = w5.heap.size) w7 ((w7.setCell ⟨w5.heap.size, 0, none⟩ (.int .i64 T)).setCell ⟨w5.heap.size, 1, none⟩ (.int .i64 8)).drew := (((Only.refl _ _).here 0 _).here 1 _).drew
      have hbi8 : ((w7.setCell ⟨w5.heap.size, 0, none⟩ (.int .i64 T)).setCell ⟨w5.heap.size, 1, none⟩ (.int .i64 8)).drew.heap[w5.heap.size]? = some (.cells #[.int .i64 T, .int .i64 8, .int .i64 nn, .slice da dl dc, .slice ka kl kc] 25 (0, 0)) := two_setCell (i := 1) (two_setCell (i := 0) (unhide HBI7))
      have hb8 := o8.heap (unhide HB7) (show ¬ w.heap.size = w5.heap.size by have := unhide HLT; omega)
      have HB8 := hide hb8
      have HO8 := hide o8
      have hf : ∀ i, ((w7.setCell ⟨w5.heap.size, 0, none⟩ (.int .i64 T)).setCell ⟨w5.heap.size, 1, none⟩ (.int .i64 8)).drew.frozen? ⟨w.heap.size, i, none⟩ = false := by simp [World.frozen?, hb8]
      have HF := hide hf
      have HC8 := hide (cells_of5 hb8)
      have HC9 := hide (cells_of5 hbi8)
      clear o8 hbi8 hb8 hf i0 i1 i2 i3 i4 hfi t0 t1
      generalize ((w7.setCell ⟨w5.heap.size, 0, none⟩ (.int .i64 T)).setCell ⟨w5.heap.size, 1, none⟩ (.int .i64 8)).drew = w8 at *
      have hf := unhide HF
      obtain ⟨s0, s1, s2, s3, s4⟩ := unhide HC8
      obtain ⟨i0, i1, i2, i3, i4⟩ := unhide HC9
      have hn3 : ¬ w5.heap.size = w.heap.size := by have := unhide HLT; omega
      go_wp2
      obtain ⟨hb9, o9⟩ := put5 (unhide HB8) (.int .i64 T) (.int .i64 8) (.int .i64 nn) (.slice da dl dc) (.slice ka kl kc)
      refine bodyPost_ret (results_it2 rfl _ _ w.heap.size T 8 nn da dl dc ka kl kc rfl (cells_of5 hb9)) rfl ?_
      have hlt := unhide HLT
      refine iOut_ok (it := .mk T 8 nn d ks) (unhide HE).symm ?_ ((unhide HD).set (unhide HD7) (((unhide HO8).mono (T := fun k => w.heap.size ≤ k) (fun k _ e => by omega)).trans o9 (fun k _ e => by omega)))
      have hi := ItAt.only o9 (fun k _ hk e => by omega) _ (ItAt.only (unhide HO8) (fun k _ hk e => by omega) _ (unhide HIT7))
      exact ItAt.mono (fun k _ hk => by omega) (m + 1) hi

set_option maxHeartbeats 4000000 in
set_option maxRecDepth 100000 in
theorem item_9 (h : DcAt w db rb cb depth v r c) (hT : Tabs w) (m T L : Nat) (R : RB)
    (HH : Hid (∀ W, DcAt W db rb cb depth v r c → Calls Tryd.prog 40 #[.pointer (some ⟨db, 0, none⟩)] W (HOut W db rb cb depth v r c (.ok T 9 L))))
    (HR : Hid (∀ W v', DcAt W db rb cb depth v' (r.drop 8) (c + 1) → Tabs W → Calls Tryd.prog 43 #[.pointer (some ⟨db, 0, none⟩), .int .i64 L] W (ROut W db rb cb depth v' m R)))
    (hpos : ∀ er, R = .err er → 0 < er) (hlen : ∀ n d ks r' c', R = .ok n d ks r' c' → r'.length ≤ 140737488355328) (hL : L ≤ 140737488355320) :
    Calls Tryd.prog 25 #[.pointer (some ⟨db, 0, none⟩)] w (IOut w db rb cb depth v m (after T 9 L R)) := by
  obtain ⟨w1, hw1, h1, hb, o1⟩ := zeroed h
  obtain ⟨X, hE⟩ : ∃ X, after T 9 L R = X := ⟨_, rfl⟩
  rw [hE]
  have HE := hide hE
  have HD := hide h
  have HB := hide hb
  have HO := hide o1
  have HT := hide hT
  have HC := hide (unhide HH _ h1)
  have HS1 : Hid (w1.heap.size = w.heap.size + 1) := by show _ = _; rw [hw1]; simp
  have hne : ¬ (w.heap.size = rb ∨ w.heap.size = cb) := by
    have h1 := lt_of_block h.rd.blk
    have h2 := lt_of_block h.cnt
    omega
  have HPos := hide hpos
  have HLen := hide hlen
  clear h h1 hE hb o1 HH hT hpos hlen
  go_enter Tryd.func25, Tryd.ntmps25
  subst hw1
  go_wp2_with fail
  refine (unhide HC).mono ?_
  rintro e w2 ⟨rfl, v2, d2⟩
  generalize w.alloc (.cells #[.int .i64 0, .int .i64 0, .int .i64 0, .slice none 0 0, .slice none 0 0] 25) = w1 at *
  have hs2 := d2.only.size
  have HD2 := hide (((unhide HD).to (unhide HO)).trans d2)
  have hb2 := d2.only.heap (unhide HB) hne
  -- the box of the head, the row of readers
  obtain ⟨⟨x0, x1, x2, x3, x4⟩, oA⟩ := boxed w2 (.int .i64 T) (.int .i64 9) (.int .i64 0) (.slice none 0 0) (.slice none 0 0)
  have HD3 := hide ((unhide HD2).same oA)
  have hb3 := oA.heap hb2 (fun e => e)
  have HS3 : Hid ((w2.alloc (.cells #[.int .i64 T, .int .i64 9, .int .i64 0, .slice none 0 0, .slice none 0 0] 25)).heap.size = w2.heap.size + 1) := by show _ = _; simp
  have HB3 := hide hb3
  clear d2 hb2 oA hb3 HC
  go_upto_region 2 with fail
  generalize w2.alloc (.cells #[.int .i64 T, .int .i64 9, .int .i64 0, .slice none 0 0, .slice none 0 0] 25) = w3 at *
  have oR : Only (fun _ => False) w3 (w3.alloc (.cells #[Value.nilFunc, Value.func (Fn.func 41) #[Value.pointer (some ⟨db, 0, none⟩)] #[], Value.func (Fn.func 42) #[Value.pointer (some ⟨db, 0, none⟩)] #[], Value.func (Fn.func 43) #[Value.pointer (some ⟨db, 0, none⟩)] #[], Value.func (Fn.func 44) #[Value.pointer (some ⟨db, 0, none⟩)] #[], Value.func (Fn.func 45) #[Value.pointer (some ⟨db, 0, none⟩)] #[], Value.func (Fn.func 46) #[Value.pointer (some ⟨db, 0, none⟩)] #[], Value.func (Fn.func 47) #[Value.pointer (some ⟨db, 0, none⟩)] #[], Value.func (Fn.func 48) #[Value.pointer (some ⟨db, 0, none⟩)] #[], Value.func (Fn.func 43) #[Value.pointer (some ⟨db, 0, none⟩)] #[], Value.func (Fn.func 45) #[Value.pointer (some ⟨db, 0, none⟩)] #[]] 88)) := (Only.refl _ _).alloc _
  have hR : (w3.alloc (.cells #[Value.nilFunc, Value.func (Fn.func 41) #[Value.pointer (some ⟨db, 0, none⟩)] #[], Value.func (Fn.func 42) #[Value.pointer (some ⟨db, 0, none⟩)] #[], Value.func (Fn.func 43) #[Value.pointer (some ⟨db, 0, none⟩)] #[], Value.func (Fn.func 44) #[Value.pointer (some ⟨db, 0, none⟩)] #[], Value.func (Fn.func 45) #[Value.pointer (some ⟨db, 0, none⟩)] #[], Value.func (Fn.func 46) #[Value.pointer (some ⟨db, 0, none⟩)] #[], Value.func (Fn.func 47) #[Value.pointer (some ⟨db, 0, none⟩)] #[], Value.func (Fn.func 48) #[Value.pointer (some ⟨db, 0, none⟩)] #[], Value.func (Fn.func 43) #[Value.pointer (some ⟨db, 0, none⟩)] #[], Value.func (Fn.func 45) #[Value.pointer (some ⟨db, 0, none⟩)] #[]] 88)).cell? ⟨w3.heap.size, 9, none⟩ = some (Value.func (Fn.func 43) #[Value.pointer (some ⟨db, 0, none⟩)] #[]) := (cell_of_heap (heap_alloc_new w3 (.cells #[Value.nilFunc, Value.func (Fn.func 41) #[Value.pointer (some ⟨db, 0, none⟩)] #[], Value.func (Fn.func 42) #[Value.pointer (some ⟨db, 0, none⟩)] #[], Value.func (Fn.func 43) #[Value.pointer (some ⟨db, 0, none⟩)] #[], Value.func (Fn.func 44) #[Value.pointer (some ⟨db, 0, none⟩)] #[], Value.func (Fn.func 45) #[Value.pointer (some ⟨db, 0, none⟩)] #[], Value.func (Fn.func 46) #[Value.pointer (some ⟨db, 0, none⟩)] #[], Value.func (Fn.func 47) #[Value.pointer (some ⟨db, 0, none⟩)] #[], Value.func (Fn.func 48) #[Value.pointer (some ⟨db, 0, none⟩)] #[], Value.func (Fn.func 43) #[Value.pointer (some ⟨db, 0, none⟩)] #[], Value.func (Fn.func 45) #[Value.pointer (some ⟨db, 0, none⟩)] #[]] 88))).trans rfl
  have z0 := oR.cell x0 (fun e => e)
  have z1 := oR.cell x1 (fun e => e)
  have z2 := oR.cell x2 (fun e => e)
  have z3 := oR.cell x3 (fun e => e)
  have z4 := oR.cell x4 (fun e => e)
  have hb4 := oR.heap (unhide HB3) (fun e => e)
  have HD4 := hide ((unhide HD3).same oR)
  have HS4 : Hid ((w3.alloc (.cells #[Value.nilFunc, Value.func (Fn.func 41) #[Value.pointer (some ⟨db, 0, none⟩)] #[], Value.func (Fn.func 42) #[Value.pointer (some ⟨db, 0, none⟩)] #[], Value.func (Fn.func 43) #[Value.pointer (some ⟨db, 0, none⟩)] #[], Value.func (Fn.func 44) #[Value.pointer (some ⟨db, 0, none⟩)] #[], Value.func (Fn.func 45) #[Value.pointer (some ⟨db, 0, none⟩)] #[], Value.func (Fn.func 46) #[Value.pointer (some ⟨db, 0, none⟩)] #[], Value.func (Fn.func 47) #[Value.pointer (some ⟨db, 0, none⟩)] #[], Value.func (Fn.func 48) #[Value.pointer (some ⟨db, 0, none⟩)] #[], Value.func (Fn.func 43) #[Value.pointer (some ⟨db, 0, none⟩)] #[], Value.func (Fn.func 45) #[Value.pointer (some ⟨db, 0, none⟩)] #[]] 88)).heap.size = w3.heap.size + 1) := by show _ = _; simp
  have HCR := hide (unhide HR _ v2 (unhide HD4).now ((unhide HD4).tabs (unhide HT)))
  have HB4 := hide hb4
  clear oR hb4 x0 x1 x2 x3 x4 HB3 HR
  go_upto_region 5 with fail
  generalize w3.alloc (.cells #[Value.nilFunc, Value.func (Fn.func 41) #[Value.pointer (some ⟨db, 0, none⟩)] #[], Value.func (Fn.func 42) #[Value.pointer (some ⟨db, 0, none⟩)] #[], Value.func (Fn.func 43) #[Value.pointer (some ⟨db, 0, none⟩)] #[], Value.func (Fn.func 44) #[Value.pointer (some ⟨db, 0, none⟩)] #[], Value.func (Fn.func 45) #[Value.pointer (some ⟨db, 0, none⟩)] #[], Value.func (Fn.func 46) #[Value.pointer (some ⟨db, 0, none⟩)] #[], Value.func (Fn.func 47) #[Value.pointer (some ⟨db, 0, none⟩)] #[], Value.func (Fn.func 48) #[Value.pointer (some ⟨db, 0, none⟩)] #[], Value.func (Fn.func 43) #[Value.pointer (some ⟨db, 0, none⟩)] #[], Value.func (Fn.func 45) #[Value.pointer (some ⟨db, 0, none⟩)] #[]] 88) = w4 at *
  have hup : ¬ (w2.heap.size = rb ∨ w2.heap.size = cb) := by
    have h1 := lt_of_block (unhide HD).rd.blk
    have h2 := lt_of_block (unhide HD).cnt
    have := unhide HS1
    omega
  cases R with
  | err er =>
    have hep := unhide HPos er rfl
    have e4 : (er == 0) = false := by rw [beq_eq_false_iff_ne]; omega
    rw [after] at HE
    go_wp2_with fail
    refine (unhide HCR).mono ?_
    rintro e w5 ⟨rfl, o5⟩
    have hb5 := o5.heap (unhide HB4) hne
    have HO5 := hide ((unhide HD4).only.trans o5 (fun _ _ e => e))
    have oI : Only (fun _ => False) w5 (w5.alloc (.cells #[.int .i64 0, .int .i64 0, .int .i64 0, .slice none 0 0, .slice none 0 0] 25)) := (Only.refl _ _).alloc _
    have hb6 := oI.heap hb5 (fun e => e)
    have HB6 := hide hb6
    have HO6 := hide ((unhide HO5).trans oI (fun _ _ e => e.elim))
    have HS6 : Hid ((∀ i, (w5.alloc (.cells #[.int .i64 0, .int .i64 0, .int .i64 0, .slice none 0 0, .slice none 0 0] 25)).frozen? ⟨w.heap.size, i, none⟩ = false) ∧ (w5.alloc (.cells #[.int .i64 0, .int .i64 0, .int .i64 0, .slice none 0 0, .slice none 0 0] 25)).cell? ⟨w.heap.size, 0, none⟩ = some (.int .i64 0) ∧ (w5.alloc (.cells #[.int .i64 0, .int .i64 0, .int .i64 0, .slice none 0 0, .slice none 0 0] 25)).cell? ⟨w.heap.size, 1, none⟩ = some (.int .i64 0) ∧ (w5.alloc (.cells #[.int .i64 0, .int .i64 0, .int .i64 0, .slice none 0 0, .slice none 0 0] 25)).cell? ⟨w.heap.size, 2, none⟩ = some (.int .i64 0) ∧ (w5.alloc (.cells #[.int .i64 0, .int .i64 0, .int .i64 0, .slice none 0 0, .slice none 0 0] 25)).cell? ⟨w.heap.size, 3, none⟩ = some (.slice none 0 0) ∧ (w5.alloc (.cells #[.int .i64 0, .int .i64 0, .int .i64 0, .slice none 0 0, .slice none 0 0] 25)).cell? ⟨w.heap.size, 4, none⟩ = some (.slice none 0 0)) := ⟨by simp [World.frozen?, hb6], cells_of5 hb6⟩
    clear o5 hb5 oI hb6 HCR hR z0 z1 z2 z3 z4
    go_upto_region 6 with fail
    generalize w5.alloc (.cells #[.int .i64 0, .int .i64 0, .int .i64 0, .slice none 0 0, .slice none 0 0] 25) = w6 at *
    obtain ⟨hf, s0, s1, s2, s3, s4⟩ := unhide HS6
    go_wp2
    obtain ⟨hb7, o7⟩ := put5 (unhide HB6) (.int .i64 0) (.int .i64 0) (.int .i64 0) (.slice none 0 0) (.slice none 0 0)
    refine bodyPost_ret (results_it2 rfl _ _ w.heap.size 0 0 0 none 0 0 none 0 0 rfl (cells_of5 hb7)) rfl ?_
    exact iOut_err (unhide HE).symm (only_set (unhide HO6) (o7.mono (fun k _ e => by omega)))
  | ok nn d ks r' c' =>
    have hrl := unhide HLen nn d ks r' c' rfl
    rw [after, fin] at HE
    go_wp2_with fail
    refine (unhide HCR).mono ?_
    rintro e w5 ⟨dv, kv, v5, rfl, hit, d5⟩
    obtain ⟨⟨da, dc, hds⟩, ka, kc, hks⟩ := hit.shapes
    simp only [It.data, It.kids] at hds hks
    subst hds
    subst hks
    have hb5 := d5.only.heap (unhide HB4) hne
    have u0 := d5.only.cell z0 hup
    have u1 := d5.only.cell z1 hup
    have HD5 := hide ((unhide HD4).trans d5)
    have hs5 := d5.only.size
    obtain ⟨⟨x0, x1, x2, x3, x4⟩, oI⟩ := boxed w5 (.int .i64 0) (.int .i64 0) (.int .i64 nn) (.slice da d.length dc) (.slice ka ks.length kc)
    have hbi := heap_alloc_new w5 (.cells #[.int .i64 0, .int .i64 0, .int .i64 nn, .slice da d.length dc, .slice ka ks.length kc] 25)
    have hb6 := oI.heap hb5 (fun e => e)
    have q0 := oI.cell u0 (fun e => e)
    have q1 := oI.cell u1 (fun e => e)
    have HD6 := hide ((unhide HD5).same oI)
    have HIT6 := hide ((ItAt.mono (R := fun k => w4.heap.size ≤ k ∧ k < w5.heap.size) (fun k hk hq => ⟨hq, hk⟩) _ hit).same oI)
    have HPd := hide (padding_any (unhide HD6).now L hL hrl)
    have HB6 := hide hb6
    have HBI := hide hbi
    have HLT : Hid (w.heap.size < w4.heap.size ∧ w4.heap.size ≤ w5.heap.size) := ⟨by have := unhide HS4; have := unhide HS3; have := unhide HS1; omega, hs5⟩
    clear d5 hb5 oI hb6 hbi HCR hR z0 z1 z2 z3 z4 hit u0 u1 x0 x1 x2 x3 x4 hs5
    generalize hdl : d.length = dl at *
    generalize hkl : ks.length = kl at *
    go_upto_region 6 with fail
    generalize w5.alloc (.cells #[.int .i64 0, .int .i64 0, .int .i64 nn, .slice da dl dc, .slice ka kl kc] 25) = w6 at *
    cases hp : pads (pad8 L - L) r' with
    | err er =>
      have hep := pads_err _ _ _ hp
      have e4 : (er == 0) = false := by rw [beq_eq_false_iff_ne]; omega
      rw [hp] at HE HPd
      clear hp
      go_wp2_with fail
      refine (unhide HPd).mono ?_
      rintro e w7 ⟨rfl, o7⟩
      have hb7 := o7.heap (unhide HB6) hne
      have HO7 := hide ((unhide HD6).only.trans o7 (fun _ _ e => e))
      have HB7 := hide hb7
      have hf : ∀ i, w7.frozen? ⟨w.heap.size, i, none⟩ = false := by simp [World.frozen?, hb7]
      obtain ⟨s0, s1, s2, s3, s4⟩ := cells_of5 hb7
      clear o7 hb7 HPd q0 q1 hdl hkl
      go_wp2
      obtain ⟨hb8, o8⟩ := put5 (unhide HB7) (.int .i64 0) (.int .i64 0) (.int .i64 0) (.slice none 0 0) (.slice none 0 0)
      refine bodyPost_ret (results_it2 rfl _ _ w.heap.size 0 0 0 none 0 0 none 0 0 rfl (cells_of5 hb8)) rfl ?_
      exact iOut_err (unhide HE).symm (only_set (unhide HO7) (o8.mono (fun k _ e => by omega)))
    | ok r2 =>
      rw [hp] at HE HPd
      clear hp
      go_wp2_with fail
      refine (unhide HPd).mono ?_
      rintro e w7 ⟨rfl, v7, d7⟩
      have hb7 := d7.only.heap (unhide HB6) hne
      have hni : ¬ (w5.heap.size = rb ∨ w5.heap.size = cb) := by
        have h1 := lt_of_block (unhide HD).rd.blk
        have h2 := lt_of_block (unhide HD).cnt
        have := unhide HLT
        omega
      have hbi := d7.only.heap (unhide HBI) hni
      have t0 := d7.only.cell q0 hup
      have t1 := d7.only.cell q1 hup
      have HD7 := hide ((unhide HD6).trans d7)
      have HIT7 := hide (ItAt.only d7.only (fun k _ hk e => by
        have h1 := lt_of_block (unhide HD).rd.blk
        have h2 := lt_of_block (unhide HD).cnt
        have := unhide HLT
        omega) _ (unhide HIT6))
      have HB7 := hide hb7
      have HBI7 := hide hbi
      obtain ⟨i0, i1, i2, i3, i4⟩ := cells_of5 hbi
      have hfi : ∀ i, w7.frozen? ⟨w5.heap.size, i, none⟩ = false := by simp [World.frozen?, hbi]
      have hn1 : ¬ w2.heap.size = w5.heap.size := by have := unhide HLT; have := unhide HS4; have := unhide HS3; omega
      have hn2 : ¬ w5.heap.size = w2.heap.size := by omega
      clear d7 hb7 hbi HPd q0 q1
      go_wp2_with fail
      go_region
      have o8 : Only (fun k => k = w5.heap.size) w7 ((w7.setCell ⟨w5.heap.size, 0, none⟩ (.int .i64 T)).setCell ⟨w5.heap.size, 1, none⟩ (.int .i64 9)).drew := (((Only.refl _ _).here 0 _).here 1 _).drew
      have hbi8 : ((w7.setCell ⟨w5.heap.size, 0, none⟩ (.int .i64 T)).setCell ⟨w5.heap.size, 1, none⟩ (.int .i64 9)).drew.heap[w5.heap.size]? = some (.cells #[.int .i64 T, .int .i64 9, .int .i64 nn, .slice da dl dc, .slice ka kl kc] 25 (0, 0)) := two_setCell (i := 1) (two_setCell (i := 0) (unhide HBI7))
      have hb8 := o8.heap (unhide HB7) (show ¬ w.heap.size = w5.heap.size by have := unhide HLT; omega)
      have HB8 := hide hb8
      have HO8 := hide o8
      have hf : ∀ i, ((w7.setCell ⟨w5.heap.size, 0, none⟩ (.int .i64 T)).setCell ⟨w5.heap.size, 1, none⟩ (.int .i64 9)).drew.frozen? ⟨w.heap.size, i, none⟩ = false := by simp [World.frozen?, hb8]
      have HF := hide hf
      have HC8 := hide (cells_of5 hb8)
      have HC9 := hide (cells_of5 hbi8)
      clear o8 hbi8 hb8 hf i0 i1 i2 i3 i4 hfi t0 t1
      generalize ((w7.setCell ⟨w5.heap.size, 0, none⟩ (.int .i64 T)).setCell ⟨w5.heap.size, 1, none⟩ (.int .i64 9)).drew = w8 at *
      have hf := unhide HF
      obtain ⟨s0, s1, s2, s3, s4⟩ := unhide HC8
      obtain ⟨i0, i1, i2, i3, i4⟩ := unhide HC9
      have hn3 : ¬ w5.heap.size = w.heap.size := by have := unhide HLT; omega
      go_wp2
      obtain ⟨hb9, o9⟩ := put5 (unhide HB8) (.int .i64 T) (.int .i64 9) (.int .i64 nn) (.slice da dl dc) (.slice ka kl kc)
      refine bodyPost_ret (results_it2 rfl _ _ w.heap.size T 9 nn da dl dc ka kl kc rfl (cells_of5 hb9)) rfl ?_
      have hlt := unhide HLT
      refine iOut_ok (it := .mk T 9 nn d ks) (unhide HE).symm ?_ ((unhide HD).set (unhide HD7) (((unhide HO8).mono (T := fun k => w.heap.size ≤ k) (fun k _ e => by omega)).trans o9 (fun k _ e => by omega)))
      have hi := ItAt.only o9 (fun k _ hk e => by omega) _ (ItAt.only (unhide HO8) (fun k _ hk e => by omega) _ (unhide HIT7))
      exact ItAt.mono (fun k _ hk => by omega) (m + 1) hi

set_option maxHeartbeats 4000000 in
set_option maxRecDepth 100000 in
theorem item_10 (h : DcAt w db rb cb depth v r c) (hT : Tabs w) (m T L : Nat) (R : RB)
    (HH : Hid (∀ W, DcAt W db rb cb depth v r c → Calls Tryd.prog 40 #[.pointer (some ⟨db, 0, none⟩)] W (HOut W db rb cb depth v r c (.ok T 10 L))))
    (HR : Hid (∀ W v', DcAt W db rb cb depth v' (r.drop 8) (c + 1) → Tabs W → Calls Tryd.prog 45 #[.pointer (some ⟨db, 0, none⟩), .int .i64 L] W (ROut W db rb cb depth v' m R)))
    (hpos : ∀ er, R = .err er → 0 < er) (hlen : ∀ n d ks r' c', R = .ok n d ks r' c' → r'.length ≤ 140737488355328) (hL : L ≤ 140737488355320) :
    Calls Tryd.prog 25 #[.pointer (some ⟨db, 0, none⟩)] w (IOut w db rb cb depth v m (after T 10 L R)) := by
  obtain ⟨w1, hw1, h1, hb, o1⟩ := zeroed h
  obtain ⟨X, hE⟩ : ∃ X, after T 10 L R = X := ⟨_, rfl⟩
  rw [hE]
  have HE := hide hE
  have HD := hide h
  have HB := hide hb
  have HO := hide o1
  have HT := hide hT
  have HC := hide (unhide HH _ h1)
  have HS1 : Hid (w1.heap.size = w.heap.size + 1) := by show _ = _; rw [hw1]; simp
  have hne : ¬ (w.heap.size = rb ∨ w.heap.size = cb) := by
    have h1 := lt_of_block h.rd.blk
    have h2 := lt_of_block h.cnt
    omega
  have HPos := hide hpos
  have HLen := hide hlen
  clear h h1 hE hb o1 HH hT hpos hlen
  go_enter Tryd.func25, Tryd.ntmps25
  subst hw1
  go_wp2_with fail
  refine (unhide HC).mono ?_
  rintro e w2 ⟨rfl, v2, d2⟩
  generalize w.alloc (.cells #[.int .i64 0, .int .i64 0, .int .i64 0, .slice none 0 0, .slice none 0 0] 25) = w1 at *
  have hs2 := d2.only.size
  have HD2 := hide (((unhide HD).to (unhide HO)).trans d2)
  have hb2 := d2.only.heap (unhide HB) hne
  -- the box of the head, the row of readers
  obtain ⟨⟨x0, x1, x2, x3, x4⟩, oA⟩ := boxed w2 (.int .i64 T) (.int .i64 10) (.int .i64 0) (.slice none 0 0) (.slice none 0 0)
  have HD3 := hide ((unhide HD2).same oA)
  have hb3 := oA.heap hb2 (fun e => e)
  have HS3 : Hid ((w2.alloc (.cells #[.int .i64 T, .int .i64 10, .int .i64 0, .slice none 0 0, .slice none 0 0] 25)).heap.size = w2.heap.size + 1) := by show _ = _; simp
  have HB3 := hide hb3
  clear d2 hb2 oA hb3 HC
  go_upto_region 2 with fail
  generalize w2.alloc (.cells #[.int .i64 T, .int .i64 10, .int .i64 0, .slice none 0 0, .slice none 0 0] 25) = w3 at *
  have oR : Only (fun _ => False) w3 (w3.alloc (.cells #[Value.nilFunc, Value.func (Fn.func 41) #[Value.pointer (some ⟨db, 0, none⟩)] #[], Value.func (Fn.func 42) #[Value.pointer (some ⟨db, 0, none⟩)] #[], Value.func (Fn.func 43) #[Value.pointer (some ⟨db, 0, none⟩)] #[], Value.func (Fn.func 44) #[Value.pointer (some ⟨db, 0, none⟩)] #[], Value.func (Fn.func 45) #[Value.pointer (some ⟨db, 0, none⟩)] #[], Value.func (Fn.func 46) #[Value.pointer (some ⟨db, 0, none⟩)] #[], Value.func (Fn.func 47) #[Value.pointer (some ⟨db, 0, none⟩)] #[], Value.func (Fn.func 48) #[Value.pointer (some ⟨db, 0, none⟩)] #[], Value.func (Fn.func 43) #[Value.pointer (some ⟨db, 0, none⟩)] #[], Value.func (Fn.func 45) #[Value.pointer (some ⟨db, 0, none⟩)] #[]] 88)) := (Only.refl _ _).alloc _
  have hR : (w3.alloc (.cells #[Value.nilFunc, Value.func (Fn.func 41) #[Value.pointer (some ⟨db, 0, none⟩)] #[], Value.func (Fn.func 42) #[Value.pointer (some ⟨db, 0, none⟩)] #[], Value.func (Fn.func 43) #[Value.pointer (some ⟨db, 0, none⟩)] #[], Value.func (Fn.func 44) #[Value.pointer (some ⟨db, 0, none⟩)] #[], Value.func (Fn.func 45) #[Value.pointer (some ⟨db, 0, none⟩)] #[], Value.func (Fn.func 46) #[Value.pointer (some ⟨db, 0, none⟩)] #[], Value.func (Fn.func 47) #[Value.pointer (some ⟨db, 0, none⟩)] #[], Value.func (Fn.func 48) #[Value.pointer (some ⟨db, 0, none⟩)] #[], Value.func (Fn.func 43) #[Value.pointer (some ⟨db, 0, none⟩)] #[], Value.func (Fn.func 45) #[Value.pointer (some ⟨db, 0, none⟩)] #[]] 88)).cell? ⟨w3.heap.size, 10, none⟩ = some (Value.func (Fn.func 45) #[Value.pointer (some ⟨db, 0, none⟩)] #[]) := (cell_of_heap (heap_alloc_new w3 (.cells #[Value.nilFunc, Value.func (Fn.func 41) #[Value.pointer (some ⟨db, 0, none⟩)] #[], Value.func (Fn.func 42) #[Value.pointer (some ⟨db, 0, none⟩)] #[], Value.func (Fn.func 43) #[Value.pointer (some ⟨db, 0, none⟩)] #[], Value.func (Fn.func 44) #[Value.pointer (some ⟨db, 0, none⟩)] #[], Value.func (Fn.func 45) #[Value.pointer (some ⟨db, 0, none⟩)] #[], Value.func (Fn.func 46) #[Value.pointer (some ⟨db, 0, none⟩)] #[], Value.func (Fn.func 47) #[Value.pointer (some ⟨db, 0, none⟩)] #[], Value.func (Fn.func 48) #[Value.pointer (some ⟨db, 0, none⟩)] #[], Value.func (Fn.func 43) #[Value.pointer (some ⟨db, 0, none⟩)] #[], Value.func (Fn.func 45) #[Value.pointer (some ⟨db, 0, none⟩)] #[]] 88))).trans rfl
  have z0 := oR.cell x0 (fun e => e)
  have z1 := oR.cell x1 (fun e => e)
  have z2 := oR.cell x2 (fun e => e)
  have z3 := oR.cell x3 (fun e => e)
  have z4 := oR.cell x4 (fun e => e)
  have hb4 := oR.heap (unhide HB3) (fun e => e)
  have HD4 := hide ((unhide HD3).same oR)
  have HS4 : Hid ((w3.alloc (.cells #[Value.nilFunc, Value.func (Fn.func 41) #[Value.pointer (some ⟨db, 0, none⟩)] #[], Value.func (Fn.func 42) #[Value.pointer (some ⟨db, 0, none⟩)] #[], Value.func (Fn.func 43) #[Value.pointer (some ⟨db, 0, none⟩)] #[], Value.func (Fn.func 44) #[Value.pointer (some ⟨db, 0, none⟩)] #[], Value.func (Fn.func 45) #[Value.pointer (some ⟨db, 0, none⟩)] #[], Value.func (Fn.func 46) #[Value.pointer (some ⟨db, 0, none⟩)] #[], Value.func (Fn.func 47) #[Value.pointer (some ⟨db, 0, none⟩)] #[], Value.func (Fn.func 48) #[Value.pointer (some ⟨db, 0, none⟩)] #[], Value.func (Fn.func 43) #[Value.pointer (some ⟨db, 0, none⟩)] #[], Value.func (Fn.func 45) #[Value.pointer (some ⟨db, 0, none⟩)] #[]] 88)).heap.size = w3.heap.size + 1) := by show _ = _; simp
  have HCR := hide (unhide HR _ v2 (unhide HD4).now ((unhide HD4).tabs (unhide HT)))
  have HB4 := hide hb4
  clear oR hb4 x0 x1 x2 x3 x4 HB3 HR
  go_upto_region 5 with fail
  generalize w3.alloc (.cells #[Value.nilFunc, Value.func (Fn.func 41) #[Value.pointer (some ⟨db, 0, none⟩)] #[], Value.func (Fn.func 42) #[Value.pointer (some ⟨db, 0, none⟩)] #[], Value.func (Fn.func 43) #[Value.pointer (some ⟨db, 0, none⟩)] #[], Value.func (Fn.func 44) #[Value.pointer (some ⟨db, 0, none⟩)] #[], Value.func (Fn.func 45) #[Value.pointer (some ⟨db, 0, none⟩)] #[], Value.func (Fn.func 46) #[Value.pointer (some ⟨db, 0, none⟩)] #[], Value.func (Fn.func 47) #[Value.pointer (some ⟨db, 0, none⟩)] #[], Value.func (Fn.func 48) #[Value.pointer (some ⟨db, 0, none⟩)] #[], Value.func (Fn.func 43) #[Value.pointer (some ⟨db, 0, none⟩)] #[], Value.func (Fn.func 45) #[Value.pointer (some ⟨db, 0, none⟩)] #[]] 88) = w4 at *
  have hup : ¬ (w2.heap.size = rb ∨ w2.heap.size = cb) := by
    have h1 := lt_of_block (unhide HD).rd.blk
    have h2 := lt_of_block (unhide HD).cnt
    have := unhide HS1
    omega
  cases R with
  | err er =>
    have hep := unhide HPos er rfl
    have e4 : (er == 0) = false := by rw [beq_eq_false_iff_ne]; omega
    rw [after] at HE
    go_wp2_with fail
    refine (unhide HCR).mono ?_
    rintro e w5 ⟨rfl, o5⟩
    have hb5 := o5.heap (unhide HB4) hne
    have HO5 := hide ((unhide HD4).only.trans o5 (fun _ _ e => e))
    have oI : Only (fun _ => False) w5 (w5.alloc (.cells #[.int .i64 0, .int .i64 0, .int .i64 0, .slice none 0 0, .slice none 0 0] 25)) := (Only.refl _ _).alloc _
    have hb6 := oI.heap hb5 (fun e => e)
    have HB6 := hide hb6
    have HO6 := hide ((unhide HO5).trans oI (fun _ _ e => e.elim))
    have HS6 : Hid ((∀ i, (w5.alloc (.cells #[.int .i64 0, .int .i64 0, .int .i64 0, .slice none 0 0, .slice none 0 0] 25)).frozen? ⟨w.heap.size, i, none⟩ = false) ∧ (w5.alloc (.cells #[.int .i64 0, .int .i64 0, .int .i64 0, .slice none 0 0, .slice none 0 0] 25)).cell? ⟨w.heap.size, 0, none⟩ = some (.int .i64 0) ∧ (w5.alloc (.cells #[.int .i64 0, .int .i64 0, .int .i64 0, .slice none 0 0, .slice none 0 0] 25)).cell? ⟨w.heap.size, 1, none⟩ = some (.int .i64 0) ∧ (w5.alloc (.cells #[.int .i64 0, .int .i64 0, .int .i64 0, .slice none 0 0, .slice none 0 0] 25)).cell? ⟨w.heap.size, 2, none⟩ = some (.int .i64 0) ∧ (w5.alloc (.cells #[.int .i64 0, .int .i64 0, .int .i64 0, .slice none 0 0, .slice none 0 0] 25)).cell? ⟨w.heap.size, 3, none⟩ = some (.slice none 0 0) ∧ (w5.alloc (.cells #[.int .i64 0, .int .i64 0, .int .i64 0, .slice none 0 0, .slice none 0 0] 25)).cell? ⟨w.heap.size, 4, none⟩ = some (.slice none 0 0)) := ⟨by simp [World.frozen?, hb6], cells_of5 hb6⟩
    clear o5 hb5 oI hb6 HCR hR z0 z1 z2 z3 z4
    go_upto_region 6 with fail
    generalize w5.alloc (.cells #[.int .i64 0, .int .i64 0, .int .i64 0, .slice none 0 0, .slice none 0 0] 25) = w6 at *
    obtain ⟨hf, s0, s1, s2, s3, s4⟩ := unhide HS6
    go_wp2
    obtain ⟨hb7, o7⟩ := put5 (unhide HB6) (.int .i64 0) (.int .i64 0) (.int .i64 0) (.slice none 0 0) (.slice none 0 0)
    refine bodyPost_ret (results_it2 rfl _ _ w.heap.size 0 0 0 none 0 0 none 0 0 rfl (cells_of5 hb7)) rfl ?_
    exact iOut_err (unhide HE).symm (only_set (unhide HO6) (o7.mono (fun k _ e => by omega)))
  | ok nn d ks r' c' =>
    have hrl := unhide HLen nn d ks r' c' rfl
    rw [after, fin] at HE
    go_wp2_with fail
    refine (unhide HCR).mono ?_
    rintro e w5 ⟨dv, kv, v5, rfl, hit, d5⟩
    obtain ⟨⟨da, dc, hds⟩, ka, kc, hks⟩ := hit.shapes
    simp only [It.data, It.kids] at hds hks
    subst hds
    subst hks
    have hb5 := d5.only.heap (unhide HB4) hne
    have u0 := d5.only.cell z0 hup
    have u1 := d5.only.cell z1 hup
    have HD5 := hide ((unhide HD4).trans d5)
    have hs5 := d5.only.size
    obtain ⟨⟨x0, x1, x2, x3, x4⟩, oI⟩ := boxed w5 (.int .i64 0) (.int .i64 0) (.int .i64 nn) (.slice da d.length dc) (.slice ka ks.length kc)
    have hbi := heap_alloc_new w5 (.cells #[.int .i64 0, .int .i64 0, .int .i64 nn, .slice da d.length dc, .slice ka ks.length kc] 25)
    have hb6 := oI.heap hb5 (fun e => e)
    have q0 := oI.cell u0 (fun e => e)
    have q1 := oI.cell u1 (fun e => e)
    have HD6 := hide ((unhide HD5).same oI)
    have HIT6 := hide ((ItAt.mono (R := fun k => w4.heap.size ≤ k ∧ k < w5.heap.size) (fun k hk hq => ⟨hq, hk⟩) _ hit).same oI)
    have HPd := hide (padding_any (unhide HD6).now L hL hrl)
    have HB6 := hide hb6
    have HBI := hide hbi
    have HLT : Hid (w.heap.size < w4.heap.size ∧ w4.heap.size ≤ w5.heap.size) := ⟨by have := unhide HS4; have := unhide HS3; have := unhide HS1; omega, hs5⟩
    clear d5 hb5 oI hb6 hbi HCR hR z0 z1 z2 z3 z4 hit u0 u1 x0 x1 x2 x3 x4 hs5
    generalize hdl : d.length = dl at *
    generalize hkl : ks.length = kl at *
    go_upto_region 6 with fail
    generalize w5.alloc (.cells #[.int .i64 0, .int .i64 0, .int .i64 nn, .slice da dl dc, .slice ka kl kc] 25) = w6 at *
    cases hp : pads (pad8 L - L) r' with
    | err er =>
      have hep := pads_err _ _ _ hp
      have e4 : (er == 0) = false := by rw [beq_eq_false_iff_ne]; omega
      rw [hp] at HE HPd
      clear hp
      go_wp2_with fail
      refine (unhide HPd).mono ?_
      rintro e w7 ⟨rfl, o7⟩
      have hb7 := o7.heap (unhide HB6) hne
      have HO7 := hide ((unhide HD6).only.trans o7 (fun _ _ e => e))
      have HB7 := hide hb7
      have hf : ∀ i, w7.frozen? ⟨w.heap.size, i, none⟩ = false := by simp [World.frozen?, hb7]
      obtain ⟨s0, s1, s2, s3, s4⟩ := cells_of5 hb7
      clear o7 hb7 HPd q0 q1 hdl hkl
      go_wp2
      obtain ⟨hb8, o8⟩ := put5 (unhide HB7) (.int .i64 0) (.int .i64 0) (.int .i64 0) (.slice none 0 0) (.slice none 0 0)
      refine bodyPost_ret (results_it2 rfl _ _ w.heap.size 0 0 0 none 0 0 none 0 0 rfl (cells_of5 hb8)) rfl ?_
      exact iOut_err (unhide HE).symm (only_set (unhide HO7) (o8.mono (fun k _ e => by omega)))
    | ok r2 =>
      rw [hp] at HE HPd
      clear hp
      go_wp2_with fail
      refine (unhide HPd).mono ?_
      rintro e w7 ⟨rfl, v7, d7⟩
      have hb7 := d7.only.heap (unhide HB6) hne
      have hni : ¬ (w5.heap.size = rb ∨ w5.heap.size = cb) := by
        have h1 := lt_of_block (unhide HD).rd.blk
        have h2 := lt_of_block (unhide HD).cnt
        have := unhide HLT
        omega
      have hbi := d7.only.heap (unhide HBI) hni
      have t0 := d7.only.cell q0 hup
      have t1 := d7.only.cell q1 hup
      have HD7 := hide ((unhide HD6).trans d7)
      have HIT7 := hide (ItAt.only d7.only (fun k _ hk e => by
        have h1 := lt_of_block (unhide HD).rd.blk
        have h2 := lt_of_block (unhide HD).cnt
        have := unhide HLT
        omega) _ (unhide HIT6))
      have HB7 := hide hb7
      have HBI7 := hide hbi
      obtain ⟨i0, i1, i2, i3, i4⟩ := cells_of5 hbi
      have hfi : ∀ i, w7.frozen? ⟨w5.heap.size, i, none⟩ = false := by simp [World.frozen?, hbi]
      have hn1 : ¬ w2.heap.size = w5.heap.size := by have := unhide HLT; have := unhide HS4; have := unhide HS3; omega
      have hn2 : ¬ w5.heap.size = w2.heap.size := by omega
      clear d7 hb7 hbi HPd q0 q1
      go_wp2_with fail
      go_region
      have o8 : Only (fun k => k = w5.heap.size) w7 ((w7.setCell ⟨w5.heap.size, 0, none⟩ (.int .i64 T)).setCell ⟨w5.heap.size, 1, none⟩ (.int .i64 10)).drew := (((Only.refl _ _).here 0 _).here 1 _).drew
      have hbi8 : ((w7.setCell ⟨w5.heap.size, 0, none⟩ (.int .i64 T)).setCell ⟨w5.heap.size, 1, none⟩ (.int .i64 10)).drew.heap[w5.heap.size]? = some (.cells #[.int .i64 T, .int .i64 10, .int .i64 nn, .slice da dl dc, .slice ka kl kc] 25 (0, 0)) := two_setCell (i := 1) (two_setCell (i := 0) (unhide HBI7))
      have hb8 := o8.heap (unhide HB7) (show ¬ w.heap.size = w5.heap.size by have := unhide HLT; omega)
      have HB8 := hide hb8
      have HO8 := hide o8
      have hf : ∀ i, ((w7.setCell ⟨w5.heap.size, 0, none⟩ (.int .i64 T)).setCell ⟨w5.heap.size, 1, none⟩ (.int .i64 10)).drew.frozen? ⟨w.heap.size, i, none⟩ = false := by simp [World.frozen?, hb8]
      have HF := hide hf
      have HC8 := hide (cells_of5 hb8)
      have HC9 := hide (cells_of5 hbi8)
      clear o8 hbi8 hb8 hf i0 i1 i2 i3 i4 hfi t0 t1
      generalize ((w7.setCell ⟨w5.heap.size, 0, none⟩ (.int .i64 T)).setCell ⟨w5.heap.size, 1, none⟩ (.int .i64 10)).drew = w8 at *
      have hf := unhide HF
      obtain ⟨s0, s1, s2, s3, s4⟩ := unhide HC8
      obtain ⟨i0, i1, i2, i3, i4⟩ := unhide HC9
      have hn3 : ¬ w5.heap.size = w.heap.size := by have := unhide HLT; omega
      go_wp2
      obtain ⟨hb9, o9⟩ := put5 (unhide HB8) (.int .i64 T) (.int .i64 10) (.int .i64 nn) (.slice da dl dc) (.slice ka kl kc)
      refine bodyPost_ret (results_it2 rfl _ _ w.heap.size T 10 nn da dl dc ka kl kc rfl (cells_of5 hb9)) rfl ?_
      have hlt := unhide HLT
      refine iOut_ok (it := .mk T 10 nn d ks) (unhide HE).symm ?_ ((unhide HD).set (unhide HD7) (((unhide HO8).mono (T := fun k => w.heap.size ≤ k) (fun k _ e => by omega)).trans o9 (fun k _ e => by omega)))
      have hi := ItAt.only o9 (fun k _ hk e => by omega) _ (ItAt.only (unhide HO8) (fun k _ hk e => by omega) _ (unhide HIT7))
      exact ItAt.mono (fun k _ hk => by omega) (m + 1) hi
end
end Tt
end Go.Proofs.YtedmfjnmclbkpaaDoor
