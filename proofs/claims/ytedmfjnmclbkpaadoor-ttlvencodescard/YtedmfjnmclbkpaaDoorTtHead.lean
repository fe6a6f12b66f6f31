/-
  The decoder's head.
-/
import Derived.Test.YtedmfjnmclbkpaaDoorTtChk
import Derived.Laws.BitsAllLaws
namespace Go.Proofs.YtedmfjnmclbkpaaDoor
open Go.RowKit
set_option linter.unusedSimpArgs false
set_option linter.unusedVariables false
namespace Tt

/-- what head answers -/
def HOut (w : World) (db rb cb depth : Nat) (v : Value) (r : List UInt8) (c : Nat) (R : RH) (e : Ending) (w' : World) : Prop := match R with
  | .err er => e = .returned (.tuple #[zeroI, .int .i64 0, .int .i64 er]) ∧ Only (fun k => k = rb ∨ k = cb) w w'
  | .ok t y L => e = .returned (.tuple #[.agg #[.int .i64 t, .int .i64 y, .int .i64 0, .slice none 0 0, .slice none 0 0], .int .i64 L, .int .i64 0]) ∧ ∃ v', DTo w db rb cb depth v w' v' (r.drop 8) (c + 1)
theorem hOut_err {w w' : World} {db rb cb depth : Nat} {v : Value} {r : List UInt8} {c : Nat} {R : RH} {er : Int} (h : R = .err er) (ho : Only (fun k => k = rb ∨ k = cb) w w') : HOut w db rb cb depth v r c R (.returned (.tuple #[zeroI, .int .i64 0, .int .i64 er])) w' := by rw [h]; exact ⟨rfl, ho⟩
theorem hOut_ok {w w' : World} {db rb cb depth : Nat} {v v' : Value} {r : List UInt8} {c : Nat} {R : RH} {t y L : Nat} (h : R = .ok t y L) (ht : DTo w db rb cb depth v w' v' (r.drop 8) (c + 1)) : HOut w db rb cb depth v r c R (.returned (.tuple #[.agg #[.int .i64 t, .int .i64 y, .int .i64 0, .slice none 0 0, .slice none 0 0], .int .i64 L, .int .i64 0])) w' := by rw [h]; exact ⟨rfl, v', ht⟩

theorem i64_or16 (a b : Nat) (ha : a < 256) (hb : b < 65536) : bits BinOp.or IntKind.i64 ((a : Int) * 65536) (b : Int) = ((a * 65536 + b : Nat) : Int) := by
  have e := Nat.two_pow_add_eq_or_of_lt (i := 16) (b := b) hb a
  rw [show (2 : Nat) ^ 16 = 65536 from rfl, Nat.mul_comm] at e
  have hx : a * 65536 ||| b < 2 ^ 64 := Nat.or_lt_two_pow (by omega) (by omega)
  rw [show ((a : Int) * 65536) = ((a * 65536 : Nat) : Int) by omega]
  show IntKind.i64.wrap ((BitVec.ofInt 64 ((a * 65536 : Nat) : Int) ||| BitVec.ofInt 64 (b : Int)).toNat : Int) = _
  rw [BitVec.toNat_or, ofInt_u64 _ (by omega), ofInt_u64 b (by omega), IntKind.wrap_i64]
  omega

section
variable {w : World} {db rb cb depth : Nat} {v : Value} {r : List UInt8} {c : Nat}
set_option maxHeartbeats 4000000 in
set_option maxRecDepth 100000 in
theorem head_any (h : DcAt w db rb cb depth v r c) (n : Nat) (hn : depth + n = 13) (hc : c ≤ 600) (hr : r.length ≤ 140737488355328) :
    Calls Tryd.prog 40 #[.pointer (some ⟨db, 0, none⟩)] w (HOut w db rb cb depth v r c (hdr n r c)) := by
  obtain ⟨w1, hw1, h1, hb, o1⟩ := zeroed h
  obtain ⟨c0, c1, c2, c3, c4⟩ := h1.cells
  obtain ⟨R, hE⟩ : ∃ R, hdr n r c = R := ⟨_, rfl⟩
  rw [hE]
  unfold hdr at hE
  have HE := hide hE
  have HD := hide h
  have HD1 := hide h1
  have HB := hide hb
  have HO := hide o1
  have HLf := hide (dc_left h1)
  have hne : ¬ (w.heap.size = rb ∨ w.heap.size = cb) := by
    have h1 := lt_of_block h.rd.blk
    have h2 := lt_of_block h.cnt
    omega
  clear h h1 hE hb o1
  by_cases h8 : r.length < 8
  case pos =>
    have h8z : (r.length : Int) < 8 := by omega
    rw [if_pos h8] at HE
    clear h8
    subst hw1
    go_enter Tryd.func40, Tryd.ntmps40
    go_wp2_with fail
    refine (unhide HLf).mono ?_
    rintro e w2 ⟨rfl, rfl⟩
    go_wp2
    refine bodyPost_ret (results_it3 rfl _ _ w.heap.size 0 0 0 none 0 0 none 0 0 rfl (cells_of5 (unhide HB))) rfl ?_
    exact hOut_err (unhide HE).symm ((unhide HO).mono (fun _ _ e => e.elim))
  case neg =>
  have h8z : ¬ (r.length : Int) < 8 := by omega
  rw [if_neg h8] at HE
  by_cases hn0 : n = 0
  case pos =>
    have hdz : (12 : Int) < (depth : Int) := by omega
    rw [if_pos hn0] at HE
    clear h8 hn0
    subst hw1
    go_enter Tryd.func40, Tryd.ntmps40
    go_wp2_with fail
    refine (unhide HLf).mono ?_
    rintro e w2 ⟨rfl, rfl⟩
    go_wp2
    refine bodyPost_ret (results_it3 rfl _ _ w.heap.size 0 0 0 none 0 0 none 0 0 rfl (cells_of5 (unhide HB))) rfl ?_
    exact hOut_err (unhide HE).symm ((unhide HO).mono (fun _ _ e => e.elim))
  case neg =>
  have hdz : ¬ (12 : Int) < (depth : Int) := by omega
  rw [if_neg hn0] at HE
  have hwr : wrap64 ((c : Int) + 1) = (c : Int) + 1 := by unfold wrap64; omega
  have hm := (unhide HD1).more (c + 1)
  rw [show ((c + 1 : Nat) : Int) = (c : Int) + 1 by omega] at hm
  have hbm := hm.only.heap (unhide HB) hne
  have HBM := hide hbm
  have HM := hide hm
  have HDM := hide (((unhide HD).to (unhide HO)).trans hm)
  have HMc := hide hm.now.cells
  rw [show ((c + 1 : Nat) : Int) = (c : Int) + 1 by omega] at HMc
  have HSc := hide (cells_of5 hbm)
  have HFz : Hid (∀ i, (w1.setCell ⟨cb, 0, none⟩ (.int .i64 ((c : Int) + 1))).frozen? ⟨w.heap.size, i, none⟩ = false) := by show ∀ i, _; simp [World.frozen?, hbm]
  have H8 := hide h8
  clear hm hbm hn0 h8 hn
  go_enter Tryd.func40, Tryd.ntmps40
  subst hw1
  go_wp2_with fail
  refine (unhide HLf).mono ?_
  rintro e w2 ⟨rfl, rfl⟩
  generalize w.alloc (.cells #[.int .i64 0, .int .i64 0, .int .i64 0, .slice none 0 0, .slice none 0 0] 25) = w1 at *
  go_upto_region 6 with fail
  generalize w1.setCell ⟨cb, 0, none⟩ (.int .i64 ((c : Int) + 1)) = w2 at *
  obtain ⟨m0, m1, m2, m3, m4⟩ := unhide HMc
  obtain ⟨s0, s1, s2, s3, s4⟩ := unhide HSc
  have hf := unhide HFz
  clear c0 c1 c2 c3 c4 HMc HSc HFz
  by_cases h6 : 600 ≤ c
  case pos =>
    have h6z : (600 : Int) < (c : Int) + 1 := by omega
    rw [if_pos h6] at HE
    clear h6
    go_wp2
    obtain ⟨hb4, o4⟩ := put5 (unhide HBM) (.int .i64 0) (.int .i64 0) (.int .i64 0) (.slice none 0 0) (.slice none 0 0)
    refine bodyPost_ret (results_it3 rfl _ _ w.heap.size 0 0 0 none 0 0 none 0 0 rfl (cells_of5 hb4)) rfl ?_
    exact hOut_err (unhide HE).symm (only_set (unhide HDM).only (o4.mono (fun k _ e => by omega)))
  case neg =>
  have h6z : ¬ (600 : Int) < (c : Int) + 1 := by omega
  rw [if_neg h6] at HE
  clear h6 HLf
  have h8 := unhide H8
  have HU1 := hide (dc_u8 (unhide HDM).now (by omega) hr)
  clear s0 s1 s2 s3 s4 hf
  go_wp2_with fail
  refine (unhide HU1).mono ?_
  rintro e w3 ⟨rfl, v3, d3⟩
  obtain ⟨p0, p1, p2, p3, p4⟩ := d3.now.cells
  have HDM3 := hide ((unhide HDM).trans d3)
  have HX3 := hide d3.only
  have HU2 := hide (dc_u16 d3.now (by rw [List.length_drop]; omega) (by rw [List.length_drop]; omega))
  have hb1 := de_take_lt r 1
  have hb2 := de_take_lt (r.drop 1) 2
  have hor := i64_or16 (de (r.take 1)) (de ((r.drop 1).take 2)) (by simpa using hb1) (by simpa using hb2)
  have HTG : Hid (de (r.take 1) * 65536 + de ((r.drop 1).take 2) = tagOf r) := rfl
  obtain ⟨hi, hhi⟩ : ∃ hi, de (r.take 1) = hi := ⟨_, rfl⟩
  obtain ⟨lo, hlo⟩ : ∃ lo, de ((r.drop 1).take 2) = lo := ⟨_, rfl⟩
  rw [hhi, hlo] at hor HTG
  rw [hlo] at HU2
  rw [hhi] at hb1 ⊢
  rw [show (256 : Nat) ^ 1 = 256 from rfl] at hb1
  have hshl : Op.shift BinOp.shl IntKind.i64 (hi : Int) IntKind.u64 16 = pure (.int .i64 ((hi : Int) * 65536)) := by
    rw [shift_shl_any _ _ _ _ (by omega)]
    have e : IntKind.i64.wrap ((hi : Int) * 2 ^ min (16 : Int).toNat IntKind.i64.bits) = (hi : Int) * 65536 := by
      rw [show min (16 : Int).toNat IntKind.i64.bits = 16 from rfl, show ((2 : Int) ^ 16) = 65536 from rfl, IntKind.wrap_i64]
      omega
    rw [e]
  rw [unhide HTG] at hor
  clear d3 m0 m1 m2 m3 m4 HU1 hhi hlo HTG HM
  go_wp2_with fail
  refine (unhide HU2).mono ?_
  rintro e w4 ⟨rfl, v4, d4⟩
  obtain ⟨m0, m1, m2, m3, m4⟩ := d4.now.cells
  have HDM4 := hide ((unhide HDM3).trans d4)
  have HX4 := hide ((unhide HX3).trans d4.only (fun _ _ e => e))
  rw [List.drop_drop] at HDM4 d4
  have HU3 := hide (dc_u8 d4.now (by rw [List.length_drop]; omega) (by rw [List.length_drop]; omega))
  have HTY : Hid (de ((r.drop 3).take 1) = typOf r) := rfl
  rw [show 1 + 2 = 3 from rfl] at HU3 HDM4
  rw [unhide HTY] at HU3
  clear d4 p0 p1 p2 p3 p4 HU2 HDM3 hshl
  go_wp2_with fail
  refine (unhide HU3).mono ?_
  rintro e w5 ⟨rfl, v5, d5⟩
  obtain ⟨p0, p1, p2, p3, p4⟩ := d5.now.cells
  have HDM5 := hide ((unhide HDM4).trans d5)
  have HX5 := hide ((unhide HX4).trans d5.only (fun _ _ e => e))
  rw [List.drop_drop] at HDM5 d5
  have HU4 := hide (dc_u32 d5.now (by rw [List.length_drop]; omega) (by rw [List.length_drop]; omega))
  have HLN : Hid (de ((r.drop 4).take 4) = lnOf r) := rfl
  rw [show 3 + 1 = 4 from rfl] at HU4 HDM5
  rw [unhide HLN] at HU4
  clear d5 m0 m1 m2 m3 m4 HU3 HDM4
  go_wp2_with fail
  refine (unhide HU4).mono ?_
  rintro e w6 ⟨rfl, v6, d6⟩
  obtain ⟨m0, m1, m2, m3, m4⟩ := d6.now.cells
  have HDM6 := hide ((unhide HDM5).trans d6)
  have HX6 := hide ((unhide HX5).trans d6.only (fun _ _ e => e))
  rw [List.drop_drop] at HDM6
  rw [show 4 + 4 = 8 from rfl] at HDM6
  have HLf := hide (dc_left (unhide HDM6).now)
  rw [List.length_drop] at HLf
  have HIT := hide (fun W => isTag_any (tagOf r) W)
  have HIY := hide (fun W => isType_any (typOf r) W)
  have hb6 := (unhide HX6).heap (unhide HBM) hne
  have HB6 := hide hb6
  have hf : ∀ i, w6.frozen? ⟨w.heap.size, i, none⟩ = false := by simp [World.frozen?, hb6]
  obtain ⟨s0, s1, s2, s3, s4⟩ := cells_of5 hb6
  obtain ⟨RL, hRL⟩ : ∃ RL, r.length - 8 = RL := ⟨_, rfl⟩
  rw [hRL] at HLf HE
  generalize tagOf r = T at *
  generalize typOf r = Y at *
  generalize lnOf r = LN at *
  clear d6 p0 p1 p2 p3 p4 HU4 HDM5 hb6 HX3 HX4 HX5 HX6 hor hRL h8 h8z hr hb1 hb2
  cases htb : tagB (T : Int) with
  | false =>
    rw [htb, Bool.false_and, if_pos rfl] at HE
    rw [htb] at HIT
    clear htb
    go_wp2_with fail
    refine (unhide HIT _).mono ?_
    rintro e w7 ⟨rfl, rfl⟩
    go_wp2
    obtain ⟨hb4, o4⟩ := put5 (unhide HB6) (.int .i64 0) (.int .i64 0) (.int .i64 0) (.slice none 0 0) (.slice none 0 0)
    refine bodyPost_ret (results_it3 rfl _ _ w.heap.size 0 0 0 none 0 0 none 0 0 rfl (cells_of5 hb4)) rfl ?_
    exact hOut_err (unhide HE).symm (only_set (unhide HDM6).only (o4.mono (fun k _ e => by omega)))
  | true =>
  rw [htb, Bool.true_and] at HE
  rw [htb] at HIT
  clear htb
  cases hyb : typB (Y : Int) with
  | false =>
    rw [hyb, if_pos rfl] at HE
    rw [hyb] at HIY
    clear hyb
    go_wp2_with fail
    refine (unhide HIT _).mono ?_
    rintro e w7 ⟨rfl, rfl⟩
    go_wp2_with fail
    refine (unhide HIY _).mono ?_
    rintro e w7 ⟨rfl, rfl⟩
    go_wp2
    obtain ⟨hb4, o4⟩ := put5 (unhide HB6) (.int .i64 0) (.int .i64 0) (.int .i64 0) (.slice none 0 0) (.slice none 0 0)
    refine bodyPost_ret (results_it3 rfl _ _ w.heap.size 0 0 0 none 0 0 none 0 0 rfl (cells_of5 hb4)) rfl ?_
    exact hOut_err (unhide HE).symm (only_set (unhide HDM6).only (o4.mono (fun k _ e => by omega)))
  | true =>
  rw [hyb, if_neg (by decide)] at HE
  rw [hyb] at HIY
  clear hyb
  by_cases hl : RL < LN
  case pos =>
    have hlz : (RL : Int) < (LN : Int) := by omega
    rw [if_pos hl] at HE
    clear hl
    go_wp2_with fail
    refine (unhide HIT _).mono ?_
    rintro e w7 ⟨rfl, rfl⟩
    go_wp2_with fail
    refine (unhide HIY _).mono ?_
    rintro e w7 ⟨rfl, rfl⟩
    go_wp2_with fail
    refine (unhide HLf).mono ?_
    rintro e w7 ⟨rfl, rfl⟩
    go_wp2
    obtain ⟨hb4, o4⟩ := put5 (unhide HB6) (.int .i64 0) (.int .i64 0) (.int .i64 0) (.slice none 0 0) (.slice none 0 0)
    refine bodyPost_ret (results_it3 rfl _ _ w.heap.size 0 0 0 none 0 0 none 0 0 rfl (cells_of5 hb4)) rfl ?_
    exact hOut_err (unhide HE).symm (only_set (unhide HDM6).only (o4.mono (fun k _ e => by omega)))
  case neg =>
    have hlz : ¬ (RL : Int) < (LN : Int) := by omega
    rw [if_neg hl] at HE
    clear hl
    go_wp2_with fail
    refine (unhide HIT _).mono ?_
    rintro e w7 ⟨rfl, rfl⟩
    go_wp2_with fail
    refine (unhide HIY _).mono ?_
    rintro e w7 ⟨rfl, rfl⟩
    go_wp2_with fail
    refine (unhide HLf).mono ?_
    rintro e w7 ⟨rfl, rfl⟩
    go_wp2
    obtain ⟨hb4, o4⟩ := put5 (unhide HB6) (.int .i64 T) (.int .i64 Y) (.int .i64 0) (.slice none 0 0) (.slice none 0 0)
    refine bodyPost_ret (results_it3 rfl _ _ w.heap.size T Y 0 none 0 0 none 0 0 rfl (cells_of5 hb4)) rfl ?_
    exact hOut_ok (unhide HE).symm ((unhide HD).set (unhide HDM6) (o4.mono (fun k _ e => by omega)))
end
end Tt
end Go.Proofs.YtedmfjnmclbkpaaDoor
