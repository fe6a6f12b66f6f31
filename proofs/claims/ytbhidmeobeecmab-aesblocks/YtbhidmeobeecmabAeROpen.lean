/-
  locksmithref8: Open (by gen/genropen.py).
-/
import Derived.Test.YtbhidmeobeecmabAeRSeal
import Derived.Test.YtbhidmeobeecmabAeBackS
namespace Go.Proofs.Ytbhidmeobeecmab
open Go.RowKit
set_option linter.unusedSimpArgs false
set_option linter.unusedVariables false
namespace Ae

/-- the old block, its first places taken by what t's bytes were -/
def unshR (old t : List UInt8) : Nat → List UInt8
  | 0 => old
  | i + 1 => (unshR old t i).set (5 * i % 16) (unbox (gt t i))
theorem unshR_length (old t : List UInt8) (i : Nat) : (unshR old t i).length = old.length := by
  induction i with
  | zero => rfl
  | succ i ih => simp [unshR, ih]
theorem unshR_all (old t : List UInt8) (ho : old.length = 16) : unshR old t 16 = (unshifted t).map unbox := by
  obtain ⟨x0, x1, x2, x3, x4, x5, x6, x7, x8, x9, x10, x11, x12, x13, x14, x15, rfl⟩ : ∃ x0 x1 x2 x3 x4 x5 x6 x7 x8 x9 x10 x11 x12 x13 x14 x15, old = [x0, x1, x2, x3, x4, x5, x6, x7, x8, x9, x10, x11, x12, x13, x14, x15] := by
    match old, ho with
    | [x0, x1, x2, x3, x4, x5, x6, x7, x8, x9, x10, x11, x12, x13, x14, x15], _ => exact ⟨_, _, _, _, _, _, _, _, _, _, _, _, _, _, _, _, rfl⟩
  generalize ht : gt t = f
  have h1 : unshifted t = [f 0, f 13, f 10, f 7, f 4, f 1, f 14, f 11, f 8, f 5, f 2, f 15, f 12, f 9, f 6, f 3] := by
    unfold unshifted
    simp only [unshK, ht]
    rfl
  rw [h1]
  simp only [unshR, ht]
  rfl
theorem openT_one (bs : List UInt8) (m : Nat) (s : List UInt8) (r : Nat) (h1 : r + 1 = m) (hr : 1 ≤ r) : openT bs m s (m - 1 - (r - 1)) = (unshifted (added (openT bs m s (m - 1 - r)) (blkOf bs r))).map unbox := by
  rw [show m - 1 - (r - 1) = (m - 1 - r) + 1 by omega, openT_succ, if_pos (by omega), show m - 1 - (m - 1 - r) = r by omega]
  rfl
theorem openT_mid (bs : List UInt8) (m : Nat) (s : List UInt8) (r : Nat) (h1 : r + 1 < m) (hr : 1 ≤ r) : openT bs m s (m - 1 - (r - 1)) = (unshifted (times (added (openT bs m s (m - 1 - r)) (blkOf bs r)) [14, 11, 13, 9])).map unbox := by
  rw [show m - 1 - (r - 1) = (m - 1 - r) + 1 by omega, openT_succ, if_neg (by omega), if_neg (by omega), show m - 1 - (m - 1 - r) = r by omega]
  rfl
theorem openT_end (bs : List UInt8) (m : Nat) (s : List UInt8) (hm : 2 ≤ m) : openT bs m s m = added (openT bs m s (m - 1 - 0)) (blkOf bs 0) := by
  have h : openT bs m s ((m - 1) + 1) = added (openT bs m s (m - 1)) (blkOf bs (m - 1 - (m - 1))) := by rw [openT_succ, if_neg (by omega), if_pos (by omega)]
  rw [show m - 1 + 1 = m by omega, Nat.sub_self] at h
  exact h

set_option maxRecDepth 100000 in
set_option maxHeartbeats 4000000 in
theorem ropen_any (cb m : Nat) (bs s : List UInt8) (hs : s.length = 16) (hm3 : 3 ≤ m) (hm : m ≤ 15) (w : World) (hc : RCip w cb m bs) :
    Calls Try.prog 11 #[.pointer (some ⟨cb, 0, none⟩), .agg (s.map bv).toArray] w fun e w' => e = .returned (.agg ((openT bs m s m).map bv).toArray) ∧ Only (fun _ => False) w w' := by
  have RC := hide hc
  obtain ⟨hbl, g, cap, hcb, hrow⟩ := hc
  have HTL := hide (fun i hi => openT_length bs m hbl s hs i hi)
  have HBL := hide hbl
  have hc0 := rc_zero hcb
  have HCB := hide hcb
  clear hcb hrow hbl
  obtain ⟨M, hM⟩ : ∃ M, M = 4 * m := ⟨_, rfl⟩
  obtain ⟨L1, hL1⟩ : ∃ L1, L1 = m - 1 := ⟨_, rfl⟩
  have F1 : IntKind.i64.wrap ((M : Int) / 4) = (m : Int) := by rw [wrap_small _ (by omega) (by omega)]; omega
  have F2 : IntKind.i64.wrap ((m : Int) - 1) = (L1 : Int) := by rw [wrap_small _ (by omega) (by omega)]; omega
  rw [← hM] at hc0
  have HL1 := hide hL1
  have HM3 := hide hm3
  have HM := hide hm
  clear hM hL1 hm3 hm
  obtain ⟨w2, b1, b4, e2, eb4, eb1, a1, a4, o2, n14, hb⟩ := two w s zero16 23 23
  go_enter Try.func11, Try.ntmps11
  go_upto_region 1 with fail
  rw [zeros_eq, ← e2, ← eb4, ← eb1]
  clear e2 eb4 eb1
  have hc0 := o2.cell hc0 (fun e => e)
  have hr1 := a1.range
  have A4 := hide a4
  have O2 := hide o2
  have HB := hide hb
  have ht := (Arr.new w2 23 zero16 _ rfl).there 16 rfl
  have hz1 : (s.map bv).toArray.size = 16 := by rw [List.size_toArray, List.length_map, hs]
  have ht2 : (w2.alloc (.cells (zero16.map bv).toArray 23)).there w2.heap.size 0 (s.map bv).toArray.size := by rw [hz1]; exact ht
  have hz2 : (Try.prog.info? 23).map (·.size) = some (s.map bv).toArray.size := by rw [hz1]; exact Try.size16
  clear a1 a4 o2 hb hz1 ht
  go_upto_region 3 with (first
    | (refine wpList_load_mid rfl 23 (.tmp 3) rfl b1 0 rfl (s.map bv) _ hr1 Try.under16 rfl (by rw [Try.size16]; simp [hs]) ?_)
    | (refine wpList_store_mid rfl 23 (.tmp 6) (.tmp 17) rfl w2.heap.size 0 (s.map bv).toArray rfl rfl ht2 hz2 (ag_one _) ?_))
  obtain ⟨w6, b6, e6, eb6, a6, o36⟩ := made16 w2 s hs
  have hlt2 := (unhide O2).size
  have hb4 : b4 < w2.heap.size := (unhide A4).lt
  have n46 : b4 ≠ b6 := by omega
  have hw6 : ∀ j, j < w.heap.size → j ≠ b6 := by intro j hj; omega
  rw [zeros_eq, ← e6, ← eb6]
  have A6 := hide a6
  have A46 := hide ((unhide A4).only o36 (fun e => e))
  have O6 := hide ((unhide O2).trans o36 (fun _ _ e => e))
  have O26 := hide o36
  have H26 : Hid (w2.heap.size ≤ b6) := by show w2.heap.size ≤ b6; omega
  have HW6 := hide hw6
  have N46 := hide n46
  clear e6 eb6 a6 o36 hb4 n46 hlt2 hw6 ht2 hz2 A4 hr1 hc0
  go_wp2
  go_loopw [7, 8, 9] (fun rd _ _ wr => ∃ r : Nat, r + 1 ≤ m ∧ rd = .int .i64 r ∧ Arr wr b6 23 (openT bs m s (m - 1 - r)) ∧ Only (fun j => j = b6) w6 wr) (fun rd _ _ _ => (intOf rd).toNat)
  case atStart => exact ⟨L1, by have := unhide HL1; have := unhide HM3; omega, rfl, by rw [unhide HL1, Nat.sub_self]; exact unhide A6, Only.refl _ _⟩
  case round =>
    rename World => wa
    obtain ⟨r, hrm, rfl, har, hor⟩ := hrel
    by_cases hlt : 1 ≤ r
    · have oo : Only (fun _ => False) w wa := (unhide O6).trans hor (fun j hj e => (unhide HW6) j hj e)
      obtain ⟨S, hS⟩ : ∃ S, S = openT bs m s (m - 1 - r) := ⟨_, rfl⟩
      rw [← hS] at har
      have hSl : S.length = 16 := by rw [hS]; exact unhide HTL _ (by omega)
      obtain ⟨r1, hr1⟩ : ∃ r1, r1 = r - 1 := ⟨_, rfl⟩
      have F3 : IntKind.i64.wrap ((r : Int) - 1) = (r1 : Int) := by have := unhide HM; rw [wrap_small _ (by omega) (by omega)]; omega
      have HR1 := hide hr1
      have HS := hide hS
      have OO := hide oo
      have HAR := hide har
      have HOR := hide hor
      have HSL := hide hSl
      have hr6 := har.range
      clear hS oo har hor hr1
      have hrL : (1 : Int) ≤ (r : Int) := by omega
      have hrb : (r : Int) ≤ 15 := by have := unhide HM; omega
      have hbk := blkOf_length bs m r (unhide HBL) (by omega)
      have hAl : (added S (blkOf bs r)).length = 16 := added_length hSl hbk
      go_wp2_with (refine wpList_load_mid rfl 23 (.tmp 6) rfl b6 0 rfl (S.map bv) _ hr6 Try.under16 rfl (by rw [Try.size16]; simp [hSl]) ?_)
      clear hr6
      refine (rkey_any cb m r bs S hSl (by omega) (unhide HM) wa ((unhide RC).new (unhide OO))).mono ?_
      rintro e wb ⟨rfl, yb⟩
      obtain ⟨A, hA⟩ : ∃ A, A = added S (blkOf bs r) := ⟨_, rfl⟩
      rw [← hA] at hAl ⊢
      have HA := hide hA
      have ht := (Arr.new wb 23 zero16 _ rfl).there 16 rfl
      have hz1 : (A.map bv).toArray.size = 16 := by rw [List.size_toArray, List.length_map, hAl]
      have ht2 : (wb.alloc (.cells (zero16.map bv).toArray 23)).there wb.heap.size 0 (A.map bv).toArray.size := by rw [hz1]; exact ht
      have hz2 : (Try.prog.info? 23).map (·.size) = some (A.map bv).toArray.size := by rw [hz1]; exact Try.size16
      have HYB := hide yb
      clear hA ht hz1 yb hbk
      go_upto_region 7 with (refine wpList_store_mid rfl 23 (.tmp 8) (.tmp 26) rfl wb.heap.size 0 (A.map bv).toArray rfl rfl ht2 hz2 (ag_one _) ?_)
      obtain ⟨w8, b8, e8, eb8, a8, o8⟩ := made16 wb A hAl
      have hsz := (unhide HYB).size
      have n86 : b6 ≠ b8 := by have := (unhide HAR).lt; omega
      have h8w : ∀ j, j < wa.heap.size → j ≠ b8 := by intro j hj; omega
      rw [zeros_eq, ← e8, ← eb8]
      have HT8 := hide a8
      have HB6 := hide (((unhide HAR).only (unhide HYB) (fun e => e)).only o8 (fun e => e))
      have HOQ := hide ((unhide HYB).trans o8 (fun _ _ e => e))
      have H8W := hide h8w
      have N86 := hide n86
      clear e8 eb8 a8 o8 hsz n86 h8w ht2 hz2 HYB
      by_cases hl1 : r < L1
      · have hrl1 : (r : Int) < (L1 : Int) := by omega
        have HNX := hide (openT_mid bs m s r (by have := unhide HL1; omega) hlt)
        rw [← unhide HS, ← unhide HA] at HNX
        have HMX : Calls Try.prog 25 #[.agg (A.map bv).toArray, .agg #[.int .u8 14, .int .u8 11, .int .u8 13, .int .u8 9]] w8 fun e w' => e = .returned (.agg ((times A [14, 11, 13, 9]).map bv).toArray) ∧ Only (fun _ => False) w8 w' := mix_any A [14, 11, 13, 9] w8 hAl rfl
        have hVl : (times A [14, 11, 13, 9]).length = 16 := times_length _ _
        obtain ⟨V, hV⟩ : ∃ V, V = times A [14, 11, 13, 9] := ⟨_, rfl⟩
        rw [← hV] at HNX HMX hVl
        clear hV
        have HMX2 := hide HMX
        clear HMX
        have hr8 := (unhide HT8).range
        go_wp2_with (refine wpList_load_mid rfl 23 (.tmp 8) rfl b8 0 rfl (A.map bv) _ hr8 Try.under16 rfl (by rw [Try.size16]; simp [hAl]) ?_)
        clear hr8
        refine (unhide HMX2).mono ?_
        clear HMX2
        rintro e wx ⟨rfl, yx⟩
        have A8x := (unhide HT8).only yx (fun e => e)
        have ht8 := there16 A8x hAl hVl
        have hz8 := size16s hVl
        obtain ⟨wy, ey, A8y, oy⟩ := restored wx b8 A V A8x (by rw [hVl, hAl])
        have HV8 := hide A8y
        have HV6 := hide (((unhide HB6).only yx (fun e => e)).only oy (unhide N86))
        have OA := hide (((unhide HOQ).trans yx (fun _ _ e => e)).trans oy (fun j hj e => (unhide H8W) j hj e))
        have OOc := hide ((unhide OO).trans (unhide OA) (fun _ _ e => e))
        have EY := hide ey
        clear A8x A8y oy ey yx HOQ HB6 HT8
        go_upto_region 9 with (refine wpList_store_mid rfl 23 (.tmp 8) (.tmp 32) rfl b8 0 (V.map bv).toArray rfl rfl ht8 hz8 (ag_one _) ?_)
        rw [← unhide EY]
        clear ht8 hz8 EY
        go_wp2
        go_loopw [9] (fun i wq => ∃ n : Nat, n ≤ 16 ∧ i = .int .i64 n ∧ Arr wq b6 23 (unshR S V n) ∧ Only (fun j => j = b6) wy wq) (fun i _ => 16 - (intOf i).toNat)
        case atStart => exact ⟨0, Nat.zero_le _, rfl, unhide HV6, Only.refl _ _⟩
        case round =>
          obtain ⟨n, hn, rfl, hat, hot⟩ := hrel
          have sl := unhide HSL
          by_cases hnt : n < 16
          · obtain ⟨d, hd⟩ : ∃ d, d = n % 4 := ⟨_, rfl⟩
            obtain ⟨d4, hd4⟩ : ∃ d4, d4 = 4 * d := ⟨_, rfl⟩
            obtain ⟨f, hf⟩ : ∃ f, f = n + d4 := ⟨_, rfl⟩
            obtain ⟨j, hj⟩ : ∃ j, j = f % 16 := ⟨_, rfl⟩
            have M1 : Hid ((n : Int).tmod 4 = (d : Int)) := by show _ = _; rw [Int.tmod_eq_emod_of_nonneg (by omega)]; omega
            have M1' : Hid ((n : Int) % 4 = (d : Int)) := by show _ = _; omega
            have M2 : Hid (IntKind.i64.wrap (4 * (d : Int)) = (d4 : Int)) := by show _ = _; rw [wrap_small _ (by omega) (by omega)]; omega
            have M3 : Hid (IntKind.i64.wrap ((n : Int) + (d4 : Int)) = (f : Int)) := by show _ = _; rw [wrap_small _ (by omega) (by omega)]; omega
            have M4 : Hid ((f : Int).tmod 16 = (j : Int)) := by show _ = _; rw [Int.tmod_eq_emod_of_nonneg (by omega)]; omega
            have M4' : Hid ((f : Int) % 16 = (j : Int)) := by show _ = _; omega
            have hj16 : j < 16 := by omega
            have hj5 : 5 * n % 16 = j := by omega
            have hul := unshR_length S V n
            have HC6 := hide (hat.cell j _ (gt_some (unshR S V n) j (by omega)))
            have hf6 := hat.free j
            have hw2 := hat.set j (unbox (gt V n))
            rw [show (unshR S V n).set j (unbox (gt V n)) = unshR S V (n + 1) by rw [← hj5]; rfl] at hw2
            have HWn := hide hw2
            have HOn := hide (hot.here j (.int .u8 ((unbox (gt V n)).toNat : Int)))
            have HCS := hide (((unhide HV8).only hot (fun e => unhide N86 e.symm)).cell n _ (gt_some V n (by omega)))
            have ow : Only (fun _ => False) w wr := (unhide OOc).trans hot (fun j hj e => (unhide HW6) j hj e)
            have HCB2 := hide (ow.cell (rc_back (unhide HCB) tbox_len _ _ (tback_all (gt V n))) (fun e => e))
            generalize gt (unshR S V n) j = zz at *
            clear hat hot ow hw2 hj5 hj hf hd4 hd sl hul
            generalize unbox (gt V n) = y at *
            generalize gt V n = x at *
            have hn15 : (n : Int) < 16 := by omega
            have hj15 : (j : Int) < 16 := by omega
            have hx255 : (x.toNat : Int) < 256 := by have := x.toNat_lt; omega
            go_wp2
            refine wp_region_last_drew (S := (fun w' => Only (fun _ => False) wr w')) 15 (by kernel_rfl) ((Only.refl _ _).drew) (fun hHeld => ?_)
            refine wpAnyL_take (i := 0) (v := ?v210) rfl (by kernel_rfl) (by kernel_rfl) (by kernel_rfl) (by kernel_rfl) (fun _ _ _ h => h) (Or.inl ⟨by rfl, ?hy210⟩) (by assumption) ?rest210
            case hy210 =>
              intro w hSw
              go_simp
              try with_reducible rfl
            try simp only [Act.put, List.setIfInBounds_toArray, List.set_cons_zero, List.set_cons_succ, List.getElem_toArray, List.getElem_cons_succ, List.getElem_cons_zero]
            refine wpAnyL_take (i := 1) (v := ?v211) rfl (by kernel_rfl) (by kernel_rfl) (by kernel_rfl) (by kernel_rfl) (fun _ _ _ h => h) (Or.inl ⟨by rfl, ?hy211⟩) (by assumption) ?rest211
            case hy211 =>
              intro w hSw
              go_simp
              try with_reducible rfl
            try simp only [Act.put, List.setIfInBounds_toArray, List.set_cons_zero, List.set_cons_succ, List.getElem_toArray, List.getElem_cons_succ, List.getElem_cons_zero]
            refine wpAnyL_take (i := 2) (v := ?v212) rfl (by kernel_rfl) (by kernel_rfl) (by kernel_rfl) (by kernel_rfl) (fun _ _ _ h => h) (Or.inl ⟨by rfl, ?hy212⟩) (by assumption) ?rest212
            case hy212 =>
              intro w hSw
              (go_simp; (first | rw [unhide M1] | rw [unhide M1']); try with_reducible rfl)
            try simp only [Act.put, List.setIfInBounds_toArray, List.set_cons_zero, List.set_cons_succ, List.getElem_toArray, List.getElem_cons_succ, List.getElem_cons_zero]
            refine wpAnyL_take (i := 3) (v := ?v213) rfl (by kernel_rfl) (by kernel_rfl) (by kernel_rfl) (by kernel_rfl) (fun _ _ _ h => h) (Or.inl ⟨by rfl, ?hy213⟩) (by assumption) ?rest213
            case hy213 =>
              intro w hSw
              (go_simp; rw [unhide M2]; try with_reducible rfl)
            try simp only [Act.put, List.setIfInBounds_toArray, List.set_cons_zero, List.set_cons_succ, List.getElem_toArray, List.getElem_cons_succ, List.getElem_cons_zero]
            refine wpAnyL_take (i := 4) (v := ?v214) rfl (by kernel_rfl) (by kernel_rfl) (by kernel_rfl) (by kernel_rfl) (fun _ _ _ h => h) (Or.inl ⟨by rfl, ?hy214⟩) (by assumption) ?rest214
            case hy214 =>
              intro w hSw
              (go_simp; rw [unhide M3]; try with_reducible rfl)
            try simp only [Act.put, List.setIfInBounds_toArray, List.set_cons_zero, List.set_cons_succ, List.getElem_toArray, List.getElem_cons_succ, List.getElem_cons_zero]
            refine wpAnyL_take (i := 5) (v := ?v215) rfl (by kernel_rfl) (by kernel_rfl) (by kernel_rfl) (by kernel_rfl) (fun _ _ _ h => h) (Or.inl ⟨by rfl, ?hy215⟩) (by assumption) ?rest215
            case hy215 =>
              intro w hSw
              (go_simp; (first | rw [unhide M4] | rw [unhide M4']); try with_reducible rfl)
            try simp only [Act.put, List.setIfInBounds_toArray, List.set_cons_zero, List.set_cons_succ, List.getElem_toArray, List.getElem_cons_succ, List.getElem_cons_zero]
            refine wpAnyL_take (i := 6) (v := ?v216) rfl (by kernel_rfl) (by kernel_rfl) (by kernel_rfl) (by kernel_rfl) (fun _ _ _ h => h) (Or.inl ⟨by rfl, ?hy216⟩) (by assumption) ?rest216
            case hy216 =>
              intro w hSw
              go_simp
              try with_reducible rfl
            try simp only [Act.put, List.setIfInBounds_toArray, List.set_cons_zero, List.set_cons_succ, List.getElem_toArray, List.getElem_cons_succ, List.getElem_cons_zero]
            refine wpAnyL_take (i := 7) (v := ?v217) rfl (by kernel_rfl) (by kernel_rfl) (by kernel_rfl) (by kernel_rfl) (fun _ _ _ h => h) (Or.inl ⟨by rfl, ?hy217⟩) (by assumption) ?rest217
            case hy217 =>
              intro w hSw
              go_simp
              try with_reducible rfl
            try simp only [Act.put, List.setIfInBounds_toArray, List.set_cons_zero, List.set_cons_succ, List.getElem_toArray, List.getElem_cons_succ, List.getElem_cons_zero]
            refine wpAnyL_take (i := 8) (v := ?v218) rfl (by kernel_rfl) (by kernel_rfl) (by kernel_rfl) (by kernel_rfl) (fun _ _ _ h => h) (Or.inl ⟨by rfl, ?hy218⟩) (by assumption) ?rest218
            case hy218 =>
              intro w hSw
              go_simp
              try with_reducible rfl
            try simp only [Act.put, List.setIfInBounds_toArray, List.set_cons_zero, List.set_cons_succ, List.getElem_toArray, List.getElem_cons_succ, List.getElem_cons_zero]
            refine wpAnyL_take (i := 9) (v := ?v219) rfl (by kernel_rfl) (by kernel_rfl) (by kernel_rfl) (by kernel_rfl) (fun _ _ _ h => h) (Or.inl ⟨by rfl, ?hy219⟩) (by assumption) ?rest219
            case hy219 =>
              intro w hSw
              (have q := hSw.cell (unhide HCS) (fun e => e); go_simp; try with_reducible rfl)
            try simp only [Act.put, List.setIfInBounds_toArray, List.set_cons_zero, List.set_cons_succ, List.getElem_toArray, List.getElem_cons_succ, List.getElem_cons_zero]
            refine wpAnyL_take (i := 10) (v := ?v220) rfl (by kernel_rfl) (by kernel_rfl) (by kernel_rfl) (by kernel_rfl) (fun _ _ _ h => h) (Or.inl ⟨by rfl, ?hy220⟩) (by assumption) ?rest220
            case hy220 =>
              intro w hSw
              go_simp
              try with_reducible rfl
            try simp only [Act.put, List.setIfInBounds_toArray, List.set_cons_zero, List.set_cons_succ, List.getElem_toArray, List.getElem_cons_succ, List.getElem_cons_zero]
            refine wpAnyL_take (i := 11) (v := ?v221) rfl (by kernel_rfl) (by kernel_rfl) (by kernel_rfl) (by kernel_rfl) (fun _ _ _ h => h) (Or.inl ⟨by rfl, ?hy221⟩) (by assumption) ?rest221
            case hy221 =>
              intro w hSw
              go_simp
              try with_reducible rfl
            try simp only [Act.put, List.setIfInBounds_toArray, List.set_cons_zero, List.set_cons_succ, List.getElem_toArray, List.getElem_cons_succ, List.getElem_cons_zero]
            refine wpAnyL_take (i := 12) (v := ?v222) rfl (by kernel_rfl) (by kernel_rfl) (by kernel_rfl) (by kernel_rfl) (fun _ _ _ h => h) (Or.inl ⟨by rfl, ?hy222⟩) (by assumption) ?rest222
            case hy222 =>
              intro w hSw
              go_simp
              try with_reducible rfl
            try simp only [Act.put, List.setIfInBounds_toArray, List.set_cons_zero, List.set_cons_succ, List.getElem_toArray, List.getElem_cons_succ, List.getElem_cons_zero]
            refine wpAnyL_take (i := 13) (v := ?v223) rfl (by kernel_rfl) (by kernel_rfl) (by kernel_rfl) (by kernel_rfl) (fun _ _ _ h => h) (Or.inl ⟨by rfl, ?hy223⟩) (by assumption) ?rest223
            case hy223 =>
              intro w hSw
              (have q := hSw.cell (unhide HCB2) (fun e => e); go_simp; try with_reducible rfl)
            try simp only [Act.put, List.setIfInBounds_toArray, List.set_cons_zero, List.set_cons_succ, List.getElem_toArray, List.getElem_cons_succ, List.getElem_cons_zero]
            refine wpAnyL_take (i := 14) (v := ?v224) rfl (by kernel_rfl) (by kernel_rfl) (by kernel_rfl) (by kernel_rfl) (fun _ _ _ h => h) (Or.inl ⟨by rfl, ?hy224⟩) (by assumption) ?rest224
            case hy224 =>
              intro w hSw
              go_simp
              try with_reducible rfl
            try simp only [Act.put, List.setIfInBounds_toArray, List.set_cons_zero, List.set_cons_succ, List.getElem_toArray, List.getElem_cons_succ, List.getElem_cons_zero]
            have hc8 := unhide HC6
            refine wpAnyL_ready (rs := [15]) (by kernel_rfl) (by simp) ?_
            refine AllReadyL.last rfl (fun K hK => ?_)
            go_simp
            refine hK.out _ _ (trivial) (fun hHeld => ?_)
            clear hK K
            try simp only [Act.put, List.setIfInBounds_toArray, List.set_cons_zero, List.set_cons_succ, List.getElem_toArray, List.getElem_cons_succ, List.getElem_cons_zero]
            refine wpAnyL_done (by kernel_rfl) ?_ _
            go_wp2
            go_roundw
            case rel => exact ⟨n + 1, by omega, by go_num, unhide HWn, (unhide HOn).drew⟩
            case measure => simp [intOf]; omega
          · obtain rfl : n = 16 := by omega
            rw [unshR_all S V sl, ← unhide HNX] at hat
            have HQ := hide hat
            have HO2 := hide ((unhide HOR).trans (((unhide OA).mono (T := fun j => j = b6) (fun _ _ e => e.elim)).trans hot (fun j hj e => e)) (fun _ _ e => e))
            clear hat hot hn hnt sl
            go_wp2
            go_roundw
            case rel => exact ⟨r1, by have := unhide HR1; omega, rfl, by rw [unhide HR1]; exact unhide HQ, unhide HO2⟩
            case measure => have := unhide HR1; simp [intOf]; omega
      · have hrl1 : ¬ (r : Int) < (L1 : Int) := by omega
        have HNX := hide (openT_one bs m s r (by have := unhide HL1; omega) hlt)
        rw [← unhide HS, ← unhide HA] at HNX
        have HV8 := hide (unhide HT8)
        have HV6 := hide (unhide HB6)
        have OA := hide (unhide HOQ)
        have OOc := hide ((unhide OO).trans (unhide OA) (fun _ _ e => e))
        clear HOQ HB6 HT8
        go_upto_region 9 with fail
        go_wp2
        go_loopw [9] (fun i wq => ∃ n : Nat, n ≤ 16 ∧ i = .int .i64 n ∧ Arr wq b6 23 (unshR S A n) ∧ Only (fun j => j = b6) w8 wq) (fun i _ => 16 - (intOf i).toNat)
        case atStart => exact ⟨0, Nat.zero_le _, rfl, unhide HV6, Only.refl _ _⟩
        case round =>
          obtain ⟨n, hn, rfl, hat, hot⟩ := hrel
          have sl := unhide HSL
          by_cases hnt : n < 16
          · obtain ⟨d, hd⟩ : ∃ d, d = n % 4 := ⟨_, rfl⟩
            obtain ⟨d4, hd4⟩ : ∃ d4, d4 = 4 * d := ⟨_, rfl⟩
            obtain ⟨f, hf⟩ : ∃ f, f = n + d4 := ⟨_, rfl⟩
            obtain ⟨j, hj⟩ : ∃ j, j = f % 16 := ⟨_, rfl⟩
            have M1 : Hid ((n : Int).tmod 4 = (d : Int)) := by show _ = _; rw [Int.tmod_eq_emod_of_nonneg (by omega)]; omega
            have M1' : Hid ((n : Int) % 4 = (d : Int)) := by show _ = _; omega
            have M2 : Hid (IntKind.i64.wrap (4 * (d : Int)) = (d4 : Int)) := by show _ = _; rw [wrap_small _ (by omega) (by omega)]; omega
            have M3 : Hid (IntKind.i64.wrap ((n : Int) + (d4 : Int)) = (f : Int)) := by show _ = _; rw [wrap_small _ (by omega) (by omega)]; omega
            have M4 : Hid ((f : Int).tmod 16 = (j : Int)) := by show _ = _; rw [Int.tmod_eq_emod_of_nonneg (by omega)]; omega
            have M4' : Hid ((f : Int) % 16 = (j : Int)) := by show _ = _; omega
            have hj16 : j < 16 := by omega
            have hj5 : 5 * n % 16 = j := by omega
            have hul := unshR_length S A n
            have HC6 := hide (hat.cell j _ (gt_some (unshR S A n) j (by omega)))
            have hf6 := hat.free j
            have hw2 := hat.set j (unbox (gt A n))
            rw [show (unshR S A n).set j (unbox (gt A n)) = unshR S A (n + 1) by rw [← hj5]; rfl] at hw2
            have HWn := hide hw2
            have HOn := hide (hot.here j (.int .u8 ((unbox (gt A n)).toNat : Int)))
            have HCS := hide (((unhide HV8).only hot (fun e => unhide N86 e.symm)).cell n _ (gt_some A n (by omega)))
            have ow : Only (fun _ => False) w wr := (unhide OOc).trans hot (fun j hj e => (unhide HW6) j hj e)
            have HCB2 := hide (ow.cell (rc_back (unhide HCB) tbox_len _ _ (tback_all (gt A n))) (fun e => e))
            generalize gt (unshR S A n) j = zz at *
            clear hat hot ow hw2 hj5 hj hf hd4 hd sl hul
            generalize unbox (gt A n) = y at *
            generalize gt A n = x at *
            have hn15 : (n : Int) < 16 := by omega
            have hj15 : (j : Int) < 16 := by omega
            have hx255 : (x.toNat : Int) < 256 := by have := x.toNat_lt; omega
            go_wp2
            refine wp_region_last_drew (S := (fun w' => Only (fun _ => False) wr w')) 15 (by kernel_rfl) ((Only.refl _ _).drew) (fun hHeld => ?_)
            refine wpAnyL_take (i := 0) (v := ?v225) rfl (by kernel_rfl) (by kernel_rfl) (by kernel_rfl) (by kernel_rfl) (fun _ _ _ h => h) (Or.inl ⟨by rfl, ?hy225⟩) (by assumption) ?rest225
            case hy225 =>
              intro w hSw
              go_simp
              try with_reducible rfl
            try simp only [Act.put, List.setIfInBounds_toArray, List.set_cons_zero, List.set_cons_succ, List.getElem_toArray, List.getElem_cons_succ, List.getElem_cons_zero]
            refine wpAnyL_take (i := 1) (v := ?v226) rfl (by kernel_rfl) (by kernel_rfl) (by kernel_rfl) (by kernel_rfl) (fun _ _ _ h => h) (Or.inl ⟨by rfl, ?hy226⟩) (by assumption) ?rest226
            case hy226 =>
              intro w hSw
              go_simp
              try with_reducible rfl
            try simp only [Act.put, List.setIfInBounds_toArray, List.set_cons_zero, List.set_cons_succ, List.getElem_toArray, List.getElem_cons_succ, List.getElem_cons_zero]
            refine wpAnyL_take (i := 2) (v := ?v227) rfl (by kernel_rfl) (by kernel_rfl) (by kernel_rfl) (by kernel_rfl) (fun _ _ _ h => h) (Or.inl ⟨by rfl, ?hy227⟩) (by assumption) ?rest227
            case hy227 =>
              intro w hSw
              (go_simp; (first | rw [unhide M1] | rw [unhide M1']); try with_reducible rfl)
            try simp only [Act.put, List.setIfInBounds_toArray, List.set_cons_zero, List.set_cons_succ, List.getElem_toArray, List.getElem_cons_succ, List.getElem_cons_zero]
            refine wpAnyL_take (i := 3) (v := ?v228) rfl (by kernel_rfl) (by kernel_rfl) (by kernel_rfl) (by kernel_rfl) (fun _ _ _ h => h) (Or.inl ⟨by rfl, ?hy228⟩) (by assumption) ?rest228
            case hy228 =>
              intro w hSw
              (go_simp; rw [unhide M2]; try with_reducible rfl)
            try simp only [Act.put, List.setIfInBounds_toArray, List.set_cons_zero, List.set_cons_succ, List.getElem_toArray, List.getElem_cons_succ, List.getElem_cons_zero]
            refine wpAnyL_take (i := 4) (v := ?v229) rfl (by kernel_rfl) (by kernel_rfl) (by kernel_rfl) (by kernel_rfl) (fun _ _ _ h => h) (Or.inl ⟨by rfl, ?hy229⟩) (by assumption) ?rest229
            case hy229 =>
              intro w hSw
              (go_simp; rw [unhide M3]; try with_reducible rfl)
            try simp only [Act.put, List.setIfInBounds_toArray, List.set_cons_zero, List.set_cons_succ, List.getElem_toArray, List.getElem_cons_succ, List.getElem_cons_zero]
            refine wpAnyL_take (i := 5) (v := ?v230) rfl (by kernel_rfl) (by kernel_rfl) (by kernel_rfl) (by kernel_rfl) (fun _ _ _ h => h) (Or.inl ⟨by rfl, ?hy230⟩) (by assumption) ?rest230
            case hy230 =>
              intro w hSw
              (go_simp; (first | rw [unhide M4] | rw [unhide M4']); try with_reducible rfl)
            try simp only [Act.put, List.setIfInBounds_toArray, List.set_cons_zero, List.set_cons_succ, List.getElem_toArray, List.getElem_cons_succ, List.getElem_cons_zero]
            refine wpAnyL_take (i := 6) (v := ?v231) rfl (by kernel_rfl) (by kernel_rfl) (by kernel_rfl) (by kernel_rfl) (fun _ _ _ h => h) (Or.inl ⟨by rfl, ?hy231⟩) (by assumption) ?rest231
            case hy231 =>
              intro w hSw
              go_simp
              try with_reducible rfl
            try simp only [Act.put, List.setIfInBounds_toArray, List.set_cons_zero, List.set_cons_succ, List.getElem_toArray, List.getElem_cons_succ, List.getElem_cons_zero]
            refine wpAnyL_take (i := 7) (v := ?v232) rfl (by kernel_rfl) (by kernel_rfl) (by kernel_rfl) (by kernel_rfl) (fun _ _ _ h => h) (Or.inl ⟨by rfl, ?hy232⟩) (by assumption) ?rest232
            case hy232 =>
              intro w hSw
              go_simp
              try with_reducible rfl
            try simp only [Act.put, List.setIfInBounds_toArray, List.set_cons_zero, List.set_cons_succ, List.getElem_toArray, List.getElem_cons_succ, List.getElem_cons_zero]
            refine wpAnyL_take (i := 8) (v := ?v233) rfl (by kernel_rfl) (by kernel_rfl) (by kernel_rfl) (by kernel_rfl) (fun _ _ _ h => h) (Or.inl ⟨by rfl, ?hy233⟩) (by assumption) ?rest233
            case hy233 =>
              intro w hSw
              go_simp
              try with_reducible rfl
            try simp only [Act.put, List.setIfInBounds_toArray, List.set_cons_zero, List.set_cons_succ, List.getElem_toArray, List.getElem_cons_succ, List.getElem_cons_zero]
            refine wpAnyL_take (i := 9) (v := ?v234) rfl (by kernel_rfl) (by kernel_rfl) (by kernel_rfl) (by kernel_rfl) (fun _ _ _ h => h) (Or.inl ⟨by rfl, ?hy234⟩) (by assumption) ?rest234
            case hy234 =>
              intro w hSw
              (have q := hSw.cell (unhide HCS) (fun e => e); go_simp; try with_reducible rfl)
            try simp only [Act.put, List.setIfInBounds_toArray, List.set_cons_zero, List.set_cons_succ, List.getElem_toArray, List.getElem_cons_succ, List.getElem_cons_zero]
            refine wpAnyL_take (i := 10) (v := ?v235) rfl (by kernel_rfl) (by kernel_rfl) (by kernel_rfl) (by kernel_rfl) (fun _ _ _ h => h) (Or.inl ⟨by rfl, ?hy235⟩) (by assumption) ?rest235
            case hy235 =>
              intro w hSw
              go_simp
              try with_reducible rfl
            try simp only [Act.put, List.setIfInBounds_toArray, List.set_cons_zero, List.set_cons_succ, List.getElem_toArray, List.getElem_cons_succ, List.getElem_cons_zero]
            refine wpAnyL_take (i := 11) (v := ?v236) rfl (by kernel_rfl) (by kernel_rfl) (by kernel_rfl) (by kernel_rfl) (fun _ _ _ h => h) (Or.inl ⟨by rfl, ?hy236⟩) (by assumption) ?rest236
            case hy236 =>
              intro w hSw
              go_simp
              try with_reducible rfl
            try simp only [Act.put, List.setIfInBounds_toArray, List.set_cons_zero, List.set_cons_succ, List.getElem_toArray, List.getElem_cons_succ, List.getElem_cons_zero]
            refine wpAnyL_take (i := 12) (v := ?v237) rfl (by kernel_rfl) (by kernel_rfl) (by kernel_rfl) (by kernel_rfl) (fun _ _ _ h => h) (Or.inl ⟨by rfl, ?hy237⟩) (by assumption) ?rest237
            case hy237 =>
              intro w hSw
              go_simp
              try with_reducible rfl
            try simp only [Act.put, List.setIfInBounds_toArray, List.set_cons_zero, List.set_cons_succ, List.getElem_toArray, List.getElem_cons_succ, List.getElem_cons_zero]
            refine wpAnyL_take (i := 13) (v := ?v238) rfl (by kernel_rfl) (by kernel_rfl) (by kernel_rfl) (by kernel_rfl) (fun _ _ _ h => h) (Or.inl ⟨by rfl, ?hy238⟩) (by assumption) ?rest238
            case hy238 =>
              intro w hSw
              (have q := hSw.cell (unhide HCB2) (fun e => e); go_simp; try with_reducible rfl)
            try simp only [Act.put, List.setIfInBounds_toArray, List.set_cons_zero, List.set_cons_succ, List.getElem_toArray, List.getElem_cons_succ, List.getElem_cons_zero]
            refine wpAnyL_take (i := 14) (v := ?v239) rfl (by kernel_rfl) (by kernel_rfl) (by kernel_rfl) (by kernel_rfl) (fun _ _ _ h => h) (Or.inl ⟨by rfl, ?hy239⟩) (by assumption) ?rest239
            case hy239 =>
              intro w hSw
              go_simp
              try with_reducible rfl
            try simp only [Act.put, List.setIfInBounds_toArray, List.set_cons_zero, List.set_cons_succ, List.getElem_toArray, List.getElem_cons_succ, List.getElem_cons_zero]
            have hc8 := unhide HC6
            refine wpAnyL_ready (rs := [15]) (by kernel_rfl) (by simp) ?_
            refine AllReadyL.last rfl (fun K hK => ?_)
            go_simp
            refine hK.out _ _ (trivial) (fun hHeld => ?_)
            clear hK K
            try simp only [Act.put, List.setIfInBounds_toArray, List.set_cons_zero, List.set_cons_succ, List.getElem_toArray, List.getElem_cons_succ, List.getElem_cons_zero]
            refine wpAnyL_done (by kernel_rfl) ?_ _
            go_wp2
            go_roundw
            case rel => exact ⟨n + 1, by omega, by go_num, unhide HWn, (unhide HOn).drew⟩
            case measure => simp [intOf]; omega
          · obtain rfl : n = 16 := by omega
            rw [unshR_all S A sl, ← unhide HNX] at hat
            have HQ := hide hat
            have HO2 := hide ((unhide HOR).trans (((unhide OA).mono (T := fun j => j = b6) (fun _ _ e => e.elim)).trans hot (fun j hj e => e)) (fun _ _ e => e))
            clear hat hot hn hnt sl
            go_wp2
            go_roundw
            case rel => exact ⟨r1, by have := unhide HR1; omega, rfl, by rw [unhide HR1]; exact unhide HQ, unhide HO2⟩
            case measure => have := unhide HR1; simp [intOf]; omega
    · have hr0 : r = 0 := by omega
      have hnx := openT_end bs m s (by have := unhide HM3; omega)
      rw [← hr0] at hnx
      obtain ⟨S, hS⟩ : ∃ S, S = openT bs m s (m - 1 - r) := ⟨_, rfl⟩
      rw [← hS] at har hnx
      have hSl : S.length = 16 := by rw [hS]; exact unhide HTL _ (by omega)
      have hr9 := har.range
      have hal := unhide HTL m (Nat.le_refl _)
      have HO6 := hide ((unhide O6).trans hor (fun j hj e => (unhide HW6) j hj e))
      have O2w := hide ((unhide O26).trans hor (fun j hj e => by have := unhide H26; omega))
      have A4z := hide ((unhide A46).only hor (unhide N46))
      have hrL : ¬ (1 : Int) ≤ (r : Int) := by omega
      have hlast : openT bs m s m = added S (blkOf bs 0) := by rw [hnx, hr0]
      have HLAST := hide hlast
      have HK : Hid (Calls Try.prog 24 #[.pointer (some ⟨cb, 0, none⟩), .agg (S.map bv).toArray, .int .i64 0] wa fun e w' => e = .returned (.agg ((added S (blkOf bs 0)).map bv).toArray) ∧ Only (fun _ => False) wa w') := by
        have h := rkey_any cb m 0 bs S hSl (by have := unhide HM3; omega) (unhide HM) wa ((unhide RC).new (unhide HO6))
        exact h
      clear har hor hr0 hnx hS hlast
      go_wp2_with (refine wpList_load_mid rfl 23 (.tmp 6) rfl b6 0 rfl (S.map bv) _ hr9 Try.under16 rfl (by rw [Try.size16]; simp [hSl]) ?_)
      clear hr9
      refine (unhide HK).mono ?_
      clear HK
      rintro e wz ⟨rfl, yz⟩
      rw [← unhide HLAST]
      have A4y := (unhide A4z).only yz (fun e => e)
      have ht4 := there16 A4y rfl hal
      have hz4 := size16s hal
      have HA4 := hide A4y
      have O2y := hide ((unhide O2w).trans yz (fun _ _ e => e))
      clear A4y yz
      generalize hl : openT bs m s m = l at *
      have HLE := hide hl
      clear hl
      go_wp2_with (refine wpList_store_mid rfl 23 (.tmp 4) (.tmp 54) rfl b4 0 (l.map bv).toArray rfl rfl ht4 hz4 (ag_one _) ?_)
      refine bodyPost_ret (results_cell_row rfl _ _ b4 23 _ _ _ rfl ((unhide HA4).stored _ (by rw [hal]; rfl)).out Try.under16 rfl (by rw [Try.size16]; simp [hal])) rfl ?_
      exact ⟨by rw [← unhide HLE], (unhide O2).trans (Only.setCells (S := fun j => j = b4 ∨ w2.heap.size ≤ j) (fun _ => Or.inl rfl) _ _ _ ((unhide O2y).mono (fun _ _ e => e.elim))) (fun j hj e => by have := (unhide HB) j hj; have := (unhide O2).size; omega)⟩
end Ae
end Go.Proofs.Ytbhidmeobeecmab
