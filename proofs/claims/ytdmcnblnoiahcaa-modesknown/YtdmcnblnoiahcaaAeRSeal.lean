/-
  locksmithref8: Seal.
-/
import Derived.Test.YtdmcnblnoiahcaaAeRKey
import Derived.Test.YtdmcnblnoiahcaaAeCip
namespace Go.Proofs.Ytdmcnblnoiahcaa
open Go.RowKit
set_option linter.unusedSimpArgs false
set_option linter.unusedVariables false
namespace Ae

theorem made16 (x : World) (s : List UInt8) (hs : s.length = 16) : ∃ wy b, wy = (x.alloc (.cells (zero16.map bv).toArray 36)).setCells x.heap.size 0 (s.map bv).toArray.toList ∧ b = x.heap.size ∧ Arr wy b 36 s ∧ Only (fun _ => False) x wy := by
  refine ⟨_, _, rfl, rfl, (Arr.new x 36 zero16 _ rfl).stored s (by rw [hs]; rfl), Only.setCells (fun h => absurd h (by omega)) _ _ _ ((Only.refl _ x).alloc _)⟩

theorem fresh16 (x : World) : ∃ wy b, wy = x.alloc (.cells (zero16.map bv).toArray 36) ∧ b = x.heap.size ∧ Arr wy b 36 zero16 ∧ Only (fun _ => False) x wy :=
  ⟨_, _, rfl, rfl, Arr.new x 36 zero16 _ rfl, (Only.refl _ x).alloc _⟩

theorem restored (x : World) (b : Nat) (old new : List UInt8) (h : Arr x b 36 old) (hl : new.length = old.length) : ∃ wy, wy = x.setCells b 0 (new.map bv).toArray.toList ∧ Arr wy b 36 new ∧ Only (fun j => j = b) x wy :=
  ⟨_, rfl, h.stored new hl, Only.setCells (S := fun j => j = b) (fun _ => rfl) _ _ _ (Only.refl _ x)⟩
theorem there16 {x : World} {b : Nat} {old new : List UInt8} (h : Arr x b 36 old) (ho : old.length = 16) (hn : new.length = 16) : x.there b 0 (new.map bv).toArray.size := by
  have h1 := h.there 16 ho.symm
  rw [List.size_toArray, List.length_map, hn]
  exact h1
theorem size16s {new : List UInt8} (hn : new.length = 16) : (Try.prog.info? 36).map (·.size) = some (new.map bv).toArray.size := by
  rw [List.size_toArray, List.length_map, hn]
  exact Try.size16
theorem sealT_mid (bs : List UInt8) (m : Nat) (s : List UInt8) (r : Nat) (h0 : r ≠ 0) (h1 : r + 1 ≠ m) : sealT bs m s (r + 1) = added (times (shifted ((sealT bs m s r).map box)) [2, 3, 1, 1]) (blkOf bs r) := by
  show (if r = 0 then _ else if r + 1 = m then _ else _) = _
  rw [if_neg h0, if_neg h1]
  rfl
theorem sealT_last (bs : List UInt8) (m : Nat) (s : List UInt8) (r : Nat) (h0 : r ≠ 0) (h1 : r + 1 = m) : sealT bs m s (r + 1) = added (shifted ((sealT bs m s r).map box)) (blkOf bs r) := by
  show (if r = 0 then _ else if r + 1 = m then _ else _) = _
  rw [if_neg h0, if_pos h1]
  rfl

theorem gt_map (f : UInt8 → UInt8) (s : List UInt8) (j : Nat) (hj : j < s.length) : gt (s.map f) j = f (gt s j) := by
  have h1 := gt_some (s.map f) j (by simp; exact hj)
  rw [List.getElem?_map, gt_some s j hj] at h1
  simpa using h1.symm

theorem zero16_at' (n : Nat) (h : n < 16) : zero16[n]? = some 0 := by
  unfold zero16
  rw [List.getElem?_replicate, if_pos h]
theorem RCip.blk {w : World} {cb m : Nat} {bs : List UInt8} (h : RCip w cb m bs) : cb < w.heap.size := by
  obtain ⟨_, g, cap, hb, _⟩ := h
  exact lt_of_block hb

set_option maxRecDepth 100000 in
set_option maxHeartbeats 4000000 in
theorem rseal_any (cb m : Nat) (bs s : List UInt8) (hs : s.length = 16) (hm3 : 3 ≤ m) (hm : m ≤ 15) (w : World) (hc : RCip w cb m bs) :
    Calls Try.prog 32 #[.pointer (some ⟨cb, 0, none⟩), .agg (s.map bv).toArray] w fun e w' => e = .returned (.agg ((sealT bs m s m).map bv).toArray) ∧ Only (fun _ => False) w w' := by
  have RC := hide hc
  obtain ⟨hbl, g, cap, hcb, hrow⟩ := hc
  have HTL := hide (fun i hi => sealT_length bs m hbl s hs i hi)
  have hc0 := rc_zero hcb
  have HCB := hide hcb
  clear hcb hrow hbl
  obtain ⟨M, hM⟩ : ∃ M, M = 4 * m := ⟨_, rfl⟩
  obtain ⟨L1, hL1⟩ : ∃ L1, L1 = m - 1 := ⟨_, rfl⟩
  have F1 : IntKind.i64.wrap ((M : Int) / 4) = (m : Int) := by rw [wrap_small _ (by omega) (by omega)]; omega
  have F2 : IntKind.i64.wrap ((m : Int) - 1) = (L1 : Int) := by rw [wrap_small _ (by omega) (by omega)]; omega
  rw [← hM] at hc0
  have HL1 := hide hL1
  have HM3 := hide hm3
  have HM := hide hm
  clear hM hL1 hm3 hm
  obtain ⟨w2, b1, b4, e2, eb4, eb1, a1, a4, o2, n14, hb⟩ := two w s zero16 36 36
  go_enter Try.func32, Try.ntmps32
  go_upto_region 1 with fail
  rw [zeros_eq, ← e2, ← eb4, ← eb1]
  clear e2 eb4 eb1
  have hc0 := o2.cell hc0 (fun e => e)
  have hr1 := a1.range
  have A4 := hide a4
  have O2 := hide o2
  have HB := hide hb
  clear a1 a4 o2 hb
  go_wp2_with (refine wpList_load_mid rfl 36 (.tmp 3) rfl b1 0 rfl (s.map bv) _ hr1 Try.under16 rfl (by rw [Try.size16]; simp [hs]) ?_)
  have HK0 : Calls Try.prog 50 #[.pointer (some ⟨cb, 0, none⟩), .agg (s.map bv).toArray, .int .i64 0] w2 fun e w' => e = .returned (.agg ((added s (blkOf bs 0)).map bv).toArray) ∧ Only (fun _ => False) w2 w' := by
    have h := rkey_any cb m 0 bs s hs (by have := unhide HM3; omega) (unhide HM) w2 ((unhide RC).new (unhide O2))
    exact h
  refine HK0.mono ?_
  clear HK0
  rintro e w3 ⟨rfl, ho⟩
  have hs1 : sealT bs m s 1 = added s (blkOf bs 0) := by simp [sealT]
  rw [← hs1]
  have HTL1 := unhide HTL 1 (by have := unhide HM3; omega)
  have ht := (Arr.new w3 36 zero16 _ rfl).there 16 rfl
  have HO3 := hide ((unhide O2).trans ho (fun _ _ e => e))
  have A4b := hide ((unhide A4).only ho (fun e => e))
  have O23 := hide ho
  clear ho hs1 hr1 hc0
  obtain ⟨S1, hS1⟩ : ∃ S1, S1 = sealT bs m s 1 := ⟨_, rfl⟩
  rw [← hS1] at HTL1 ⊢
  have HS1 := hide hS1
  clear hS1
  have hz1 : (S1.map bv).toArray.size = 16 := by rw [List.size_toArray, List.length_map, HTL1]
  have ht2 : (w3.alloc (.cells (zero16.map bv).toArray 36)).there w3.heap.size 0 (S1.map bv).toArray.size := by rw [hz1]; exact ht
  have hz2 : (Try.prog.info? 36).map (·.size) = some (S1.map bv).toArray.size := by rw [hz1]; exact Try.size16
  clear hz1 ht
  go_upto_region 3 with (refine wpList_store_mid rfl 36 (.tmp 6) (.tmp 19) rfl w3.heap.size 0 (S1.map bv).toArray rfl rfl ht2 hz2 (ag_one _) ?_)
  obtain ⟨w6, b6, e6, eb6, a6, o36⟩ := made16 w3 S1 HTL1
  have hlt3 : w2.heap.size ≤ w3.heap.size := (unhide O23).size
  have hb4 : b4 < w2.heap.size := by have := (unhide A4).lt; exact this
  have n46 : b4 ≠ b6 := by omega
  have hlt2 := (unhide O2).size
  have hw6 : ∀ j, j < w.heap.size → j ≠ b6 := by intro j hj; omega
  rw [zeros_eq, ← e6, ← eb6]
  rw [unhide HS1] at a6
  have A6 := hide a6
  have A46 := hide ((unhide A4b).only o36 (fun e => e))
  have O6 := hide ((unhide HO3).trans o36 (fun _ _ e => e))
  have O26 := hide ((unhide O23).trans o36 (fun _ _ e => e))
  have H26 : Hid (w2.heap.size ≤ b6) := by show w2.heap.size ≤ b6; omega
  have HW6 := hide hw6
  have N46 := hide n46
  clear e6 eb6 a6 o36 hlt3 hb4 n46 hlt2 hw6 ht2 hz2 HTL1 A4b O23 HO3 HS1 A4
  go_wp2
  go_loopw [7, 8, 9] (fun rd _ _ wr => ∃ r : Nat, 1 ≤ r ∧ r ≤ m ∧ rd = .int .i64 r ∧ Arr wr b6 36 (sealT bs m s r) ∧ Only (fun j => j = b6) w6 wr) (fun rd _ _ _ => 20 - (intOf rd).toNat)
  case atStart => exact ⟨1, Nat.le_refl _, by have := unhide HM3; omega, rfl, unhide A6, Only.refl _ _⟩
  case round =>
    rename World => wa
    obtain ⟨r, hr1, hrm, rfl, har, hor⟩ := hrel
    by_cases hlt : r < m
    · have oo : Only (fun _ => False) w wa := (unhide O6).trans hor (fun j hj e => (unhide HW6) j hj e)
      obtain ⟨S, hS⟩ : ∃ S, S = sealT bs m s r := ⟨_, rfl⟩
      rw [← hS] at har
      have hSl : S.length = 16 := by rw [hS]; exact unhide HTL r hrm
      obtain ⟨T, hT⟩ : ∃ T, T = shifted (S.map box) := ⟨_, rfl⟩
      have hTl : T.length = 16 := by rw [hT]; exact shifted_length _
      have HS := hide hS
      have HT := hide hT
      have OO := hide oo
      have HAR := hide har
      have HOR := hide hor
      have HSL := hide hSl
      have HTLn := hide hTl
      clear hS hT oo har hor
      have hrL : (r : Int) ≤ (L1 : Int) := by have := unhide HL1; omega
      have hrb : (r : Int) ≤ 15 := by have := unhide HM; omega
      go_upto_region 7 with fail
      obtain ⟨w8, b8, e8, eb8, a8, o8⟩ := fresh16 wa
      have n86 : b6 ≠ b8 := by have := (unhide HAR).lt; omega
      have h8w : ∀ j, j < wa.heap.size → j ≠ b8 := by intro j hj; omega
      rw [zeros_eq, ← e8, ← eb8]
      have A8 := hide a8
      have O8 := hide o8
      have H8W := hide h8w
      have N86 := hide n86
      clear e8 eb8 a8 o8 h8w n86
      go_wp2
      go_loopw [9] (fun i wq => ∃ n : Nat, n ≤ 16 ∧ i = .int .i64 n ∧ Arr wq b8 36 (mixd T zero16 n) ∧ Only (fun j => j = b8) w8 wq) (fun i _ => 16 - (intOf i).toNat)
      case atStart => exact ⟨0, Nat.zero_le _, rfl, by rw [mixd_zero]; exact unhide A8, Only.refl _ _⟩
      case round =>
        obtain ⟨n, hn, rfl, hat, hot⟩ := hrel
        have oq : Only (fun _ => False) wa wr := (unhide O8).trans hot (fun j hj e => (unhide H8W) j hj e)
        have tl := unhide HTLn
        have sl := unhide HSL
        by_cases hnt : n < 16
        · obtain ⟨d, hd⟩ : ∃ d, d = n % 4 := ⟨_, rfl⟩
          obtain ⟨d4, hd4⟩ : ∃ d4, d4 = 4 * d := ⟨_, rfl⟩
          obtain ⟨f, hf⟩ : ∃ f, f = n + d4 := ⟨_, rfl⟩
          obtain ⟨j, hj⟩ : ∃ j, j = f % 16 := ⟨_, rfl⟩
          have M1 : Hid ((n : Int).tmod 4 = (d : Int)) := by show _ = _; rw [Int.tmod_eq_emod_of_nonneg (by omega)]; omega
          have M1' : Hid ((n : Int) % 4 = (d : Int)) := by show _ = _; omega
          have M2 : Hid (IntKind.i64.wrap (4 * (d : Int)) = (d4 : Int)) := by show _ = _; rw [wrap_small _ (by omega) (by omega)]; omega
          have M3 : Hid (IntKind.i64.wrap ((n : Int) + (d4 : Int)) = (f : Int)) := by show _ = _; rw [wrap_small _ (by omega) (by omega)]; omega
          have M4 : Hid ((f : Int).tmod 16 = (j : Int)) := by show _ = _; rw [Int.tmod_eq_emod_of_nonneg (by omega)]; omega
          have M4' : Hid ((f : Int) % 16 = (j : Int)) := by show _ = _; omega
          have hj16 : j < 16 := by omega
          have hj5 : 5 * n % 16 = j := by omega
          have hTn : T[n]? = some (box (gt S j)) := by
            rw [unhide HT]
            have h := range_at (fun i => gt (S.map box) (5 * i % 16)) 16 n hnt
            rw [hj5, gt_map box S j (by omega)] at h
            exact h
          have hm0 := mixd_at T zero16 16 n tl rfl hnt
          rw [zero16_at' n hnt] at hm0
          have HC8 := hide (hat.cell n _ hm0)
          have hw2 := hat.set n (box (gt S j))
          rw [mixd_set _ _ 16 n tl rfl hnt _ hTn] at hw2
          have hf8 := hat.free n
          have HWn := hide hw2
          have HOn := hide (hot.here n (.int .u8 ((box (gt S j)).toNat : Int)))
          have HCS := hide (((unhide HAR).only oq (fun e => e)).cell j _ (gt_some S j (by omega)))
          have HCB2 := hide (oq.cell ((unhide OO).cell (rc_there (unhide HCB) _ _ (tbox_all (gt S j))) (fun e => e)) (fun e => e))
          clear hat hot oq hm0 hw2 hTn hj5 hj hf hd4 hd tl sl
          generalize box (gt S j) = y at *
          generalize gt S j = x at *
          have hn15 : (n : Int) < 16 := by omega
          have hj15 : (j : Int) < 16 := by omega
          have hx255 : (x.toNat : Int) < 256 := by have := x.toNat_lt; omega
          go_wp2
          refine wp_region_last_drew (S := (fun w' => Only (fun _ => False) wr w')) 15 (by kernel_rfl) ((Only.refl _ _).drew) (fun hHeld => ?_)
          refine wpAnyL_take (i := 0) (v := ?v48) rfl (by kernel_rfl) (by kernel_rfl) (by kernel_rfl) (by kernel_rfl) (fun _ _ _ h => h) (Or.inl ⟨by rfl, ?hy48⟩) (by assumption) ?rest48
          case hy48 =>
            intro w hSw
            go_simp
            try with_reducible rfl
          try simp only [Act.put, List.setIfInBounds_toArray, List.set_cons_zero, List.set_cons_succ, List.getElem_toArray, List.getElem_cons_succ, List.getElem_cons_zero]
          refine wpAnyL_take (i := 1) (v := ?v49) rfl (by kernel_rfl) (by kernel_rfl) (by kernel_rfl) (by kernel_rfl) (fun _ _ _ h => h) (Or.inl ⟨by rfl, ?hy49⟩) (by assumption) ?rest49
          case hy49 =>
            intro w hSw
            go_simp
            try with_reducible rfl
          try simp only [Act.put, List.setIfInBounds_toArray, List.set_cons_zero, List.set_cons_succ, List.getElem_toArray, List.getElem_cons_succ, List.getElem_cons_zero]
          refine wpAnyL_take (i := 2) (v := ?v50) rfl (by kernel_rfl) (by kernel_rfl) (by kernel_rfl) (by kernel_rfl) (fun _ _ _ h => h) (Or.inl ⟨by rfl, ?hy50⟩) (by assumption) ?rest50
          case hy50 =>
            intro w hSw
            go_simp
            try with_reducible rfl
          try simp only [Act.put, List.setIfInBounds_toArray, List.set_cons_zero, List.set_cons_succ, List.getElem_toArray, List.getElem_cons_succ, List.getElem_cons_zero]
          refine wpAnyL_take (i := 3) (v := ?v51) rfl (by kernel_rfl) (by kernel_rfl) (by kernel_rfl) (by kernel_rfl) (fun _ _ _ h => h) (Or.inl ⟨by rfl, ?hy51⟩) (by assumption) ?rest51
          case hy51 =>
            intro w hSw
            go_simp
            try with_reducible rfl
          try simp only [Act.put, List.setIfInBounds_toArray, List.set_cons_zero, List.set_cons_succ, List.getElem_toArray, List.getElem_cons_succ, List.getElem_cons_zero]
          refine wpAnyL_take (i := 4) (v := ?v52) rfl (by kernel_rfl) (by kernel_rfl) (by kernel_rfl) (by kernel_rfl) (fun _ _ _ h => h) (Or.inl ⟨by rfl, ?hy52⟩) (by assumption) ?rest52
          case hy52 =>
            intro w hSw
            (go_simp; (first | rw [unhide M1] | rw [unhide M1']); try with_reducible rfl)
          try simp only [Act.put, List.setIfInBounds_toArray, List.set_cons_zero, List.set_cons_succ, List.getElem_toArray, List.getElem_cons_succ, List.getElem_cons_zero]
          refine wpAnyL_take (i := 5) (v := ?v53) rfl (by kernel_rfl) (by kernel_rfl) (by kernel_rfl) (by kernel_rfl) (fun _ _ _ h => h) (Or.inl ⟨by rfl, ?hy53⟩) (by assumption) ?rest53
          case hy53 =>
            intro w hSw
            (go_simp; rw [unhide M2]; try with_reducible rfl)
          try simp only [Act.put, List.setIfInBounds_toArray, List.set_cons_zero, List.set_cons_succ, List.getElem_toArray, List.getElem_cons_succ, List.getElem_cons_zero]
          refine wpAnyL_take (i := 6) (v := ?v54) rfl (by kernel_rfl) (by kernel_rfl) (by kernel_rfl) (by kernel_rfl) (fun _ _ _ h => h) (Or.inl ⟨by rfl, ?hy54⟩) (by assumption) ?rest54
          case hy54 =>
            intro w hSw
            (go_simp; rw [unhide M3]; try with_reducible rfl)
          try simp only [Act.put, List.setIfInBounds_toArray, List.set_cons_zero, List.set_cons_succ, List.getElem_toArray, List.getElem_cons_succ, List.getElem_cons_zero]
          refine wpAnyL_take (i := 7) (v := ?v55) rfl (by kernel_rfl) (by kernel_rfl) (by kernel_rfl) (by kernel_rfl) (fun _ _ _ h => h) (Or.inl ⟨by rfl, ?hy55⟩) (by assumption) ?rest55
          case hy55 =>
            intro w hSw
            (go_simp; (first | rw [unhide M4] | rw [unhide M4']); try with_reducible rfl)
          try simp only [Act.put, List.setIfInBounds_toArray, List.set_cons_zero, List.set_cons_succ, List.getElem_toArray, List.getElem_cons_succ, List.getElem_cons_zero]
          refine wpAnyL_take (i := 8) (v := ?v56) rfl (by kernel_rfl) (by kernel_rfl) (by kernel_rfl) (by kernel_rfl) (fun _ _ _ h => h) (Or.inl ⟨by rfl, ?hy56⟩) (by assumption) ?rest56
          case hy56 =>
            intro w hSw
            go_simp
            try with_reducible rfl
          try simp only [Act.put, List.setIfInBounds_toArray, List.set_cons_zero, List.set_cons_succ, List.getElem_toArray, List.getElem_cons_succ, List.getElem_cons_zero]
          refine wpAnyL_take (i := 9) (v := ?v57) rfl (by kernel_rfl) (by kernel_rfl) (by kernel_rfl) (by kernel_rfl) (fun _ _ _ h => h) (Or.inl ⟨by rfl, ?hy57⟩) (by assumption) ?rest57
          case hy57 =>
            intro w hSw
            (have q := hSw.cell (unhide HCS) (fun e => e); go_simp; try with_reducible rfl)
          try simp only [Act.put, List.setIfInBounds_toArray, List.set_cons_zero, List.set_cons_succ, List.getElem_toArray, List.getElem_cons_succ, List.getElem_cons_zero]
          refine wpAnyL_take (i := 10) (v := ?v58) rfl (by kernel_rfl) (by kernel_rfl) (by kernel_rfl) (by kernel_rfl) (fun _ _ _ h => h) (Or.inl ⟨by rfl, ?hy58⟩) (by assumption) ?rest58
          case hy58 =>
            intro w hSw
            go_simp
            try with_reducible rfl
          try simp only [Act.put, List.setIfInBounds_toArray, List.set_cons_zero, List.set_cons_succ, List.getElem_toArray, List.getElem_cons_succ, List.getElem_cons_zero]
          refine wpAnyL_take (i := 11) (v := ?v59) rfl (by kernel_rfl) (by kernel_rfl) (by kernel_rfl) (by kernel_rfl) (fun _ _ _ h => h) (Or.inl ⟨by rfl, ?hy59⟩) (by assumption) ?rest59
          case hy59 =>
            intro w hSw
            go_simp
            try with_reducible rfl
          try simp only [Act.put, List.setIfInBounds_toArray, List.set_cons_zero, List.set_cons_succ, List.getElem_toArray, List.getElem_cons_succ, List.getElem_cons_zero]
          refine wpAnyL_take (i := 12) (v := ?v60) rfl (by kernel_rfl) (by kernel_rfl) (by kernel_rfl) (by kernel_rfl) (fun _ _ _ h => h) (Or.inl ⟨by rfl, ?hy60⟩) (by assumption) ?rest60
          case hy60 =>
            intro w hSw
            go_simp
            try with_reducible rfl
          try simp only [Act.put, List.setIfInBounds_toArray, List.set_cons_zero, List.set_cons_succ, List.getElem_toArray, List.getElem_cons_succ, List.getElem_cons_zero]
          refine wpAnyL_take (i := 13) (v := ?v61) rfl (by kernel_rfl) (by kernel_rfl) (by kernel_rfl) (by kernel_rfl) (fun _ _ _ h => h) (Or.inl ⟨by rfl, ?hy61⟩) (by assumption) ?rest61
          case hy61 =>
            intro w hSw
            (have q := hSw.cell (unhide HCB2) (fun e => e); go_simp; try with_reducible rfl)
          try simp only [Act.put, List.setIfInBounds_toArray, List.set_cons_zero, List.set_cons_succ, List.getElem_toArray, List.getElem_cons_succ, List.getElem_cons_zero]
          refine wpAnyL_take (i := 14) (v := ?v62) rfl (by kernel_rfl) (by kernel_rfl) (by kernel_rfl) (by kernel_rfl) (fun _ _ _ h => h) (Or.inl ⟨by rfl, ?hy62⟩) (by assumption) ?rest62
          case hy62 =>
            intro w hSw
            go_simp
            try with_reducible rfl
          try simp only [Act.put, List.setIfInBounds_toArray, List.set_cons_zero, List.set_cons_succ, List.getElem_toArray, List.getElem_cons_succ, List.getElem_cons_zero]
          have hc8 := unhide HC8
          refine wpAnyL_ready (rs := [15]) (by kernel_rfl) (by simp) ?_
          refine AllReadyL.last rfl (fun K hK => ?_)
          go_simp
          refine hK.out _ _ (trivial) (fun hHeld => ?_)
          clear hK K
          try simp only [Act.put, List.setIfInBounds_toArray, List.set_cons_zero, List.set_cons_succ, List.getElem_toArray, List.getElem_cons_succ, List.getElem_cons_zero]
          refine wpAnyL_done (by kernel_rfl) ?_ _
          go_wp2
          go_roundw
          case rel => exact ⟨n + 1, by omega, by go_num, unhide HWn, (unhide HOn).drew⟩
          case measure => simp [intOf]; omega
        · obtain rfl : n = 16 := by omega
          rw [mixd_all _ _ 16 tl rfl] at hat
          have oo := (unhide OO).trans oq (fun _ _ e => e)
          have HB6 := hide ((unhide HAR).only oq (fun e => e))
          have HOQ := hide oq
          have HT8 := hide hat
          have OOQ := hide oo
          clear oo oq hat hot hn hnt
          have HRK := hide (fun (X : List UInt8) (hX : X.length = 16) (W : World) (hW : Only (fun _ => False) w W) => rkey_any cb m r bs X hX (by omega) (unhide HM) W ((unhide RC).new hW))
          have hl1m := unhide HL1
          have HNL := hide (unhide HTL (r + 1) (by omega))
          by_cases hl1 : r < L1
          · have hrl1 : (r : Int) < (L1 : Int) := by omega
            have HNX := hide (sealT_mid bs m s r (by omega) (by omega))
            rw [← unhide HS, ← unhide HT] at HNX
            have HMX : Calls Try.prog 51 #[.agg (T.map bv).toArray, .agg #[.int .u8 2, .int .u8 3, .int .u8 1, .int .u8 1]] wr fun e w' => e = .returned (.agg ((times T [2, 3, 1, 1]).map bv).toArray) ∧ Only (fun _ => False) wr w' := mix_any T [2, 3, 1, 1] wr tl rfl
            have hVl : (times T [2, 3, 1, 1]).length = 16 := times_length _ _
            obtain ⟨V, hV⟩ : ∃ V, V = times T [2, 3, 1, 1] := ⟨_, rfl⟩
            rw [← hV] at HNX HMX hVl
            clear hV hl1m
            have HMX2 := hide HMX
            clear HMX
            have hr8 := (unhide HT8).range
            go_wp2_with (refine wpList_load_mid rfl 36 (.tmp 8) rfl b8 0 rfl (T.map bv) _ hr8 Try.under16 rfl (by rw [Try.size16]; simp [tl]) ?_)
            clear hr8
            refine (unhide HMX2).mono ?_
            clear HMX2
            rintro e wx ⟨rfl, yx⟩
            have A8x := (unhide HT8).only yx (fun e => e)
            have ht8 := there16 A8x tl hVl
            have hz8 := size16s hVl
            obtain ⟨wy, ey, A8y, oy⟩ := restored wx b8 T V A8x (by rw [hVl, tl])
            have HV8 := hide A8y
            have HV6 := hide (((unhide HB6).only yx (fun e => e)).only oy (unhide N86))
            have OA := hide (((unhide HOQ).trans yx (fun _ _ e => e)).trans oy (fun j hj e => (unhide H8W) j hj e))
            have OOc := hide ((unhide OO).trans (unhide OA) (fun _ _ e => e))
            have EY := hide ey
            clear A8x A8y oy ey yx OOQ HOQ HB6 HT8
            go_upto_region 13 with (refine wpList_store_mid rfl 36 (.tmp 8) (.tmp 49) rfl b8 0 (V.map bv).toArray rfl rfl ht8 hz8 (ag_one _) ?_)
            rw [← unhide EY]
            clear ht8 hz8 EY
            have hr8 := (unhide HV8).range
            go_wp2_with (refine wpList_load_mid rfl 36 (.tmp 8) rfl b8 0 rfl (V.map bv) _ hr8 Try.under16 rfl (by rw [Try.size16]; simp [hVl]) ?_)
            clear hr8
            refine (unhide HRK V hVl wy (unhide OOc)).mono ?_
            rintro e wz ⟨rfl, yz⟩
            rw [← unhide HNX]
            have A6z := (unhide HV6).only yz (fun e => e)
            have ht6 := there16 A6z (unhide HSL) (unhide HNL)
            have hz6 := size16s (unhide HNL)
            have HA6z := hide A6z
            have OAz := hide ((unhide OA).trans yz (fun _ _ e => e))
            clear A6z yz
            go_wp2_with (refine wpList_store_mid rfl 36 (.tmp 6) (.tmp 53) rfl b6 0 ((sealT bs m s (r + 1)).map bv).toArray rfl rfl ht6 hz6 (ag_one _) ?_)
            clear ht6 hz6
            go_roundw
            case rel => exact ⟨r + 1, by omega, by omega, by go_num, (unhide HA6z).stored _ (by rw [unhide HNL, unhide HSL]), (unhide HOR).trans (Only.setCells (S := fun j => j = b6) (fun _ => rfl) _ _ _ ((unhide OAz).mono (fun _ _ e => e.elim))) (fun _ _ e => e)⟩
            case measure => simp [intOf]; omega
          · have hrl1 : ¬ (r : Int) < (L1 : Int) := by omega
            have HNX := hide (sealT_last bs m s r (by omega) (by omega))
            rw [← unhide HS, ← unhide HT] at HNX
            have HV8 := hide (unhide HT8)
            have HV6 := hide (unhide HB6)
            have OA := hide (unhide HOQ)
            have OOc := hide (unhide OOQ)
            clear hl1m OOQ HOQ HB6 HT8
            have hr8 := (unhide HV8).range
            go_wp2_with (refine wpList_load_mid rfl 36 (.tmp 8) rfl b8 0 rfl (T.map bv) _ hr8 Try.under16 rfl (by rw [Try.size16]; simp [tl]) ?_)
            clear hr8
            refine (unhide HRK T tl wr (unhide OOc)).mono ?_
            rintro e wz ⟨rfl, yz⟩
            rw [← unhide HNX]
            have A6z := (unhide HV6).only yz (fun e => e)
            have ht6 := there16 A6z (unhide HSL) (unhide HNL)
            have hz6 := size16s (unhide HNL)
            have HA6z := hide A6z
            have OAz := hide ((unhide OA).trans yz (fun _ _ e => e))
            clear A6z yz
            go_wp2_with (refine wpList_store_mid rfl 36 (.tmp 6) (.tmp 53) rfl b6 0 ((sealT bs m s (r + 1)).map bv).toArray rfl rfl ht6 hz6 (ag_one _) ?_)
            clear ht6 hz6
            go_roundw
            case rel => exact ⟨r + 1, by omega, by omega, by go_num, (unhide HA6z).stored _ (by rw [unhide HNL, unhide HSL]), (unhide HOR).trans (Only.setCells (S := fun j => j = b6) (fun _ => rfl) _ _ _ ((unhide OAz).mono (fun _ _ e => e.elim))) (fun _ _ e => e)⟩
            case measure => simp [intOf]; omega
    · obtain rfl : r = m := by omega
      have hr9 := har.range
      have hal := unhide HTL r (Nat.le_refl _)
      have A4z := (unhide A46).only hor (unhide N46)
      have ht4 := there16 A4z rfl hal
      have hz4 := size16s hal
      have HA4 := hide A4z
      have O2w := hide ((unhide O26).trans hor (fun j hj e => by have := unhide H26; omega))
      have hrL : ¬ (r : Int) ≤ (L1 : Int) := by have := unhide HL1; have := unhide HM3; omega
      clear A4z har hor
      generalize hl : sealT bs r s r = l at *
      have HLE := hide hl
      clear hl
      go_wp2_with (first
        | (refine wpList_load_mid rfl 36 (.tmp 6) rfl b6 0 rfl (l.map bv) _ hr9 Try.under16 rfl (by rw [Try.size16]; simp [hal]) ?_)
        | (refine wpList_store_mid rfl 36 (.tmp 4) (.tmp 54) rfl b4 0 (l.map bv).toArray rfl rfl ht4 hz4 (ag_one _) ?_))
      refine bodyPost_ret (results_cell_row rfl _ _ b4 36 _ _ _ rfl ((unhide HA4).stored _ (by rw [hal]; rfl)).out Try.under16 rfl (by rw [Try.size16]; simp [hal])) rfl ?_
      exact ⟨by rw [← unhide HLE], (unhide O2).trans (Only.setCells (S := fun j => j = b4 ∨ w2.heap.size ≤ j) (fun _ => Or.inl rfl) _ _ _ ((unhide O2w).mono (fun _ _ e => e.elim))) (fun j hj e => by have := (unhide HB) j hj; have := (unhide O2).size; omega)⟩
end Ae
end Go.Proofs.Ytdmcnblnoiahcaa
