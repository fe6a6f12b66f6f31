/-
  The state's calls: times.
-/
import Derived.Test.YtdmcnblnoiahcaaAeS1
namespace Go.Proofs.Ytdmcnblnoiahcaa
open Go.RowKit
set_option linter.unusedSimpArgs false
set_option linter.unusedVariables false
namespace Ae

set_option maxRecDepth 100000 in
set_option maxHeartbeats 2000000 in
theorem times_st_any (s f : List UInt8) (w : World) (hs : s.length = 16) (hf4 : f.length = 4) :
    Calls Try.prog 73 #[.agg (s.map bv).toArray, .agg (f.map bv).toArray] w fun e w' => e = .returned (.agg ((times s f).map bv).toArray) ∧ Only (fun _ => False) w w' := by
  have hal := times_length s f
  obtain ⟨w4, b1, b2, b3, b4, e4, eb4, eb3, eb2, eb1, a1, a2, a3, a4, o4, n14, n24, n34, hb⟩ := four w s f zero16 zero16 64 86 64 64
  go_enter Try.func73, Try.ntmps73
  go_upto_region 2 with fail
  rw [zeros_eq, ← e4, ← eb4, ← eb3, ← eb2, ← eb1]
  clear e4 eb4 eb3 eb2 eb1
  have A1 := hide a1
  have A2 := hide a2
  have A3 := hide a3
  have A4 := hide a4
  have O4 := hide o4
  have HB := hide hb
  clear a1 a2 a3 a4 o4 hb
  go_wp2
  go_loopw [6, 7, 8, 9, 10, 11] (fun _ _ _ _ _ i wr => ∃ n : Nat, n ≤ 16 ∧ i = .int .i64 n ∧ Arr wr b4 64 (mixd (times s f) zero16 n) ∧ Only (fun j => j = b4) w4 wr) (fun _ _ _ _ _ i _ => 16 - (intOf i).toNat)
  case atStart => exact ⟨0, Nat.zero_le _, rfl, by rw [mixd_zero]; exact unhide A4, Only.refl _ _⟩
  case round =>
    obtain ⟨n, hn, rfl, har, hor⟩ := hrel
    by_cases hlt : n < 16
    · obtain ⟨r, hr⟩ : ∃ r, r = n % 4 := ⟨_, rfl⟩
      obtain ⟨c, hc⟩ : ∃ c, c = n - n % 4 := ⟨_, rfl⟩
      have hr4 : r < 4 := by omega
      have hc12 : c ≤ 12 := by omega
      have hmod : (n : Int).tmod 4 = (r : Int) := by rw [Int.tmod_eq_emod_of_nonneg (by omega)]; omega
      have hsub : (n : Int) - (r : Int) = (c : Int) := by omega
      have hrf := ((unhide A2).only hor n24).range
      have hstart : mixd (times s f) zero16 n = (mixd (times s f) zero16 n).set n (sumK s f n 0) := by
        have h1 := mixd_at (times s f) zero16 16 n hal rfl hlt
        rw [gt_some zero16 n hlt] at h1
        rw [gt_zero n hlt] at h1
        exact (set_self h1).symm
      rw [hstart] at har
      have HAR := hide har
      have HOR := hide hor
      have HR := hide hr
      have HC := hide hc
      clear har hor hr hc hstart
      have hn15 : (n : Int) < 16 := by omega
      go_wp2_with (refine wpList_load_mid rfl 86 (.tmp 3) rfl b2 0 rfl (f.map bv) _ hrf Try.under4 rfl (by rw [Try.size4]; simp [hf4]) ?_)
      clear hrf
      go_loopw [9, 10, 21] (fun _ _ j wq => ∃ k : Nat, k ≤ 4 ∧ j = .int .i64 k ∧ Arr wq b4 64 ((mixd (times s f) zero16 n).set n (sumK s f n k)) ∧ Only (fun j => j = b4) w4 wq) (fun _ _ j _ => 4 - (intOf j).toNat)
      case atStart => exact ⟨0, Nat.zero_le _, rfl, unhide HAR, unhide HOR⟩
      case round =>
        obtain ⟨k, hk, rfl, hq, hoq⟩ := hrel
        by_cases hkt : k < 4
        · obtain ⟨m, hm⟩ : ∃ m, m = c + (r + k) % 4 := ⟨_, rfl⟩
          have hm16 : m < 16 := by omega
          obtain ⟨d, hd⟩ : ∃ d, d = (r + k) % 4 := ⟨_, rfl⟩
          have hmd : m = c + d := by rw [hm, hd]
          have hd4 : d < 4 := by omega
          obtain ⟨e, he⟩ : ∃ e, e = r + k := ⟨_, rfl⟩
          have hmod2 : IntKind.i64.wrap ((r : Int) + (k : Int)) = (e : Int) := by rw [wrap_small _ (by omega) (by omega)]; omega
          have hmod3 : (e : Int).tmod 4 = (d : Int) := by rw [Int.tmod_eq_emod_of_nonneg (by omega)]; omega
          have HM5 : Hid ((c : Int) + (d : Int) = (m : Int)) := by show (c : Int) + (d : Int) = (m : Int); omega
          have HM6 : Hid (IntKind.i64.wrap (m : Int) = (m : Int)) := wrap_small _ (by omega) (by omega)
          have hlen : (mixd (times s f) zero16 n).length = 16 := mixd_length _ _ 16 n hal rfl (by omega)
          have hc4 := hq.cell n (sumK s f n k) (by rw [List.getElem?_set, if_pos rfl, if_pos (by omega)])
          have hfz := hq.free n
          have hc1 := ((unhide A1).only hoq n14).cell m _ (gt_some s m (by omega))
          have hix := index_st 86 4 f .i64 k Try.under4 hf4 hkt
          have hx := xor_bv (sumK s f n k) (mul (gt s m) (gt f k))
          have hnext : sumK s f n k ^^^ mul (gt s m) (gt f k) = sumK s f n (k + 1) := by
            show _ = sumK s f n k ^^^ mul (gt s (n - n % 4 + (n % 4 + k) % 4)) (gt f k)
            rw [hm, unhide HC, unhide HR]
          rw [hnext] at hx
          have hset := hq.set n (sumK s f n (k + 1))
          rw [List.set_set] at hset
          have HW := hide hset
          have HO := hide (hoq.here n (.int .u8 ((sumK s f n (k + 1)).toNat : Int)))
          have HT := hide (times_any (gt s m) (gt f k))
          have HC1 := hide hc1
          clear hq hoq hset hnext hc1 hm hd hlen he hmd
          generalize mul (gt s m) (gt f k) = p at *
          generalize gt s m = x at *
          generalize gt f k = y at *
          generalize hz1 : sumK s f n (k + 1) = z1 at *
          have HZ1 := hide hz1
          clear hz1
          generalize sumK s f n k = z0 at *
          have hk3 : (k : Int) < 4 := by omega
          have hm15 : (m : Int) < 16 := by omega
          go_wp2
          refine wp_region_held_drew (S := (fun w' => Only (fun j => j = b4) wr w')) (by kernel_rfl) ((Only.refl _ _).drew) (fun hHeld => ?_)
          refine wpAnyH_take (i := 0) (v := ?v1) rfl (by kernel_rfl) (by kernel_rfl) (by kernel_rfl) (fun _ _ _ h => h) (Or.inl ⟨by rfl, ?hy1⟩) (by assumption) ?rest1
          case hy1 =>
            intro w hSw
            go_simp
            try with_reducible rfl
          try simp only [Act.put, List.setIfInBounds_toArray, List.set_cons_zero, List.set_cons_succ, List.getElem_toArray, List.getElem_cons_succ, List.getElem_cons_zero]
          refine wpAnyH_take (i := 1) (v := ?v2) rfl (by kernel_rfl) (by kernel_rfl) (by kernel_rfl) (fun _ _ _ h => h) (Or.inl ⟨by rfl, ?hy2⟩) (by assumption) ?rest2
          case hy2 =>
            intro w hSw
            go_simp
            try with_reducible rfl
          try simp only [Act.put, List.setIfInBounds_toArray, List.set_cons_zero, List.set_cons_succ, List.getElem_toArray, List.getElem_cons_succ, List.getElem_cons_zero]
          refine wpAnyH_take (i := 3) (v := ?v3) rfl (by kernel_rfl) (by kernel_rfl) (by kernel_rfl) (fun _ _ _ h => h) (Or.inl ⟨by rfl, ?hy3⟩) (by assumption) ?rest3
          case hy3 =>
            intro w hSw
            go_simp
            try with_reducible rfl
          try simp only [Act.put, List.setIfInBounds_toArray, List.set_cons_zero, List.set_cons_succ, List.getElem_toArray, List.getElem_cons_succ, List.getElem_cons_zero]
          refine wpAnyH_take (i := 4) (v := ?v4) rfl (by kernel_rfl) (by kernel_rfl) (by kernel_rfl) (fun _ _ _ h => h) (Or.inl ⟨by rfl, ?hy4⟩) (by assumption) ?rest4
          case hy4 =>
            intro w hSw
            go_simp
            try with_reducible rfl
          try simp only [Act.put, List.setIfInBounds_toArray, List.set_cons_zero, List.set_cons_succ, List.getElem_toArray, List.getElem_cons_succ, List.getElem_cons_zero]
          refine wpAnyH_take (i := 5) (v := ?v5) rfl (by kernel_rfl) (by kernel_rfl) (by kernel_rfl) (fun _ _ _ h => h) (Or.inl ⟨by rfl, ?hy5⟩) (by assumption) ?rest5
          case hy5 =>
            intro w hSw
            go_simp
            try with_reducible rfl
          try simp only [Act.put, List.setIfInBounds_toArray, List.set_cons_zero, List.set_cons_succ, List.getElem_toArray, List.getElem_cons_succ, List.getElem_cons_zero]
          refine wpAnyH_take (i := 6) (v := ?v6) rfl (by kernel_rfl) (by kernel_rfl) (by kernel_rfl) (fun _ _ _ h => h) (Or.inl ⟨by rfl, ?hy6⟩) (by assumption) ?rest6
          case hy6 =>
            intro w hSw
            go_simp
            try with_reducible rfl
          try simp only [Act.put, List.setIfInBounds_toArray, List.set_cons_zero, List.set_cons_succ, List.getElem_toArray, List.getElem_cons_succ, List.getElem_cons_zero]
          refine wpAnyH_take (i := 7) (v := ?v7) rfl (by kernel_rfl) (by kernel_rfl) (by kernel_rfl) (fun _ _ _ h => h) (Or.inl ⟨by rfl, ?hy7⟩) (by assumption) ?rest7
          case hy7 =>
            intro w hSw
            go_simp
            try with_reducible rfl
          try simp only [Act.put, List.setIfInBounds_toArray, List.set_cons_zero, List.set_cons_succ, List.getElem_toArray, List.getElem_cons_succ, List.getElem_cons_zero]
          refine wpAnyH_take (i := 8) (v := ?v8) rfl (by kernel_rfl) (by kernel_rfl) (by kernel_rfl) (fun _ _ _ h => h) (Or.inl ⟨by rfl, ?hy8⟩) (by assumption) ?rest8
          case hy8 =>
            intro w hSw
            (go_simp; rw [unhide HM5, unhide HM6]; try with_reducible rfl)
          try simp only [Act.put, List.setIfInBounds_toArray, List.set_cons_zero, List.set_cons_succ, List.getElem_toArray, List.getElem_cons_succ, List.getElem_cons_zero]
          refine wpAnyH_take (i := 9) (v := ?v9) rfl (by kernel_rfl) (by kernel_rfl) (by kernel_rfl) (fun _ _ _ h => h) (Or.inl ⟨by rfl, ?hy9⟩) (by assumption) ?rest9
          case hy9 =>
            intro w hSw
            go_simp
            try with_reducible rfl
          try simp only [Act.put, List.setIfInBounds_toArray, List.set_cons_zero, List.set_cons_succ, List.getElem_toArray, List.getElem_cons_succ, List.getElem_cons_zero]
          refine wpAnyH_take (i := 10) (v := ?v10) rfl (by kernel_rfl) (by kernel_rfl) (by kernel_rfl) (fun _ _ _ h => h) (Or.inl ⟨by rfl, ?hy10⟩) (by assumption) ?rest10
          case hy10 =>
            intro w hSw
            (have q := hSw.cell (unhide HC1) n14; go_simp; try with_reducible rfl)
          try simp only [Act.put, List.setIfInBounds_toArray, List.set_cons_zero, List.set_cons_succ, List.getElem_toArray, List.getElem_cons_succ, List.getElem_cons_zero]
          refine wpAnyH_take (i := 11) (v := ?v11) rfl (by kernel_rfl) (by kernel_rfl) (by kernel_rfl) (fun _ _ _ h => h) (Or.inl ⟨by rfl, ?hy11⟩) (by assumption) ?rest11
          case hy11 =>
            intro w hSw
            go_simp
            try with_reducible rfl
          try simp only [Act.put, List.setIfInBounds_toArray, List.set_cons_zero, List.set_cons_succ, List.getElem_toArray, List.getElem_cons_succ, List.getElem_cons_zero]
          refine wpAnyH_ready (rs := [2, 12]) (by kernel_rfl) (by simp) ?_
          refine (AllReadyH.cons rfl (fun K hK => ?_) (AllReadyH.cons rfl (fun K hK => ?_) AllReadyH.nil))
          · skip
            go_simp
            refine hK.out _ _ ((Only.refl _ _).drew) (fun hHeld => ?_)
            clear hK K
            try simp only [Act.put, List.setIfInBounds_toArray, List.set_cons_zero, List.set_cons_succ, List.getElem_toArray, List.getElem_cons_succ, List.getElem_cons_zero]
            refine wpAnyH_ready (rs := [12]) (by kernel_rfl) (by simp) ?_
            refine AllReadyH.cons rfl (fun K hK => ?_) AllReadyH.nil
            go_simp
            go_wp2_with fail; refine (unhide HT _).mono ?_; rintro e wx ⟨rfl, hwx⟩; rw [hwx]; clear hwx wx
            refine hK.out _ _ ((Only.refl _ _).drew) (fun hHeld => ?_)
            clear hK K
            try simp only [Act.put, List.setIfInBounds_toArray, List.set_cons_zero, List.set_cons_succ, List.getElem_toArray, List.getElem_cons_succ, List.getElem_cons_zero]
            refine wpAnyH_take (i := 13) (v := ?v12) rfl (by kernel_rfl) (by kernel_rfl) (by kernel_rfl) (fun _ _ _ h => h) (Or.inl ⟨by rfl, ?hy12⟩) (by assumption) ?rest12
            case hy12 =>
              intro w hSw
              go_simp
              try with_reducible rfl
            try simp only [Act.put, List.setIfInBounds_toArray, List.set_cons_zero, List.set_cons_succ, List.getElem_toArray, List.getElem_cons_succ, List.getElem_cons_zero]
            refine wpAnyH_take (i := 14) (v := ?v13) rfl (by kernel_rfl) (by kernel_rfl) (by kernel_rfl) (fun _ _ _ h => h) (Or.inl ⟨by rfl, ?hy13⟩) (by assumption) ?rest13
            case hy13 =>
              intro w hSw
              go_simp
              try with_reducible rfl
            try simp only [Act.put, List.setIfInBounds_toArray, List.set_cons_zero, List.set_cons_succ, List.getElem_toArray, List.getElem_cons_succ, List.getElem_cons_zero]
            refine wpAnyH_ready (rs := [15]) (by kernel_rfl) (by simp) ?_
            refine AllReadyH.cons rfl (fun K hK => ?_) AllReadyH.nil
            go_simp
            refine hK.out _ _ (((Only.refl _ wr).here _ _).drew) (fun hHeld => ?_)
            clear hK K
            try simp only [Act.put, List.setIfInBounds_toArray, List.set_cons_zero, List.set_cons_succ, List.getElem_toArray, List.getElem_cons_succ, List.getElem_cons_zero]
            refine wpAnyH_done (by kernel_rfl) ?_ _
            go_wp2
            go_roundw
            case rel => exact ⟨k + 1, by omega, by go_num, by rw [unhide HZ1]; exact unhide HW, (unhide HO).drew⟩
            case measure => simp [intOf]; omega
          · skip
            go_simp
            go_wp2_with fail; refine (unhide HT _).mono ?_; rintro e wx ⟨rfl, hwx⟩; rw [hwx]; clear hwx wx
            refine hK.out _ _ ((Only.refl _ _).drew) (fun hHeld => ?_)
            clear hK K
            try simp only [Act.put, List.setIfInBounds_toArray, List.set_cons_zero, List.set_cons_succ, List.getElem_toArray, List.getElem_cons_succ, List.getElem_cons_zero]
            refine wpAnyH_ready (rs := [2]) (by kernel_rfl) (by simp) ?_
            refine AllReadyH.cons rfl (fun K hK => ?_) AllReadyH.nil
            go_simp
            refine hK.out _ _ ((Only.refl _ _).drew) (fun hHeld => ?_)
            clear hK K
            try simp only [Act.put, List.setIfInBounds_toArray, List.set_cons_zero, List.set_cons_succ, List.getElem_toArray, List.getElem_cons_succ, List.getElem_cons_zero]
            refine wpAnyH_take (i := 13) (v := ?v14) rfl (by kernel_rfl) (by kernel_rfl) (by kernel_rfl) (fun _ _ _ h => h) (Or.inl ⟨by rfl, ?hy14⟩) (by assumption) ?rest14
            case hy14 =>
              intro w hSw
              go_simp
              try with_reducible rfl
            try simp only [Act.put, List.setIfInBounds_toArray, List.set_cons_zero, List.set_cons_succ, List.getElem_toArray, List.getElem_cons_succ, List.getElem_cons_zero]
            refine wpAnyH_take (i := 14) (v := ?v15) rfl (by kernel_rfl) (by kernel_rfl) (by kernel_rfl) (fun _ _ _ h => h) (Or.inl ⟨by rfl, ?hy15⟩) (by assumption) ?rest15
            case hy15 =>
              intro w hSw
              go_simp
              try with_reducible rfl
            try simp only [Act.put, List.setIfInBounds_toArray, List.set_cons_zero, List.set_cons_succ, List.getElem_toArray, List.getElem_cons_succ, List.getElem_cons_zero]
            refine wpAnyH_ready (rs := [15]) (by kernel_rfl) (by simp) ?_
            refine AllReadyH.cons rfl (fun K hK => ?_) AllReadyH.nil
            go_simp
            refine hK.out _ _ (((Only.refl _ wr).here _ _).drew) (fun hHeld => ?_)
            clear hK K
            try simp only [Act.put, List.setIfInBounds_toArray, List.set_cons_zero, List.set_cons_succ, List.getElem_toArray, List.getElem_cons_succ, List.getElem_cons_zero]
            refine wpAnyH_done (by kernel_rfl) ?_ _
            go_wp2
            go_roundw
            case rel => exact ⟨k + 1, by omega, by go_num, by rw [unhide HZ1]; exact unhide HW, (unhide HO).drew⟩
            case measure => simp [intOf]; omega
        · obtain rfl : k = 4 := by omega
          rw [mixd_set _ _ 16 n hal rfl hlt _ (range_at (fun i => sumK s f i 4) 16 n hlt)] at hq
          have HQ := hide hq
          have HOQ := hide hoq
          clear hq hoq
          go_wp2
          go_roundw
          case rel => exact ⟨n + 1, by omega, by go_num, unhide HQ, unhide HOQ⟩
          case measure => simp [intOf]; omega
    · obtain rfl : n = 16 := by omega
      rw [mixd_all _ _ 16 hal rfl] at har
      have hr1 := har.range
      have ht3 := ((unhide A3).only hor n34).there 16 rfl
      have HA3 := hide ((unhide A3).only hor n34)
      have HOR := hide hor
      clear har hor
      generalize hl : times s f = l at *
      have HLE := hide hl
      clear hl
      go_wp2_with (first
        | (refine wpList_load_mid rfl 64 (.tmp 5) rfl b4 0 rfl (l.map bv) _ hr1 Try.underSt rfl (by rw [Try.sizeState]; simp [hal]) ?_)
        | (refine wpList_store_mid rfl 64 (.tmp 4) (.tmp 42) rfl b3 0 (l.map bv).toArray rfl rfl (by simpa [hal] using ht3) (by rw [Try.sizeState]; simp [hal]) (ag_one _) ?_))
      refine bodyPost_ret (results_cell_row rfl _ _ b3 64 _ _ _ rfl ((unhide HA3).stored _ (by rw [hal]; rfl)).out Try.underSt rfl (by rw [Try.sizeState]; simp [hal])) rfl ?_
      exact ⟨by rw [← unhide HLE], done13 (unhide O4) (unhide HOR) (unhide HB)⟩
end Ae
end Go.Proofs.Ytdmcnblnoiahcaa
