/-
  locksmithref8: mix.
-/
import Derived.Test.YtdmcnblnoiahcaaAeS2
import Derived.Test.YtdmcnblnoiahcaaHeldL
namespace Go.Proofs.Ytdmcnblnoiahcaa
open Go.RowKit
set_option linter.unusedSimpArgs false
set_option linter.unusedVariables false
namespace Ae

/-- byte n of mix, its first k parts -/
def rsumK (s m : List UInt8) (n : Nat) : Nat → UInt8
  | 0 => 0
  | k + 1 => rsumK s m n k ^^^ mul (gt m ((k + 4 - n % 4) % 4)) (gt s (n - n % 4 + k))
def rmix (s m : List UInt8) : List UInt8 := (List.range 16).map fun i => rsumK s m i 4

theorem rsum_eq (s m : List UInt8) (n : Nat) : rsumK s m n 4 = sumK s m n 4 := by
  have h4 : n % 4 = 0 ∨ n % 4 = 1 ∨ n % 4 = 2 ∨ n % 4 = 3 := by omega
  generalize hc : n - n % 4 = c
  simp only [rsumK, sumK, hc]
  rcases h4 with h | h | h | h
  all_goals
    simp only [h, Nat.reduceAdd, Nat.reduceSub, Nat.reduceMod, Nat.zero_add, Nat.add_zero]
    simp only [fun i => mul_comm (gt m i)]
    try ac_rfl
theorem rmix_eq (s m : List UInt8) : rmix s m = times s m := by
  unfold rmix times
  simp only [rsum_eq]

set_option maxRecDepth 100000 in
set_option maxHeartbeats 2000000 in
theorem mix_any (s f : List UInt8) (w : World) (hs : s.length = 16) (hf4 : f.length = 4) :
    Calls Try.prog 51 #[.agg (s.map bv).toArray, .agg (f.map bv).toArray] w fun e w' => e = .returned (.agg ((times s f).map bv).toArray) ∧ Only (fun _ => False) w w' := by
  rw [← rmix_eq]
  have hal : (rmix s f).length = 16 := by simp [rmix]
  obtain ⟨w4, b1, b2, b3, b4, e4, eb4, eb3, eb2, eb1, a1, a2, a3, a4, o4, n14, n24, n34, hb⟩ := four w s f zero16 zero16 36 86 36 36
  go_enter Try.func51, Try.ntmps51
  go_upto_region 2 with fail
  rw [zeros_eq, ← e4, ← eb4, ← eb3, ← eb2, ← eb1]
  clear e4 eb4 eb3 eb2 eb1
  have A1 := hide a1
  have A2 := hide a2
  have A3 := hide a3
  have A4 := hide a4
  have O4 := hide o4
  have HB := hide hb
  clear a1 a2 a3 a4 o4 hb
  go_wp2
  go_loopw [6, 7, 8] (fun i _ _ wr => ∃ c : Nat, c ≤ 4 ∧ i = .int .i64 c ∧ Arr wr b4 36 (mixd (rmix s f) zero16 (4 * c)) ∧ Only (fun j => j = b4) w4 wr) (fun i _ _ _ => 4 - (intOf i).toNat)
  case atStart => exact ⟨0, Nat.zero_le _, rfl, by rw [Nat.mul_zero, mixd_zero]; exact unhide A4, Only.refl _ _⟩
  case round =>
    obtain ⟨c, hc, rfl, har, hor⟩ := hrel
    by_cases hlt : c < 4
    · have HAR := hide har
      have HOR := hide hor
      clear har hor
      have hc3 : (c : Int) < 4 := by omega
      go_wp2
      go_loopw [7, 8] (fun i _ wr => ∃ r : Nat, r ≤ 4 ∧ i = .int .i64 r ∧ Arr wr b4 36 (mixd (rmix s f) zero16 (4 * c + r)) ∧ Only (fun j => j = b4) w4 wr) (fun i _ _ => 4 - (intOf i).toNat)
      case atStart => exact ⟨0, Nat.zero_le _, rfl, unhide HAR, unhide HOR⟩
      case round =>
        obtain ⟨r, hr, rfl, har, hor⟩ := hrel
        by_cases hlr : r < 4
        · obtain ⟨n, hn⟩ : ∃ n, n = 4 * c + r := ⟨_, rfl⟩
          have hn16 : n < 16 := by omega
          rw [← hn] at har
          have hstart : mixd (rmix s f) zero16 n = (mixd (rmix s f) zero16 n).set n (rsumK s f n 0) := by
            have h1 := mixd_at (rmix s f) zero16 16 n hal rfl hn16
            rw [gt_some zero16 n hn16] at h1
            rw [gt_zero n hn16] at h1
            exact (set_self h1).symm
          rw [hstart] at har
          clear HAR HOR
          have HAR := hide har
          have HOR := hide hor
          have HN := hide hn
          clear har hor hstart hn
          have hr3 : (r : Int) < 4 := by omega
          go_wp2
          go_loopw [8] (fun j wq => ∃ k : Nat, k ≤ 4 ∧ j = .int .i64 k ∧ Arr wq b4 36 ((mixd (rmix s f) zero16 n).set n (rsumK s f n k)) ∧ Only (fun j => j = b4) w4 wq) (fun j _ => 4 - (intOf j).toNat)
          case atStart => exact ⟨0, Nat.zero_le _, rfl, unhide HAR, unhide HOR⟩
          case round =>
            obtain ⟨k, hk, rfl, hq, hoq⟩ := hrel
            by_cases hkt : k < 4
            · obtain ⟨p, hp⟩ : ∃ p, p = 4 * c := ⟨_, rfl⟩
              obtain ⟨q, hqq⟩ : ∃ q, q = p + k := ⟨_, rfl⟩
              obtain ⟨z, hz⟩ : ∃ z : Int, z = (k : Int) - (r : Int) := ⟨_, rfl⟩
              obtain ⟨e, he⟩ : ∃ e, e = k + 4 - r := ⟨_, rfl⟩
              obtain ⟨d, hd⟩ : ∃ d, d = e % 4 := ⟨_, rfl⟩
              have hnn := unhide HN
              have M1 : Hid (IntKind.i64.wrap (4 * (c : Int)) = (p : Int)) := by show _ = _; rw [wrap_small _ (by omega) (by omega)]; omega
              have M2 : Hid (IntKind.i64.wrap ((p : Int) + (r : Int)) = (n : Int)) := by show _ = _; rw [wrap_small _ (by omega) (by omega)]; omega
              have M3 : Hid (IntKind.i64.wrap ((k : Int) - (r : Int)) = z) := by show IntKind.i64.wrap ((k : Int) - (r : Int)) = z; simp only [IntKind.wrap_i64]; omega
              have M4 : Hid (IntKind.i64.wrap (z + 4) = (e : Int)) := by show _ = _; rw [wrap_small _ (by omega) (by omega)]; omega
              have M5 : Hid ((e : Int).tmod 4 = (d : Int)) := by show _ = _; rw [Int.tmod_eq_emod_of_nonneg (by omega)]; omega
              have M6 : Hid (IntKind.i64.wrap ((p : Int) + (k : Int)) = (q : Int)) := by show _ = _; rw [wrap_small _ (by omega) (by omega)]; omega
              have hq16 : q < 16 := by omega
              have hd4 : d < 4 := by omega
              have hc4 := hq.cell n (rsumK s f n k) (by rw [List.getElem?_set, if_pos rfl, if_pos (by rw [mixd_length _ _ 16 n hal rfl (by omega)]; exact hn16)])
              have hfz := hq.free n
              have hcm := ((unhide A2).only hoq n24).cell d _ (gt_some f d (by omega))
              have hcs := ((unhide A1).only hoq n14).cell q _ (gt_some s q (by omega))
              have hnext : rsumK s f n k ^^^ mul (gt f d) (gt s q) = rsumK s f n (k + 1) := by
                show _ = rsumK s f n k ^^^ mul (gt f ((k + 4 - n % 4) % 4)) (gt s (n - n % 4 + k))
                rw [show n % 4 = r by omega, ← he, ← hd, show n - r + k = q by omega]
              have hx := xor_bv (rsumK s f n k) (mul (gt f d) (gt s q))
              rw [hnext] at hx
              have hset := hq.set n (rsumK s f n (k + 1))
              rw [List.set_set] at hset
              have HW := hide hset
              have HO := hide (hoq.here n (.int .u8 ((rsumK s f n (k + 1)).toNat : Int)))
              have HT := hide (rtimes_any (gt f d) (gt s q))
              have HC4 := hide hc4
              have HCM := hide hcm
              have HCS := hide hcs
              clear hq hoq hset hnext hc4 hcm hcs hp hqq hz he hd hnn
              generalize mul (gt f d) (gt s q) = pr at *
              generalize gt s q = x at *
              generalize gt f d = y at *
              generalize hz1 : rsumK s f n (k + 1) = z1 at *
              have HZ1 := hide hz1
              clear hz1
              generalize rsumK s f n k = z0 at *
              have hk3 : (k : Int) < 4 := by omega
              have hn15 : (n : Int) < 16 := by omega
              have hd3 : (d : Int) < 4 := by omega
              have hq15 : (q : Int) < 16 := by omega
              go_wp2
              refine wp_region_last_drew (S := (fun w' => Only (fun _ => False) wr w')) 26 (by kernel_rfl) ((Only.refl _ _).drew) (fun hHeld => ?_)
              refine wpAnyL_take (i := 0) (v := ?v1) rfl (by kernel_rfl) (by kernel_rfl) (by kernel_rfl) (by kernel_rfl) (fun _ _ _ h => h) (Or.inl ⟨by rfl, ?hy1⟩) (by assumption) ?rest1
              case hy1 =>
                intro w hSw
                go_simp
                try with_reducible rfl
              try simp only [Act.put, List.setIfInBounds_toArray, List.set_cons_zero, List.set_cons_succ, List.getElem_toArray, List.getElem_cons_succ, List.getElem_cons_zero]
              refine wpAnyL_take (i := 1) (v := ?v2) rfl (by kernel_rfl) (by kernel_rfl) (by kernel_rfl) (by kernel_rfl) (fun _ _ _ h => h) (Or.inl ⟨by rfl, ?hy2⟩) (by assumption) ?rest2
              case hy2 =>
                intro w hSw
                (go_simp; rw [unhide M1]; try with_reducible rfl)
              try simp only [Act.put, List.setIfInBounds_toArray, List.set_cons_zero, List.set_cons_succ, List.getElem_toArray, List.getElem_cons_succ, List.getElem_cons_zero]
              refine wpAnyL_take (i := 2) (v := ?v3) rfl (by kernel_rfl) (by kernel_rfl) (by kernel_rfl) (by kernel_rfl) (fun _ _ _ h => h) (Or.inl ⟨by rfl, ?hy3⟩) (by assumption) ?rest3
              case hy3 =>
                intro w hSw
                go_simp
                try with_reducible rfl
              try simp only [Act.put, List.setIfInBounds_toArray, List.set_cons_zero, List.set_cons_succ, List.getElem_toArray, List.getElem_cons_succ, List.getElem_cons_zero]
              refine wpAnyL_take (i := 3) (v := ?v4) rfl (by kernel_rfl) (by kernel_rfl) (by kernel_rfl) (by kernel_rfl) (fun _ _ _ h => h) (Or.inl ⟨by rfl, ?hy4⟩) (by assumption) ?rest4
              case hy4 =>
                intro w hSw
                (go_simp; rw [unhide M2]; try with_reducible rfl)
              try simp only [Act.put, List.setIfInBounds_toArray, List.set_cons_zero, List.set_cons_succ, List.getElem_toArray, List.getElem_cons_succ, List.getElem_cons_zero]
              refine wpAnyL_take (i := 4) (v := ?v5) rfl (by kernel_rfl) (by kernel_rfl) (by kernel_rfl) (by kernel_rfl) (fun _ _ _ h => h) (Or.inl ⟨by rfl, ?hy5⟩) (by assumption) ?rest5
              case hy5 =>
                intro w hSw
                go_simp
                try with_reducible rfl
              try simp only [Act.put, List.setIfInBounds_toArray, List.set_cons_zero, List.set_cons_succ, List.getElem_toArray, List.getElem_cons_succ, List.getElem_cons_zero]
              refine wpAnyL_take (i := 5) (v := ?v6) rfl (by kernel_rfl) (by kernel_rfl) (by kernel_rfl) (by kernel_rfl) (fun _ _ _ h => h) (Or.inl ⟨by rfl, ?hy6⟩) (by assumption) ?rest6
              case hy6 =>
                intro w hSw
                (go_simp; rw [unhide M1]; try with_reducible rfl)
              try simp only [Act.put, List.setIfInBounds_toArray, List.set_cons_zero, List.set_cons_succ, List.getElem_toArray, List.getElem_cons_succ, List.getElem_cons_zero]
              refine wpAnyL_take (i := 6) (v := ?v7) rfl (by kernel_rfl) (by kernel_rfl) (by kernel_rfl) (by kernel_rfl) (fun _ _ _ h => h) (Or.inl ⟨by rfl, ?hy7⟩) (by assumption) ?rest7
              case hy7 =>
                intro w hSw
                go_simp
                try with_reducible rfl
              try simp only [Act.put, List.setIfInBounds_toArray, List.set_cons_zero, List.set_cons_succ, List.getElem_toArray, List.getElem_cons_succ, List.getElem_cons_zero]
              refine wpAnyL_take (i := 7) (v := ?v8) rfl (by kernel_rfl) (by kernel_rfl) (by kernel_rfl) (by kernel_rfl) (fun _ _ _ h => h) (Or.inl ⟨by rfl, ?hy8⟩) (by assumption) ?rest8
              case hy8 =>
                intro w hSw
                (go_simp; rw [unhide M2]; try with_reducible rfl)
              try simp only [Act.put, List.setIfInBounds_toArray, List.set_cons_zero, List.set_cons_succ, List.getElem_toArray, List.getElem_cons_succ, List.getElem_cons_zero]
              refine wpAnyL_take (i := 8) (v := ?v9) rfl (by kernel_rfl) (by kernel_rfl) (by kernel_rfl) (by kernel_rfl) (fun _ _ _ h => h) (Or.inl ⟨by rfl, ?hy9⟩) (by assumption) ?rest9
              case hy9 =>
                intro w hSw
                go_simp
                try with_reducible rfl
              try simp only [Act.put, List.setIfInBounds_toArray, List.set_cons_zero, List.set_cons_succ, List.getElem_toArray, List.getElem_cons_succ, List.getElem_cons_zero]
              refine wpAnyL_take (i := 9) (v := ?v10) rfl (by kernel_rfl) (by kernel_rfl) (by kernel_rfl) (by kernel_rfl) (fun _ _ _ h => h) (Or.inl ⟨by rfl, ?hy10⟩) (by assumption) ?rest10
              case hy10 =>
                intro w hSw
                (have q := hSw.cell (unhide HC4) (fun e => e); go_simp; try with_reducible rfl)
              try simp only [Act.put, List.setIfInBounds_toArray, List.set_cons_zero, List.set_cons_succ, List.getElem_toArray, List.getElem_cons_succ, List.getElem_cons_zero]
              refine wpAnyL_take (i := 10) (v := ?v11) rfl (by kernel_rfl) (by kernel_rfl) (by kernel_rfl) (by kernel_rfl) (fun _ _ _ h => h) (Or.inl ⟨by rfl, ?hy11⟩) (by assumption) ?rest11
              case hy11 =>
                intro w hSw
                go_simp
                try with_reducible rfl
              try simp only [Act.put, List.setIfInBounds_toArray, List.set_cons_zero, List.set_cons_succ, List.getElem_toArray, List.getElem_cons_succ, List.getElem_cons_zero]
              refine wpAnyL_take (i := 11) (v := ?v12) rfl (by kernel_rfl) (by kernel_rfl) (by kernel_rfl) (by kernel_rfl) (fun _ _ _ h => h) (Or.inl ⟨by rfl, ?hy12⟩) (by assumption) ?rest12
              case hy12 =>
                intro w hSw
                go_simp
                try with_reducible rfl
              try simp only [Act.put, List.setIfInBounds_toArray, List.set_cons_zero, List.set_cons_succ, List.getElem_toArray, List.getElem_cons_succ, List.getElem_cons_zero]
              refine wpAnyL_take (i := 12) (v := ?v13) rfl (by kernel_rfl) (by kernel_rfl) (by kernel_rfl) (by kernel_rfl) (fun _ _ _ h => h) (Or.inl ⟨by rfl, ?hy13⟩) (by assumption) ?rest13
              case hy13 =>
                intro w hSw
                (go_simp; rw [unhide M3]; try with_reducible rfl)
              try simp only [Act.put, List.setIfInBounds_toArray, List.set_cons_zero, List.set_cons_succ, List.getElem_toArray, List.getElem_cons_succ, List.getElem_cons_zero]
              refine wpAnyL_take (i := 13) (v := ?v14) rfl (by kernel_rfl) (by kernel_rfl) (by kernel_rfl) (by kernel_rfl) (fun _ _ _ h => h) (Or.inl ⟨by rfl, ?hy14⟩) (by assumption) ?rest14
              case hy14 =>
                intro w hSw
                (go_simp; rw [unhide M4]; try with_reducible rfl)
              try simp only [Act.put, List.setIfInBounds_toArray, List.set_cons_zero, List.set_cons_succ, List.getElem_toArray, List.getElem_cons_succ, List.getElem_cons_zero]
              refine wpAnyL_take (i := 14) (v := ?v15) rfl (by kernel_rfl) (by kernel_rfl) (by kernel_rfl) (by kernel_rfl) (fun _ _ _ h => h) (Or.inl ⟨by rfl, ?hy15⟩) (by assumption) ?rest15
              case hy15 =>
                intro w hSw
                (go_simp; rw [unhide M5]; try with_reducible rfl)
              try simp only [Act.put, List.setIfInBounds_toArray, List.set_cons_zero, List.set_cons_succ, List.getElem_toArray, List.getElem_cons_succ, List.getElem_cons_zero]
              refine wpAnyL_take (i := 15) (v := ?v16) rfl (by kernel_rfl) (by kernel_rfl) (by kernel_rfl) (by kernel_rfl) (fun _ _ _ h => h) (Or.inl ⟨by rfl, ?hy16⟩) (by assumption) ?rest16
              case hy16 =>
                intro w hSw
                go_simp
                try with_reducible rfl
              try simp only [Act.put, List.setIfInBounds_toArray, List.set_cons_zero, List.set_cons_succ, List.getElem_toArray, List.getElem_cons_succ, List.getElem_cons_zero]
              refine wpAnyL_take (i := 16) (v := ?v17) rfl (by kernel_rfl) (by kernel_rfl) (by kernel_rfl) (by kernel_rfl) (fun _ _ _ h => h) (Or.inl ⟨by rfl, ?hy17⟩) (by assumption) ?rest17
              case hy17 =>
                intro w hSw
                (have q := hSw.cell (unhide HCM) (fun e => e); go_simp; try with_reducible rfl)
              try simp only [Act.put, List.setIfInBounds_toArray, List.set_cons_zero, List.set_cons_succ, List.getElem_toArray, List.getElem_cons_succ, List.getElem_cons_zero]
              refine wpAnyL_take (i := 17) (v := ?v18) rfl (by kernel_rfl) (by kernel_rfl) (by kernel_rfl) (by kernel_rfl) (fun _ _ _ h => h) (Or.inl ⟨by rfl, ?hy18⟩) (by assumption) ?rest18
              case hy18 =>
                intro w hSw
                go_simp
                try with_reducible rfl
              try simp only [Act.put, List.setIfInBounds_toArray, List.set_cons_zero, List.set_cons_succ, List.getElem_toArray, List.getElem_cons_succ, List.getElem_cons_zero]
              refine wpAnyL_take (i := 18) (v := ?v19) rfl (by kernel_rfl) (by kernel_rfl) (by kernel_rfl) (by kernel_rfl) (fun _ _ _ h => h) (Or.inl ⟨by rfl, ?hy19⟩) (by assumption) ?rest19
              case hy19 =>
                intro w hSw
                (go_simp; rw [unhide M1]; try with_reducible rfl)
              try simp only [Act.put, List.setIfInBounds_toArray, List.set_cons_zero, List.set_cons_succ, List.getElem_toArray, List.getElem_cons_succ, List.getElem_cons_zero]
              refine wpAnyL_take (i := 19) (v := ?v20) rfl (by kernel_rfl) (by kernel_rfl) (by kernel_rfl) (by kernel_rfl) (fun _ _ _ h => h) (Or.inl ⟨by rfl, ?hy20⟩) (by assumption) ?rest20
              case hy20 =>
                intro w hSw
                go_simp
                try with_reducible rfl
              try simp only [Act.put, List.setIfInBounds_toArray, List.set_cons_zero, List.set_cons_succ, List.getElem_toArray, List.getElem_cons_succ, List.getElem_cons_zero]
              refine wpAnyL_take (i := 20) (v := ?v21) rfl (by kernel_rfl) (by kernel_rfl) (by kernel_rfl) (by kernel_rfl) (fun _ _ _ h => h) (Or.inl ⟨by rfl, ?hy21⟩) (by assumption) ?rest21
              case hy21 =>
                intro w hSw
                (go_simp; rw [unhide M6]; try with_reducible rfl)
              try simp only [Act.put, List.setIfInBounds_toArray, List.set_cons_zero, List.set_cons_succ, List.getElem_toArray, List.getElem_cons_succ, List.getElem_cons_zero]
              refine wpAnyL_take (i := 21) (v := ?v22) rfl (by kernel_rfl) (by kernel_rfl) (by kernel_rfl) (by kernel_rfl) (fun _ _ _ h => h) (Or.inl ⟨by rfl, ?hy22⟩) (by assumption) ?rest22
              case hy22 =>
                intro w hSw
                go_simp
                try with_reducible rfl
              try simp only [Act.put, List.setIfInBounds_toArray, List.set_cons_zero, List.set_cons_succ, List.getElem_toArray, List.getElem_cons_succ, List.getElem_cons_zero]
              refine wpAnyL_take (i := 22) (v := ?v23) rfl (by kernel_rfl) (by kernel_rfl) (by kernel_rfl) (by kernel_rfl) (fun _ _ _ h => h) (Or.inl ⟨by rfl, ?hy23⟩) (by assumption) ?rest23
              case hy23 =>
                intro w hSw
                (have q := hSw.cell (unhide HCS) (fun e => e); go_simp; try with_reducible rfl)
              try simp only [Act.put, List.setIfInBounds_toArray, List.set_cons_zero, List.set_cons_succ, List.getElem_toArray, List.getElem_cons_succ, List.getElem_cons_zero]
              refine wpAnyL_ready (rs := [23]) (by kernel_rfl) (by simp) ?_
              refine AllReadyL.cons rfl (fun K hK => ?_) AllReadyL.nil
              go_simp
              go_wp2_with fail; refine (unhide HT _).mono ?_; rintro e wx ⟨rfl, hwx⟩; rw [hwx]; clear hwx wx
              refine hK.out _ _ (((Only.refl _ wr).drew)) (fun hHeld => ?_)
              clear hK K
              try simp only [Act.put, List.setIfInBounds_toArray, List.set_cons_zero, List.set_cons_succ, List.getElem_toArray, List.getElem_cons_succ, List.getElem_cons_zero]
              refine wpAnyL_take (i := 24) (v := ?v24) rfl (by kernel_rfl) (by kernel_rfl) (by kernel_rfl) (by kernel_rfl) (fun _ _ _ h => h) (Or.inl ⟨by rfl, ?hy24⟩) (by assumption) ?rest24
              case hy24 =>
                intro w hSw
                go_simp
                try with_reducible rfl
              try simp only [Act.put, List.setIfInBounds_toArray, List.set_cons_zero, List.set_cons_succ, List.getElem_toArray, List.getElem_cons_succ, List.getElem_cons_zero]
              refine wpAnyL_take (i := 25) (v := ?v25) rfl (by kernel_rfl) (by kernel_rfl) (by kernel_rfl) (by kernel_rfl) (fun _ _ _ h => h) (Or.inl ⟨by rfl, ?hy25⟩) (by assumption) ?rest25
              case hy25 =>
                intro w hSw
                go_simp
                try with_reducible rfl
              try simp only [Act.put, List.setIfInBounds_toArray, List.set_cons_zero, List.set_cons_succ, List.getElem_toArray, List.getElem_cons_succ, List.getElem_cons_zero]
              have hc4 := unhide HC4
              refine wpAnyL_ready (rs := [26]) (by kernel_rfl) (by simp) ?_
              refine AllReadyL.last rfl (fun K hK => ?_)
              go_simp
              refine hK.out _ _ (trivial) (fun hHeld => ?_)
              clear hK K
              try simp only [Act.put, List.setIfInBounds_toArray, List.set_cons_zero, List.set_cons_succ, List.getElem_toArray, List.getElem_cons_succ, List.getElem_cons_zero]
              refine wpAnyL_done (by kernel_rfl) ?_ _
              go_wp2
              go_roundw
              case rel => exact ⟨k + 1, by omega, by go_num, by rw [unhide HZ1]; exact unhide HW, (unhide HO).drew⟩
              case measure => simp [intOf]; omega
            · obtain rfl : k = 4 := by omega
              rw [mixd_set _ _ 16 n hal rfl hn16 _ (range_at (fun i => rsumK s f i 4) 16 n hn16)] at hq
              rw [show n + 1 = 4 * c + (r + 1) by have := unhide HN; omega] at hq
              have HQ := hide hq
              have HOQ := hide hoq
              clear hq hoq
              go_wp2
              go_roundw
              case rel => exact ⟨r + 1, by omega, by go_num, unhide HQ, unhide HOQ⟩
              case measure => simp [intOf]; omega
        · obtain rfl : r = 4 := by omega
          rw [show 4 * c + 4 = 4 * (c + 1) by omega] at har
          have HQ := hide har
          have HOQ := hide hor
          clear har hor
          go_wp2
          go_roundw
          case rel => exact ⟨c + 1, by omega, by go_num, unhide HQ, unhide HOQ⟩
          case measure => simp [intOf]; omega
    · obtain rfl : c = 4 := by omega
      rw [mixd_all _ _ 16 hal rfl] at har
      have hr1 := har.range
      have ht3 := ((unhide A3).only hor n34).there 16 rfl
      have HA3 := hide ((unhide A3).only hor n34)
      have HOR := hide hor
      clear har hor
      generalize hl : rmix s f = l at *
      have HLE := hide hl
      clear hl
      go_wp2_with (first
        | (refine wpList_load_mid rfl 36 (.tmp 5) rfl b4 0 rfl (l.map bv) _ hr1 Try.under16 rfl (by rw [Try.size16]; simp [hal]) ?_)
        | (refine wpList_store_mid rfl 36 (.tmp 4) (.tmp 47) rfl b3 0 (l.map bv).toArray rfl rfl (by simpa [hal] using ht3) (by rw [Try.size16]; simp [hal]) (ag_one _) ?_))
      refine bodyPost_ret (results_cell_row rfl _ _ b3 36 _ _ _ rfl ((unhide HA3).stored _ (by rw [hal]; rfl)).out Try.under16 rfl (by rw [Try.size16]; simp [hal])) rfl ?_
      exact ⟨by rw [← unhide HLE], done13 (unhide O4) (unhide HOR) (unhide HB)⟩
end Ae
end Go.Proofs.Ytdmcnblnoiahcaa
