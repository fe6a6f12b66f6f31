/-
  locksmithlaw4's WalPlays.
-/
import Derived.Test.YtoffcbopolonoaaWalTwo
import Derived.Test.YtoffcbopolonoaaHandPick
import Derived.Test.YtoffcbopolonoaaArgSteps
import Derived.Deep.DeepCutAuto
import Derived.Deep.CutBlock
namespace Go.Proofs.Ytoffcbopolonoaa
open Go.RowKit
set_option linter.unusedSimpArgs false
set_option linter.unusedVariables false
namespace Wal

theorem Rks.oldV {w0 w : World} {F : Nat → Prop} {b : Nat} {d : Dk} (h : Rks w0 w F b d) {v : Value} {vs : List Value} (hv : HasV w0 v vs) (hne : vs ≠ []) : ∀ j, blk v = some j → ¬ F j := fun j hj hF => by
  have := h.up j hF
  have := hv.blk_lt hne j hj
  omega

set_option maxHeartbeats 8000000 in
set_option maxRecDepth 100000 in
theorem walPlays_any (n : Int) (v : Value) (m : Nat) (X : Nat → St4) (raw : Bool) (w : World) (hX : Steps4 w v m X) :
    Calls Try.prog 4 #[.int .i64 n, v, .bool raw] w fun e w' => e = .returned (.bool true) ∧ Only (fun _ => False) w w' := by
  obtain ⟨ao, cap, hv, hmc, hcm, hcells⟩ := hX.shape
  subst hv
  have HEACH := hide hX.each
  have HCELLS := hide hcells
  have hmx : (m : Int) < 9223372036854775808 := by unfold maxLen at hcm; omega
  clear hX hcells
  obtain ⟨q, hq⟩ := Int.eq_ofNat_of_zero_le (Int.emod_nonneg n (by decide : (24 : Int) ≠ 0))
  have hq2 := Int.emod_lt_of_pos n (by decide : (0 : Int) < 24)
  have HQ := hide hq
  rw [hq] at hq2
  obtain ⟨N, hN⟩ : ∃ N, N = 8 + q := ⟨_, rfl⟩
  have HN8 : Hid ((8 : Int) + q = (N : Int)) := by show (8 : Int) + q = (N : Int); omega
  have hN8 : 8 ≤ N := by omega
  have hN31 : N ≤ 31 := by omega
  clear hq hN
  go_enter Try.func4, Try.ntmps4
  go_wp2_with fail
  refine (pick_any n 24 w (by decide) (by decide)).mono ?_
  rintro e w ⟨rfl, rfl⟩
  rw [unhide HQ]
  go_wp2_with fail
  rw [unhide HN8]
  refine (dks_new N hN8 (by omega) w w (Only.refl _ _)).mono ?_
  rintro e w1 ⟨B, F, rfl, hd, hF, o1⟩
  have HOP := hide (open_new N hN8 hd)
  clear hd o1 hF
  go_wp2_with fail
  refine (unhide HOP).mono ?_
  rintro e w2 ⟨L, uo, uc, rfl, hl, hL, o2⟩
  have HL := hide hl
  clear hl o2 HOP hL
  go_wp2_with fail
  refine (known_any w2).mono ?_
  rintro e w3 ⟨rfl, o3⟩
  have HL3 := hide ((unhide HL).same o3)
  clear HL o3
  go_wp2_with fail
  refine (rks_new N hN8 (by omega) w3 w (unhide HL3).dk.only).mono ?_
  rintro e w4 ⟨R, rfl, hr, o4⟩
  have HL4 := hide ((unhide HL3).same o4)
  have hRO := ropen_any hr (by simp [Dk.new]) rfl
  rw [found_new N hN8, show (Hd.zero, 0).1 = Hd.zero from rfl, unitsOf_new] at hRO
  have HRO := hide hRO
  have HRK := hide hr
  have h34 := o4.size
  clear hr o4 hRO
  go_wp2_with fail
  refine (unhide HRO).mono ?_
  rintro e w5 ⟨⟨M, uv, s0, rfl, hou, hrl, hM⟩, o5⟩
  have HP0 : Hid (PCut w w5 B R N 0 (.pointer (some ⟨L, 0, none⟩)) (.pointer (some ⟨M, 0, none⟩))) := by
    refine ⟨F, (fun j => w3.heap.size ≤ j ∧ j < w4.heap.size), L, M, Dk.new N, lg0, s0, rfl, rfl, ⟨(unhide HL4).same o5, ?_, fun k hk hg => ?_⟩, by simp [Dk.new], by simp [Dk.new]⟩
    · have h1 := hrl
      rw [found_new N hN8] at h1
      exact h1
    · have h3 := (unhide HL3).lt
      rcases hk with hk | hk
      · have h1 := (unhide HL3).dk.lt k hk
        rcases hg with hg | hg
        · have := hg.1; omega
        · omega
      · rcases hg with hg | hg
        · have := hg.1; omega
        · omega
  obtain ⟨uo2, uc2, husl, _⟩ := hou.hasU.shape
  subst husl
  clear hou hrl o5 HRO HRK HL3 HL4
  go_wp2_with fail
  go_loopw [9, 13, 16] (fun a b i wr => ∃ k, k ≤ m ∧ k ≤ 40 ∧ i = .int .i64 k ∧ PCut w wr B R N k a b) (fun _ _ i _ => 40 - (intOf i).toNat)
  case atStart => exact ⟨0, Nat.zero_le _, by decide, rfl, unhide HP0⟩
  case round =>
    obtain ⟨k, hkm, hk40, rfl, F4, G4, L4, M4, d, l, s4, rfl, rfl, hT, hdn, hdw⟩ := hrel
    have HT := hide hT
    have HDN := hide hdn
    clear hT HP0 hdn
    by_cases hlt : k < m
    · by_cases hl40 : k < 40
      · have hli : (k : Int) < m := by omega
        have hl40i : (k : Int) < 40 := by omega
        have hww : d.works ≤ 4000 := by omega
        have hhalf : d.half ≤ 15 := by unfold Dk.half; have := unhide HDN; omega
        obtain ⟨bb, off, hao, hbw, hcs⟩ := unhide HCELLS (by omega)
        subst hao
        obtain ⟨x0, x1, x2, x3, x4⟩ := hcs k hlt
        have o04 := (unhide HT).lg.dk.only
        have y0 := o04.cell x0 (fun h => h)
        have y1 := o04.cell x1 (fun h => h)
        have y2 := o04.cell x2 (fun h => h)
        have y3 := o04.cell x3 (fun h => h)
        have y4 := o04.cell x4 (fun h => h)
        obtain ⟨s, hs⟩ : ∃ s, s = X k := ⟨_, rfl⟩
        have HST := hide (unhide HEACH k hlt)
        rw [← hs] at y0 y1 y2 y3 y4 HST
        obtain ⟨s2, s2c, hs2, hs2a⟩ := (unhide HST).sizes.shape
        obtain ⟨s3, s3c, hs3, hs3a⟩ := (unhide HST).fates.shape
        obtain ⟨sb, sbc, hsb, hsba⟩ := (unhide HST).odd.shape
        rw [List.length_map] at hs2 hs3
        have HS2 := hide hs2
        have HS3 := hide hs3
        have HSB := hide hsb
        rw [hs2] at y2
        rw [hs3] at y3
        rw [hsb] at y4
        have hnum := (unhide HST).num
        unfold I64 at hnum
        clear x0 x1 x2 x3 x4 hcs hs2 hs3 hsb hs2a hs3a hsba o04 hs
        go_wp2_with fail
        have hB5 := heap_alloc_new wr (.cells #[.int .i64 s.what, .int .i64 s.num, .slice s2 s.ss.length s2c, .slice s3 s.fs.length s3c, .slice sb s.os.length sbc] 48)
        have o5 := (Only.refl (fun _ => False) wr).alloc (.cells #[.int .i64 s.what, .int .i64 s.num, .slice s2 s.ss.length s2c, .slice s3 s.fs.length s3c, .slice sb s.os.length sbc] 48)
        generalize wr.alloc (.cells #[.int .i64 s.what, .int .i64 s.num, .slice s2 s.ss.length s2c, .slice s3 s.fs.length s3c, .slice sb s.os.length sbc] 48) = w5 at *
        have hfr := (unhide HT).fresh (Nat.le_refl wr.heap.size)
        have HBX : Hid (Box w5 F4 G4 L4 M4 wr.heap.size (.cells #[.int .i64 s.what, .int .i64 s.num, .slice s2 s.ss.length s2c, .slice s3 s.fs.length s3c, .slice sb s.os.length sbc] 48)) := ⟨hB5, hfr.1.1, hfr.1.2, hfr.2.1, hfr.2.2⟩
        have HT5 := hide ((unhide HT).same o5)
        clear hB5 o5 HT y0 y1 y2 y3 y4 hfr
        obtain ⟨hb, hhb⟩ : ∃ hb, hb = wr.heap.size := ⟨_, rfl⟩
        rw [← hhb] at HBX ⊢
        clear hhb
        refine (pick_any s.what 10 w5 (by decide) (by decide)).mono ?_
        rintro e w5 ⟨rfl, rfl⟩
        have hq1 := Int.emod_nonneg s.what (show (10 : Int) ≠ 0 by decide)
        have hq2 := Int.emod_lt_of_pos s.what (show (0 : Int) < 10 by decide)
        generalize s.what % 10 = p at *
        go_upto_block 2 with fail
        go_cut [80, 9, 13] (fun s80 a b wx => PCut w wx B R N (k + 1) a b)
        case first =>
          have hqs : p = 4 ∨ p = 5 ∨ p = 6 ∨ p = 7 ∨ p = 8 ∨ p = 9 ∨ p < 4 := by omega
          rcases hqs with hq | hq | hq | hq | hq | hq | hq
          · subst hq
            clear hq1 hq2
            obtain ⟨pq, hpq⟩ := Int.eq_ofNat_of_zero_le (Int.emod_nonneg s.num (by decide : (400 : Int) ≠ 0))
            have HPQ := hide hpq
            have hpq2 := Int.emod_lt_of_pos s.num (by decide : (0 : Int) < 400)
            rw [hpq] at hpq2
            clear hpq
            obtain ⟨c0, c1, c2, c3, c4, cf⟩ := cells_five (unhide HBX).at'
            go_wp2_with fail
            refine wp_region_held_drew (S := (fun w' => w'.cell? ⟨hb, 1, none⟩ = some (.int .i64 s.num))) (by kernel_rfl) (c1) (fun hHeld => ?_)
            refine wpAnyH_take (i := 0) (v := ?v65) rfl (by kernel_rfl) (by kernel_rfl) (by kernel_rfl) (fun _ _ _ h => h) (Or.inl ⟨by rfl, ?hy65⟩) (by assumption) ?rest65
            case hy65 =>
              intro w hSw
              go_simp
              try with_reducible rfl
            try simp only [Act.put, List.setIfInBounds_toArray, List.set_cons_zero, List.set_cons_succ, List.getElem_toArray, List.getElem_cons_succ, List.getElem_cons_zero]
            refine wpAnyH_take (i := 1) (v := ?v66) rfl (by kernel_rfl) (by kernel_rfl) (by kernel_rfl) (fun _ _ _ h => h) (Or.inl ⟨by rfl, ?hy66⟩) (by assumption) ?rest66
            case hy66 =>
              intro w hSw
              go_simp
              try with_reducible rfl
            try simp only [Act.put, List.setIfInBounds_toArray, List.set_cons_zero, List.set_cons_succ, List.getElem_toArray, List.getElem_cons_succ, List.getElem_cons_zero]
            refine wpAnyH_take (i := 3) (v := ?v67) rfl (by kernel_rfl) (by kernel_rfl) (by kernel_rfl) (fun _ _ _ h => h) (Or.inl ⟨by rfl, ?hy67⟩) (by assumption) ?rest67
            case hy67 =>
              intro w hSw
              go_simp
              try with_reducible rfl
            try simp only [Act.put, List.setIfInBounds_toArray, List.set_cons_zero, List.set_cons_succ, List.getElem_toArray, List.getElem_cons_succ, List.getElem_cons_zero]
            refine wpAnyH_take (i := 4) (v := ?v68) rfl (by kernel_rfl) (by kernel_rfl) (by kernel_rfl) (fun _ _ _ h => h) (Or.inl ⟨by rfl, ?hy68⟩) (by assumption) ?rest68
            case hy68 =>
              intro w hSw
              go_simp
              try with_reducible rfl
            try simp only [Act.put, List.setIfInBounds_toArray, List.set_cons_zero, List.set_cons_succ, List.getElem_toArray, List.getElem_cons_succ, List.getElem_cons_zero]
            refine wpAnyH_ready (rs := [2]) (by kernel_rfl) (by simp) ?_
            refine AllReadyH.cons rfl (fun K hK => ?_) AllReadyH.nil
            go_simp
            go_wp2_with fail; refine (pick_any s.num 400 _ (by decide) (by decide)).mono ?_; rintro e wx ⟨rfl, hwx⟩; subst hwx; rw [unhide HPQ]
            refine hK.out _ _ (c1) (fun hHeld => ?_)
            clear hK K
            try simp only [Act.put, List.setIfInBounds_toArray, List.set_cons_zero, List.set_cons_succ, List.getElem_toArray, List.getElem_cons_succ, List.getElem_cons_zero]
            refine wpAnyH_ready (rs := [5]) (by kernel_rfl) (by simp) ?_
            refine AllReadyH.cons rfl (fun K hK => ?_) AllReadyH.nil
            go_simp
            go_wp2_with fail; refine (handBytes_any pq s.num w5.drew (by omega) hnum.1 hnum.2).mono ?_; rintro e w7 ⟨y7, rfl, hy7⟩; have o7 : Only (fun _ => False) w5 w7 := ((Only.refl _ _).drew).trans hy7.only (fun _ _ e => e); have c1' := o7.cell c1 (fun h => h); have HO7 := hide o7; have HY7 : Hid (Has w7 y7 (rawBytes pq s.num) ∧ ∀ j, blk y7 = some j → w5.heap.size ≤ j) := ⟨Has.ofOwns hy7.own, fun j hj => (hy7.own.lt j (own_blk hy7.own j hj)).1⟩; clear hy7 o7
            refine hK.out _ _ (c1') (fun hHeld => ?_)
            clear hK K
            try simp only [Act.put, List.setIfInBounds_toArray, List.set_cons_zero, List.set_cons_succ, List.getElem_toArray, List.getElem_cons_succ, List.getElem_cons_zero]
            refine wpAnyH_take (i := 6) (v := ?v69) rfl (by kernel_rfl) (by kernel_rfl) (by kernel_rfl) (fun _ _ _ h => h) (Or.inl ⟨by rfl, ?hy69⟩) (by assumption) ?rest69
            case hy69 =>
              intro w hSw
              go_simp
              try with_reducible rfl
            try simp only [Act.put, List.setIfInBounds_toArray, List.set_cons_zero, List.set_cons_succ, List.getElem_toArray, List.getElem_cons_succ, List.getElem_cons_zero]
            refine wpAnyH_done (by kernel_rfl) ?_ _
            clear hHeld c0 c1 c2 c3 c4 cf c1'
            have hrl := rawBytes_length pq s.num
            obtain ⟨u, hu⟩ : ∃ u, u = rawBytes pq s.num := ⟨_, rfl⟩
            rw [← hu] at HY7 hrl
            have hrl2 : u.length ≤ 1000 := by omega
            clear hu hrl
            have HT7 := hide ((unhide HT5).same (unhide HO7))
            have HRS := hide (reset_any (unhide HT7).lg y7 u (unhide HY7).1 (fun _ j hj => ((unhide HT5).fresh ((unhide HY7).2 j hj)).1) (by omega) (by omega))
            have hrln := preset_len l d u
            have HRR := hide (fun (w' : World) (hr : RLogs w w' G4 R M4 d l s4) (hy : Has w' y7 u) => rreset_any hr y7 u hy (fun _ j hj => ((unhide HT5).fresh ((unhide HY7).2 j hj)).2) (by omega) (by omega))
            obtain ⟨r, hr⟩ : ∃ r, r = reset l d u := ⟨_, rfl⟩
            simp only [← hr] at HRS hrln HRR
            clear hr
            have HRL := hide hrln
            clear hrln
            obtain ⟨yo, yc, hysh, _⟩ := (unhide HY7).1.shape
            subst hysh
            go_wp2_with fail
            refine (unhide HRS).mono ?_
            rintro e w8 ⟨rfl, F8, h8⟩
            have HT8 := hide ((unhide HT7).went h8)
            have HY8 := hide ((unhide HT5).hasNew (unhide HO7) (unhide HY7).1 (unhide HY7).2 h8)
            clear h8 HRS
            go_wp2_with fail
            refine (unhide HRR w8 (unhide HT8).rg (unhide HY8)).mono ?_
            rintro e w9 ⟨rfl, G9, s9, h9⟩
            have HT9 := hide ((unhide HT8).rwent h9)
            clear h9 HRR
            go_wp2_with fail
            go_meet
            case rel => exact ⟨F8, G9, L4, M4, r.dk, r.lg, s9, rfl, rfl, unhide HT9, (unhide HRL).1.trans (unhide HDN), by have := (unhide HRL).2; omega⟩
          · subst hq
            clear hq1 hq2
            obtain ⟨pq, hpq⟩ := Int.eq_ofNat_of_zero_le (Int.emod_nonneg s.num (by decide : (400 : Int) ≠ 0))
            have HPQ := hide hpq
            have hpq2 := Int.emod_lt_of_pos s.num (by decide : (0 : Int) < 400)
            rw [hpq] at hpq2
            clear hpq
            obtain ⟨c0, c1, c2, c3, c4, cf⟩ := cells_five (unhide HBX).at'
            go_wp2_with fail
            refine wp_region_held_drew (S := (fun w' => w'.cell? ⟨hb, 1, none⟩ = some (.int .i64 s.num))) (by kernel_rfl) (c1) (fun hHeld => ?_)
            refine wpAnyH_take (i := 0) (v := ?v70) rfl (by kernel_rfl) (by kernel_rfl) (by kernel_rfl) (fun _ _ _ h => h) (Or.inl ⟨by rfl, ?hy70⟩) (by assumption) ?rest70
            case hy70 =>
              intro w hSw
              go_simp
              try with_reducible rfl
            try simp only [Act.put, List.setIfInBounds_toArray, List.set_cons_zero, List.set_cons_succ, List.getElem_toArray, List.getElem_cons_succ, List.getElem_cons_zero]
            refine wpAnyH_take (i := 1) (v := ?v71) rfl (by kernel_rfl) (by kernel_rfl) (by kernel_rfl) (fun _ _ _ h => h) (Or.inl ⟨by rfl, ?hy71⟩) (by assumption) ?rest71
            case hy71 =>
              intro w hSw
              go_simp
              try with_reducible rfl
            try simp only [Act.put, List.setIfInBounds_toArray, List.set_cons_zero, List.set_cons_succ, List.getElem_toArray, List.getElem_cons_succ, List.getElem_cons_zero]
            refine wpAnyH_take (i := 3) (v := ?v72) rfl (by kernel_rfl) (by kernel_rfl) (by kernel_rfl) (fun _ _ _ h => h) (Or.inl ⟨by rfl, ?hy72⟩) (by assumption) ?rest72
            case hy72 =>
              intro w hSw
              go_simp
              try with_reducible rfl
            try simp only [Act.put, List.setIfInBounds_toArray, List.set_cons_zero, List.set_cons_succ, List.getElem_toArray, List.getElem_cons_succ, List.getElem_cons_zero]
            refine wpAnyH_take (i := 4) (v := ?v73) rfl (by kernel_rfl) (by kernel_rfl) (by kernel_rfl) (fun _ _ _ h => h) (Or.inl ⟨by rfl, ?hy73⟩) (by assumption) ?rest73
            case hy73 =>
              intro w hSw
              go_simp
              try with_reducible rfl
            try simp only [Act.put, List.setIfInBounds_toArray, List.set_cons_zero, List.set_cons_succ, List.getElem_toArray, List.getElem_cons_succ, List.getElem_cons_zero]
            refine wpAnyH_ready (rs := [2]) (by kernel_rfl) (by simp) ?_
            refine AllReadyH.cons rfl (fun K hK => ?_) AllReadyH.nil
            go_simp
            go_wp2_with fail; refine (pick_any s.num 400 _ (by decide) (by decide)).mono ?_; rintro e wx ⟨rfl, hwx⟩; subst hwx; rw [unhide HPQ]
            refine hK.out _ _ (c1) (fun hHeld => ?_)
            clear hK K
            try simp only [Act.put, List.setIfInBounds_toArray, List.set_cons_zero, List.set_cons_succ, List.getElem_toArray, List.getElem_cons_succ, List.getElem_cons_zero]
            refine wpAnyH_ready (rs := [5]) (by kernel_rfl) (by simp) ?_
            refine AllReadyH.cons rfl (fun K hK => ?_) AllReadyH.nil
            go_simp
            go_wp2_with fail; refine (handBytes_any pq s.num w5.drew (by omega) hnum.1 hnum.2).mono ?_; rintro e w7 ⟨y7, rfl, hy7⟩; have o7 : Only (fun _ => False) w5 w7 := ((Only.refl _ _).drew).trans hy7.only (fun _ _ e => e); have c1' := o7.cell c1 (fun h => h); have HO7 := hide o7; have HY7 : Hid (Has w7 y7 (rawBytes pq s.num) ∧ ∀ j, blk y7 = some j → w5.heap.size ≤ j) := ⟨Has.ofOwns hy7.own, fun j hj => (hy7.own.lt j (own_blk hy7.own j hj)).1⟩; clear hy7 o7
            refine hK.out _ _ (c1') (fun hHeld => ?_)
            clear hK K
            try simp only [Act.put, List.setIfInBounds_toArray, List.set_cons_zero, List.set_cons_succ, List.getElem_toArray, List.getElem_cons_succ, List.getElem_cons_zero]
            refine wpAnyH_take (i := 6) (v := ?v74) rfl (by kernel_rfl) (by kernel_rfl) (by kernel_rfl) (fun _ _ _ h => h) (Or.inl ⟨by rfl, ?hy74⟩) (by assumption) ?rest74
            case hy74 =>
              intro w hSw
              go_simp
              try with_reducible rfl
            try simp only [Act.put, List.setIfInBounds_toArray, List.set_cons_zero, List.set_cons_succ, List.getElem_toArray, List.getElem_cons_succ, List.getElem_cons_zero]
            refine wpAnyH_done (by kernel_rfl) ?_ _
            clear hHeld c0 c1 c2 c3 c4 cf c1'
            have hrl := rawBytes_length pq s.num
            obtain ⟨u, hu⟩ : ∃ u, u = rawBytes pq s.num := ⟨_, rfl⟩
            rw [← hu] at HY7 hrl
            have hrl2 : u.length ≤ 1000 := by omega
            clear hu hrl
            have HT7 := hide ((unhide HT5).same (unhide HO7))
            have HRS := hide (reset_any (unhide HT7).lg y7 u (unhide HY7).1 (fun _ j hj => ((unhide HT5).fresh ((unhide HY7).2 j hj)).1) (by omega) (by omega))
            have hrln := preset_len l d u
            have HRR := hide (fun (w' : World) (hr : RLogs w w' G4 R M4 d l s4) (hy : Has w' y7 u) => rreset_any hr y7 u hy (fun _ j hj => ((unhide HT5).fresh ((unhide HY7).2 j hj)).2) (by omega) (by omega))
            obtain ⟨r, hr⟩ : ∃ r, r = reset l d u := ⟨_, rfl⟩
            simp only [← hr] at HRS hrln HRR
            clear hr
            have HRL := hide hrln
            clear hrln
            obtain ⟨yo, yc, hysh, _⟩ := (unhide HY7).1.shape
            subst hysh
            go_wp2_with fail
            refine (unhide HRS).mono ?_
            rintro e w8 ⟨rfl, F8, h8⟩
            have HT8 := hide ((unhide HT7).went h8)
            have HY8 := hide ((unhide HT5).hasNew (unhide HO7) (unhide HY7).1 (unhide HY7).2 h8)
            clear h8 HRS
            go_wp2_with fail
            refine (unhide HRR w8 (unhide HT8).rg (unhide HY8)).mono ?_
            rintro e w9 ⟨rfl, G9, s9, h9⟩
            have HT9 := hide ((unhide HT8).rwent h9)
            clear h9 HRR
            go_wp2_with fail
            go_meet
            case rel => exact ⟨F8, G9, L4, M4, r.dk, r.lg, s9, rfl, rfl, unhide HT9, (unhide HRL).1.trans (unhide HDN), by have := (unhide HRL).2; omega⟩
          · subst hq
            clear hq1 hq2
            obtain ⟨pq, hpq⟩ := Int.eq_ofNat_of_zero_le (Int.emod_nonneg s.num (by decide : (9 : Int) ≠ 0))
            have HPQ := hide hpq
            have hpq2 := Int.emod_lt_of_pos s.num (by decide : (0 : Int) < 9)
            rw [hpq] at hpq2
            clear hpq
            obtain ⟨c0, c1, c2, c3, c4, cf⟩ := cells_five (unhide HBX).at'
            go_wp2_with fail
            refine (pick_any s.num 9 w5 (by decide) (by decide)).mono ?_
            rintro e w5 ⟨rfl, rfl⟩
            rw [unhide HPQ]
            have HFU := hide (dks_fuse (unhide HT5).lg.dk pq (by omega) (by omega))
            go_wp2_with fail
            refine (unhide HFU).mono ?_
            rintro e w6 ⟨rfl, F6, h6⟩
            have hL6 := (unhide HT5).lg.went h6 rfl (by show d.works ≤ 900000; omega)
            have HT6 := hide ((unhide HT5).went hL6)
            have HB6 := hide ((unhide HBX).went hL6)
            clear h6 hL6 c0 c1 c2 c3 c4 cf HFU
            obtain ⟨c0, c1, c2, c3, c4, cf⟩ := cells_five (unhide HB6).at'
            go_wp2_with fail
            refine (pick_any s.num 9 w6 (by decide) (by decide)).mono ?_
            rintro e w6 ⟨rfl, rfl⟩
            rw [unhide HPQ]
            have HFU := hide (rks_fuse (unhide HT6).rg.rk pq (by omega) (by omega))
            go_wp2_with fail
            refine (unhide HFU).mono ?_
            rintro e w7 ⟨rfl, h7⟩
            have hL7 := (unhide HT6).rg.went h7 rfl (by show d.works ≤ 900000; omega)
            have HT7 := hide ((unhide HT6).rwent hL7)
            clear h7 hL7
            go_wp2_with fail
            go_meet
            case rel => exact ⟨F6, G4, L4, M4, d.fused pq, l, s4, rfl, rfl, unhide HT7, unhide HDN, by show d.works ≤ 100 * (k + 1); omega⟩
          · subst hq
            clear hq1 hq2
            obtain ⟨c0, c1, c2, c3, c4, cf⟩ := cells_five (unhide HBX).at'
            have HFV : Hid (HasV w (.slice s3 s.fs.length s3c) (s.fs.map (.int .i64))) := by
              have := (unhide HST).fates
              rw [unhide HS3] at this
              exact this
            have HCR := hide (dks_crash' (unhide HT5).lg.dk (by omega) _ s.fs ((unhide HFV).only (unhide HT5).lg.dk.only (fun _ _ _ h => h)) (fun hne => (unhide HT5).lg.dk.old (unhide HFV) (fun e => hne (List.map_eq_nil_iff.1 e))))
            go_wp2_with fail
            refine (unhide HCR).mono ?_
            rintro e w6 ⟨rfl, F6, h6⟩
            have hL6 := (unhide HT5).lg.went h6 (crashTo_length _ _ _ _) (by show d.works ≤ 900000; omega)
            have HT6 := hide ((unhide HT5).went hL6)
            have HB6 := hide ((unhide HBX).went hL6)
            clear h6 hL6 c0 c1 c2 c3 c4 cf HCR
            obtain ⟨c0, c1, c2, c3, c4, cf⟩ := cells_five (unhide HB6).at'
            have HCR := hide (rks_crash (unhide HT6).rg.rk (by omega) _ s.fs ((unhide HFV).only (unhide HT6).lg.dk.only (fun _ _ _ h => h)) (fun hne => Rks.oldV (unhide HT6).rg.rk (unhide HFV) (fun e => hne (List.map_eq_nil_iff.1 e))))
            go_wp2_with fail
            refine (unhide HCR).mono ?_
            rintro e w7 ⟨rfl, h7⟩
            have hL7 := (unhide HT6).rg.went h7 (crashTo_length _ _ _ _) (by show d.works ≤ 900000; omega)
            have HT7 := hide ((unhide HT6).rwent hL7)
            have HLEN : Hid ((d.crash s.fs).secs.length = N) := (crashTo_length _ _ _ _).trans (unhide HDN)
            have hcw : (d.crash s.fs).works ≤ 4000 := hww
            have HCW : Hid ((d.crash s.fs).works ≤ 100 * (k + 1)) := by show d.works ≤ 100 * (k + 1); omega
            have HOP := hide (open_any (unhide HT7).lg.dk (by omega) rfl)
            have HROP := hide (fun (w' : World) (o : Only (fun _ => False) w7 w') => ropen_any ((unhide HT7).rg.rk.same o) (by omega) rfl)
            obtain ⟨dc, hdc⟩ : ∃ dc, dc = d.crash s.fs := ⟨_, rfl⟩
            rw [← hdc] at HT7 HLEN hcw HCW HOP
            simp only [← hdc] at HROP
            clear h7 hL7 c0 c1 c2 c3 c4 cf HCR hdc HFV HB6 HT6
            have hsn : (some : Nat → Option Nat) = some := rfl
            cases hu : unitsOf dc (found dc).1 with
            | none =>
              rw [hu] at HOP
              simp only [hu] at HROP
              clear hu
              go_wp2_with fail
              refine (unhide HOP).mono ?_
              rintro e w8 ⟨rfl, o8⟩
              have HO8 := hide o8
              clear o8
              go_wp2_with fail
              refine (unhide HROP w8 (unhide HO8)).mono ?_
              rintro e w9 ⟨rfl, o9⟩
              have HO9 := hide ((unhide HT7).lg.dk.only.trans ((unhide HO8).trans o9 (fun _ _ e => e)) (fun _ _ e => e))
              clear o9
              go_wp2_with fail
              refine (units_any (.slice none 0 0) (.slice none 0 0) [] [] w9 (hasU_nil (fun _ => True) _) (hasU_nil (fun _ => True) _)).mono ?_
              rintro e w10 ⟨rfl, o10⟩
              have HO10 := hide ((unhide HO9).trans o10 (fun _ _ e => e))
              clear o10
              go_wp2
              go_ret
              exact ⟨rfl, unhide HO10⟩
            | some us =>
              rw [hu] at HOP
              simp only [hu] at HROP
              clear hu
              go_wp2_with fail
              refine (unhide HOP).mono ?_
              rintro e w8 ⟨⟨L8, v8, rfl, hu8, hl8, hL8⟩, o8⟩
              have HO8 := hide o8
              have HU8 := hide hu8
              have HL8 := hide hl8
              obtain ⟨vo8, vc8, hv8, _⟩ := hu8.hasU.shape
              subst hv8
              clear o8 hu8 hl8 HOP
              go_wp2_with fail
              refine (unhide HROP w8 (unhide HO8)).mono ?_
              rintro e w9 ⟨⟨M9, v9, s9, rfl, hu9, hl9, hM9⟩, o9⟩
              have HT9 := hide (Two.open' (unhide HT7) (unhide HO8) o9 (unhide HL8) hL8 hl9 hM9)
              have HU89 := hide ((unhide HU8).same o9).hasU
              have HU9 := hide hu9.hasU
              obtain ⟨vo9, vc9, hv9, _⟩ := hu9.hasU.shape
              subst hv9
              clear o9 hu9 hl9 HROP
              go_wp2_with fail
              refine (units_any _ _ us us w9 (unhide HU89) (unhide HU9)).mono ?_
              rintro e w10 ⟨rfl, o10⟩
              rw [decide_eq_true (rfl : us = us)]
              have HT10 := hide ((unhide HT9).same o10)
              clear o10 HT9
              go_wp2_with fail
              go_meet
              case rel => exact ⟨F6, G4, L8, M9, dc, lgOf (found dc), s9, rfl, rfl, unhide HT10, unhide HLEN, unhide HCW⟩
          · subst hq
            clear hq1 hq2
            obtain ⟨c0, c1, c2, c3, c4, cf⟩ := cells_five (unhide HBX).at'
            have HFV : Hid (HasV w (.slice s3 s.fs.length s3c) (s.fs.map (.int .i64))) := by
              have := (unhide HST).fates
              rw [unhide HS3] at this
              exact this
            have HCR := hide (dks_crash' (unhide HT5).lg.dk (by omega) _ s.fs ((unhide HFV).only (unhide HT5).lg.dk.only (fun _ _ _ h => h)) (fun hne => (unhide HT5).lg.dk.old (unhide HFV) (fun e => hne (List.map_eq_nil_iff.1 e))))
            go_wp2_with fail
            refine (unhide HCR).mono ?_
            rintro e w6 ⟨rfl, F6, h6⟩
            have hL6 := (unhide HT5).lg.went h6 (crashTo_length _ _ _ _) (by show d.works ≤ 900000; omega)
            have HT6 := hide ((unhide HT5).went hL6)
            have HB6 := hide ((unhide HBX).went hL6)
            clear h6 hL6 c0 c1 c2 c3 c4 cf HCR
            obtain ⟨c0, c1, c2, c3, c4, cf⟩ := cells_five (unhide HB6).at'
            have HCR := hide (rks_crash (unhide HT6).rg.rk (by omega) _ s.fs ((unhide HFV).only (unhide HT6).lg.dk.only (fun _ _ _ h => h)) (fun hne => Rks.oldV (unhide HT6).rg.rk (unhide HFV) (fun e => hne (List.map_eq_nil_iff.1 e))))
            go_wp2_with fail
            refine (unhide HCR).mono ?_
            rintro e w7 ⟨rfl, h7⟩
            have hL7 := (unhide HT6).rg.went h7 (crashTo_length _ _ _ _) (by show d.works ≤ 900000; omega)
            have HT7 := hide ((unhide HT6).rwent hL7)
            have HLEN : Hid ((d.crash s.fs).secs.length = N) := (crashTo_length _ _ _ _).trans (unhide HDN)
            have hcw : (d.crash s.fs).works ≤ 4000 := hww
            have HCW : Hid ((d.crash s.fs).works ≤ 100 * (k + 1)) := by show d.works ≤ 100 * (k + 1); omega
            have HOP := hide (open_any (unhide HT7).lg.dk (by omega) rfl)
            have HROP := hide (fun (w' : World) (o : Only (fun _ => False) w7 w') => ropen_any ((unhide HT7).rg.rk.same o) (by omega) rfl)
            obtain ⟨dc, hdc⟩ : ∃ dc, dc = d.crash s.fs := ⟨_, rfl⟩
            rw [← hdc] at HT7 HLEN hcw HCW HOP
            simp only [← hdc] at HROP
            clear h7 hL7 c0 c1 c2 c3 c4 cf HCR hdc HFV HB6 HT6
            have hsn : (some : Nat → Option Nat) = some := rfl
            cases hu : unitsOf dc (found dc).1 with
            | none =>
              rw [hu] at HOP
              simp only [hu] at HROP
              clear hu
              go_wp2_with fail
              refine (unhide HOP).mono ?_
              rintro e w8 ⟨rfl, o8⟩
              have HO8 := hide o8
              clear o8
              go_wp2_with fail
              refine (unhide HROP w8 (unhide HO8)).mono ?_
              rintro e w9 ⟨rfl, o9⟩
              have HO9 := hide ((unhide HT7).lg.dk.only.trans ((unhide HO8).trans o9 (fun _ _ e => e)) (fun _ _ e => e))
              clear o9
              go_wp2_with fail
              refine (units_any (.slice none 0 0) (.slice none 0 0) [] [] w9 (hasU_nil (fun _ => True) _) (hasU_nil (fun _ => True) _)).mono ?_
              rintro e w10 ⟨rfl, o10⟩
              have HO10 := hide ((unhide HO9).trans o10 (fun _ _ e => e))
              clear o10
              go_wp2
              go_ret
              exact ⟨rfl, unhide HO10⟩
            | some us =>
              rw [hu] at HOP
              simp only [hu] at HROP
              clear hu
              go_wp2_with fail
              refine (unhide HOP).mono ?_
              rintro e w8 ⟨⟨L8, v8, rfl, hu8, hl8, hL8⟩, o8⟩
              have HO8 := hide o8
              have HU8 := hide hu8
              have HL8 := hide hl8
              obtain ⟨vo8, vc8, hv8, _⟩ := hu8.hasU.shape
              subst hv8
              clear o8 hu8 hl8 HOP
              go_wp2_with fail
              refine (unhide HROP w8 (unhide HO8)).mono ?_
              rintro e w9 ⟨⟨M9, v9, s9, rfl, hu9, hl9, hM9⟩, o9⟩
              have HT9 := hide (Two.open' (unhide HT7) (unhide HO8) o9 (unhide HL8) hL8 hl9 hM9)
              have HU89 := hide ((unhide HU8).same o9).hasU
              have HU9 := hide hu9.hasU
              obtain ⟨vo9, vc9, hv9, _⟩ := hu9.hasU.shape
              subst hv9
              clear o9 hu9 hl9 HROP
              go_wp2_with fail
              refine (units_any _ _ us us w9 (unhide HU89) (unhide HU9)).mono ?_
              rintro e w10 ⟨rfl, o10⟩
              rw [decide_eq_true (rfl : us = us)]
              have HT10 := hide ((unhide HT9).same o10)
              clear o10 HT9
              go_wp2_with fail
              go_meet
              case rel => exact ⟨F6, G4, L8, M9, dc, lgOf (found dc), s9, rfl, rfl, unhide HT10, unhide HLEN, unhide HCW⟩
          · subst hq
            clear hq1 hq2
            cases raw with
            | false =>
              go_wp2_with fail
              go_meet
              case rel => exact ⟨F4, G4, L4, M4, d, l, s4, rfl, rfl, unhide HT5, unhide HDN, by omega⟩
            | true =>
              obtain ⟨c0, c1, c2, c3, c4, cf⟩ := cells_five (unhide HBX).at'
              obtain ⟨pq, hpq⟩ := Int.eq_ofNat_of_zero_le (Int.emod_nonneg s.num (show (N : Int) ≠ 0 by omega))
              have HPQ := hide hpq
              have hpq2 := Int.emod_lt_of_pos s.num (show (0 : Int) < (N : Int) by omega)
              rw [hpq] at hpq2
              clear hpq
              go_wp2_with fail
              refine (pick_any s.num N w5 (by omega) (by omega)).mono ?_
              rintro e w5 ⟨rfl, rfl⟩
              rw [unhide HPQ]
              go_wp2_with fail
              refine (handBytes_any 64 s.num w5 (by decide) hnum.1 hnum.2).mono ?_
              rintro e w7 ⟨y7, rfl, hy7⟩
              have hsh := hy7.shape
              have hrl := rawBytes_length 64 s.num
              obtain ⟨zs, hzs⟩ : ∃ zs, zs = rawBytes 64 s.num := ⟨_, rfl⟩
              rw [← hzs] at hy7 hsh hrl
              rw [hrl] at hsh
              have hown := hy7.own
              rw [hy7.shape] at hown
              have HO7 := hide hy7.only
              have HOWN := hide hown
              have HT7 := hide ((unhide HT5).same hy7.only)
              have HB7 := hide ((unhide HBX).same hy7.only)
              have HOD : Hid (Has w7 (.slice sb s.os.length sbc) s.os) := by
                have := (unhide HST).odd
                rw [unhide HSB] at this
                exact this.only (unhide HT7).lg.dk.only (fun _ _ _ h => h)
              have h57 := hy7.only.size
              subst hsh
              have HRLZ := hide hrl
              clear hzs hy7 hrl hown c0 c1 c2 c3 c4 cf
              obtain ⟨c0, c1, c2, c3, c4, cf⟩ := cells_five (unhide HB7).at'
              go_wp2_with (refine wpList_copy_part rfl (.tmp 171) (.tmp 173) 32 rfl w5.heap.size 5 Try.underlying32 Try.size5 w5.heap.size zs (by rw [unhide HRLZ]; rfl) (.slice sb s.os.length sbc) s.os rfl (unhide HOD) (unhide HOWN) ?_; intro w8 cs kk hcl own8 gr8)
              have o78 : Only (fun k => some w5.heap.size = some k) w7 w8 := (Only.refl _ _).grown gr8 (fun k hk _ => hk)
              have o58 : Only (fun _ => False) w5 w8 := (unhide HO7).trans o78 (fun i hi e => by simp only [Option.some.injEq] at e; omega)
              have HT8 := hide ((unhide HT5).same o58)
              rw [unhide HRLZ] at own8 hcl
              have hy8 : Has w8 (.slice (some ⟨w5.heap.size, 0, none⟩) 64 64) cs := Has.ofOwns own8
              have HY8 := hide hy8
              have hfr8 := (unhide HT5).fresh (Nat.le_refl w5.heap.size)
              have hbk : ∀ j, blk (.slice (some ⟨w5.heap.size, 0, none⟩) 64 64) = some j → j = w5.heap.size := fun j hj => by simp only [blk, Option.map_some, Option.some.injEq] at hj; exact hj.symm
              have HWA := hide (dks_write (unhide HT8).lg.dk (by omega) (pq : Int) _ cs hy8 (fun j hj => by rw [hbk j hj]; exact hfr8.1.1))
              clear o78 own8 gr8 hy8 c0 c1 c2 c3 c4 cf o58
              go_wp2_with fail
              refine (unhide HWA).mono ?_
              rintro e w9 ⟨rfl, F9, h9⟩
              have hww9 := Dk.write_works d (pq : Int) cs
              have hws9 := Dk.write_secs d (pq : Int) cs
              have hL9 := (unhide HT8).lg.went h9 (by rw [hws9]) (by omega)
              have HT9 := hide ((unhide HT8).went hL9)
              have HY9 := hide ((unhide HY8).only hL9.only (fun _ j hj e => by rw [hbk j hj] at e; rcases e with e | e; exact hfr8.1.1 e; exact hfr8.1.2 e))
              clear h9 hL9 HWA
              have HWB := hide (rks_write (unhide HT9).rg.rk (by omega) (pq : Int) _ cs (unhide HY9) (fun _ j hj => by rw [hbk j hj]; exact hfr8.2.1))
              go_wp2_with fail
              refine (unhide HWB).mono ?_
              rintro e w10 ⟨rfl, G10, h10⟩
              have hL10 := (unhide HT9).rg.went h10 (by rw [hws9]) (by omega)
              have HT10 := hide ((unhide HT9).rwent hL10)
              have HLN10 : Hid ((d.write (pq : Int) cs).secs.length = N) := by show (d.write (pq : Int) cs).secs.length = N; rw [hws9]; exact unhide HDN
              have HWN10 : Hid ((d.write (pq : Int) cs).works ≤ 100 * (k + 1)) := by show (d.write (pq : Int) cs).works ≤ 100 * (k + 1); omega
              clear h10 hL10 HWB hws9 hww9
              generalize d.write (pq : Int) cs = dw at *
              generalize d.writeE (pq : Int) cs = we at *
              go_wp2_with fail
              go_meet
              case rel => exact ⟨F9, G10, L4, M4, dw, l, s4, rfl, rfl, unhide HT10, unhide HLN10, unhide HWN10⟩
          · have z4 : (p == 4) = false := by simp; omega
            have z5 : (p == 5) = false := by simp; omega
            have z6 : (p == 6) = false := by simp; omega
            have z7 : (p == 7) = false := by simp; omega
            have z8 : (p == 8) = false := by simp; omega
            have z9 : (p == 9) = false := by simp; omega
            clear hq hq1 hq2
            obtain ⟨c0, c1, c2, c3, c4, cf⟩ := cells_five (unhide HBX).at'
            have HTX := hide (texts_any s w5 ((unhide HST).same (unhide HT5).lg.dk.only))
            unfold St4.cells at HTX
            rw [unhide HS2, unhide HS3, unhide HSB] at HTX
            go_wp2_with fail
            refine (unhide HTX).mono ?_
            rintro e w7 ⟨xv, rfl, hxv, o7⟩
            have hxsz := texts_sizes s
            obtain ⟨xs, hxs⟩ : ∃ xs, xs = texts s := ⟨_, rfl⟩
            rw [← hxs] at hxv hxsz
            have HXU := hide hxv.hasU
            have HT7 := hide ((unhide HT5).same o7)
            obtain ⟨xo, xc, hxsh, _⟩ := (unhide HXU).shape
            subst hxsh
            clear hxs hxv o7 HTX c0 c1 c2 c3 c4 cf
            have HRS := hide (append_any (unhide HT7).lg _ xs ((unhide HXU).mono (fun j _ hj => ((unhide HT5).fresh hj).1)) (by omega) (by omega))
            have hrln := pappend_len l d xs
            have HRR := hide (fun (w' : World) (hr : RLogs w w' G4 R M4 d l s4) (hy : HasU (fun j => ¬ G4 j ∧ j ≠ M4) w' (.slice xo xs.length xc) xs) => rappend_any hr _ xs hy (by omega) (by omega))
            obtain ⟨r, hr⟩ : ∃ r, r = append l d xs := ⟨_, rfl⟩
            simp only [← hr] at HRS hrln HRR
            clear hr
            have HRL := hide hrln
            clear hrln
            go_wp2_with fail
            refine (unhide HRS).mono ?_
            rintro e w8 ⟨rfl, F8, h8⟩
            have HT8 := hide ((unhide HT7).went h8)
            have HY8 := hide ((unhide HT5).hasUNew (unhide HXU) h8)
            clear h8 HRS
            go_wp2_with fail
            refine (unhide HRR w8 (unhide HT8).rg (unhide HY8)).mono ?_
            rintro e w9 ⟨rfl, G9, s9, h9⟩
            have HT9 := hide ((unhide HT8).rwent h9)
            clear h9 HRR
            go_wp2_with fail
            go_meet
            case rel => exact ⟨F8, G9, L4, M4, r.dk, r.lg, s9, rfl, rfl, unhide HT9, (unhide HRL).1.trans (unhide HDN), by have := (unhide HRL).2; omega⟩
        case rest =>
          obtain ⟨F6, G6, L6, M6, d6, l6, s6, rfl, rfl, hT6, hdn6, hdw6⟩ := hcut
          have HT6 := hide hT6
          obtain ⟨c0, c1, c2, c3, c4, c5, cf⟩ := hT6.rg.lg.cells
          have HDN6 := hide hdn6
          have HDW6 := hide hdw6
          clear hT6 hdn6 HT5 HBX hdw6
          go_wp2_with fail
          refine wp_region_held_drew (S := (fun w' => w'.cell? ⟨M6, 1, none⟩ = some (.int .u64 l6.hd.epoch) ∧ w'.cell? ⟨M6, 2, none⟩ = some (.int .i64 l6.hd.area) ∧ w'.cell? ⟨M6, 3, none⟩ = some (.int .i64 l6.hd.used))) (by kernel_rfl) (⟨c1, c2, c3⟩) (fun hHeld => ?_)
          refine wpAnyH_take (i := 0) (v := ?v75) rfl (by kernel_rfl) (by kernel_rfl) (by kernel_rfl) (fun _ _ _ h => h) (Or.inl ⟨by rfl, ?hy75⟩) (by assumption) ?rest75
          case hy75 =>
            intro w hSw
            go_simp
            try with_reducible rfl
          try simp only [Act.put, List.setIfInBounds_toArray, List.set_cons_zero, List.set_cons_succ, List.getElem_toArray, List.getElem_cons_succ, List.getElem_cons_zero]
          refine wpAnyH_take (i := 2) (v := ?v76) rfl (by kernel_rfl) (by kernel_rfl) (by kernel_rfl) (fun _ _ _ h => h) (Or.inl ⟨by rfl, ?hy76⟩) (by assumption) ?rest76
          case hy76 =>
            intro w hSw
            go_simp
            try with_reducible rfl
          try simp only [Act.put, List.setIfInBounds_toArray, List.set_cons_zero, List.set_cons_succ, List.getElem_toArray, List.getElem_cons_succ, List.getElem_cons_zero]
          refine wpAnyH_take (i := 3) (v := ?v77) rfl (by kernel_rfl) (by kernel_rfl) (by kernel_rfl) (fun _ _ _ h => h) (Or.inl ⟨by rfl, ?hy77⟩) (by assumption) ?rest77
          case hy77 =>
            intro w hSw
            go_simp
            try with_reducible rfl
          try simp only [Act.put, List.setIfInBounds_toArray, List.set_cons_zero, List.set_cons_succ, List.getElem_toArray, List.getElem_cons_succ, List.getElem_cons_zero]
          refine wpAnyH_take (i := 4) (v := ?v78) rfl (by kernel_rfl) (by kernel_rfl) (by kernel_rfl) (fun _ _ _ h => h) (Or.inl ⟨by rfl, ?hy78⟩) (by assumption) ?rest78
          case hy78 =>
            intro w hSw
            go_simp
            try with_reducible rfl
          try simp only [Act.put, List.setIfInBounds_toArray, List.set_cons_zero, List.set_cons_succ, List.getElem_toArray, List.getElem_cons_succ, List.getElem_cons_zero]
          refine wpAnyH_take (i := 5) (v := ?v79) rfl (by kernel_rfl) (by kernel_rfl) (by kernel_rfl) (fun _ _ _ h => h) (Or.inl ⟨by rfl, ?hy79⟩) (by assumption) ?rest79
          case hy79 =>
            intro w hSw
            (obtain ⟨q0, q1, q2⟩ := hSw; go_simp; try with_reducible rfl)
          try simp only [Act.put, List.setIfInBounds_toArray, List.set_cons_zero, List.set_cons_succ, List.getElem_toArray, List.getElem_cons_succ, List.getElem_cons_zero]
          refine wpAnyH_ready (rs := [1]) (by kernel_rfl) (by simp) ?_
          refine AllReadyH.cons rfl (fun K hK => ?_) AllReadyH.nil
          go_simp
          go_wp2_with fail; refine (head_any ((unhide HT6).lg.same ((Only.refl _ _).drew))).mono ?_; rintro e w7 ⟨rfl, o7⟩; unfold hv; have HO7 : Hid (Only (fun _ => False) wc w7) := ((Only.refl _ _).drew).trans o7 (fun _ _ e => e); have HT7 := hide ((unhide HT6).same (unhide HO7)); obtain ⟨g0, g1, g2, g3, g4, g5, gf⟩ := (unhide HT7).rg.lg.cells; clear o7
          refine hK.out _ _ (⟨g1, g2, g3⟩) (fun hHeld => ?_)
          clear hK K
          try simp only [Act.put, List.setIfInBounds_toArray, List.set_cons_zero, List.set_cons_succ, List.getElem_toArray, List.getElem_cons_succ, List.getElem_cons_zero]
          refine wpAnyH_take (i := 6) (v := ?v80) rfl (by kernel_rfl) (by kernel_rfl) (by kernel_rfl) (fun _ _ _ h => h) (Or.inl ⟨by rfl, ?hy80⟩) (by assumption) ?rest80
          case hy80 =>
            intro w hSw
            go_simp
            try with_reducible rfl
          try simp only [Act.put, List.setIfInBounds_toArray, List.set_cons_zero, List.set_cons_succ, List.getElem_toArray, List.getElem_cons_succ, List.getElem_cons_zero]
          refine wpAnyH_take (i := 7) (v := ?v81) rfl (by kernel_rfl) (by kernel_rfl) (by kernel_rfl) (fun _ _ _ h => h) (Or.inl ⟨by rfl, ?hy81⟩) (by assumption) ?rest81
          case hy81 =>
            intro w hSw
            go_simp
            try with_reducible rfl
          try simp only [Act.put, List.setIfInBounds_toArray, List.set_cons_zero, List.set_cons_succ, List.getElem_toArray, List.getElem_cons_succ, List.getElem_cons_zero]
          refine wpAnyH_take (i := 8) (v := ?v82) rfl (by kernel_rfl) (by kernel_rfl) (by kernel_rfl) (fun _ _ _ h => h) (Or.inl ⟨by rfl, ?hy82⟩) (by assumption) ?rest82
          case hy82 =>
            intro w hSw
            go_simp
            try with_reducible rfl
          try simp only [Act.put, List.setIfInBounds_toArray, List.set_cons_zero, List.set_cons_succ, List.getElem_toArray, List.getElem_cons_succ, List.getElem_cons_zero]
          refine wpAnyH_take (i := 10) (v := ?v83) rfl (by kernel_rfl) (by kernel_rfl) (by kernel_rfl) (fun _ _ _ h => h) (Or.inl ⟨by rfl, ?hy83⟩) (by assumption) ?rest83
          case hy83 =>
            intro w hSw
            go_simp
            try with_reducible rfl
          try simp only [Act.put, List.setIfInBounds_toArray, List.set_cons_zero, List.set_cons_succ, List.getElem_toArray, List.getElem_cons_succ, List.getElem_cons_zero]
          refine wpAnyH_ready (rs := [9]) (by kernel_rfl) (by simp) ?_
          refine AllReadyH.cons rfl (fun K hK => ?_) AllReadyH.nil
          go_simp
          go_wp2_with fail; refine (room_any (unhide HT7).lg).mono ?_; rintro e w8 ⟨rfl, n8, hw8⟩; have HO8 : Hid (Only (fun _ => False) w7 w8) := by { show Only (fun _ => False) w7 w8; rw [hw8]; exact Only.drews n8 }; clear hw8; have HT8 := hide ((unhide HT7).same (unhide HO8)); obtain ⟨j0, j1, j2, j3, j4, j5, jf⟩ := (unhide HT8).rg.lg.cells
          refine hK.out _ _ (⟨j1, j2, j3⟩) (fun hHeld => ?_)
          clear hK K
          try simp only [Act.put, List.setIfInBounds_toArray, List.set_cons_zero, List.set_cons_succ, List.getElem_toArray, List.getElem_cons_succ, List.getElem_cons_zero]
          refine wpAnyH_ready (rs := [11]) (by kernel_rfl) (by simp) ?_
          refine AllReadyH.cons rfl (fun K hK => ?_) AllReadyH.nil
          go_simp
          go_wp2_with fail; refine (rroom_any (unhide HT8).rg).mono ?_; rintro e w9 ⟨rfl, n9, hw9⟩; have HO9 : Hid (Only (fun _ => False) w8 w9) := by { show Only (fun _ => False) w8 w9; rw [hw9]; exact Only.drews n9 }; clear hw9; have HT9 := hide ((unhide HT8).same (unhide HO9)); obtain ⟨i0, i1, i2, i3, i4, i5, if'⟩ := (unhide HT9).rg.lg.cells
          refine hK.out _ _ (⟨i1, i2, i3⟩) (fun hHeld => ?_)
          clear hK K
          try simp only [Act.put, List.setIfInBounds_toArray, List.set_cons_zero, List.set_cons_succ, List.getElem_toArray, List.getElem_cons_succ, List.getElem_cons_zero]
          refine wpAnyH_take (i := 12) (v := ?v84) rfl (by kernel_rfl) (by kernel_rfl) (by kernel_rfl) (fun _ _ _ h => h) (Or.inl ⟨by rfl, ?hy84⟩) (by assumption) ?rest84
          case hy84 =>
            intro w hSw
            go_simp
            try with_reducible rfl
          try simp only [Act.put, List.setIfInBounds_toArray, List.set_cons_zero, List.set_cons_succ, List.getElem_toArray, List.getElem_cons_succ, List.getElem_cons_zero]
          refine wpAnyH_take (i := 13) (v := ?v85) rfl (by kernel_rfl) (by kernel_rfl) (by kernel_rfl) (fun _ _ _ h => h) (Or.inl ⟨by rfl, ?hy85⟩) (by assumption) ?rest85
          case hy85 =>
            intro w hSw
            go_simp
            try with_reducible rfl
          try simp only [Act.put, List.setIfInBounds_toArray, List.set_cons_zero, List.set_cons_succ, List.getElem_toArray, List.getElem_cons_succ, List.getElem_cons_zero]
          refine wpAnyH_take (i := 14) (v := ?v86) rfl (by kernel_rfl) (by kernel_rfl) (by kernel_rfl) (fun _ _ _ h => h) (Or.inl ⟨by rfl, ?hy86⟩) (by assumption) ?rest86
          case hy86 =>
            intro w hSw
            go_simp
            try with_reducible rfl
          try simp only [Act.put, List.setIfInBounds_toArray, List.set_cons_zero, List.set_cons_succ, List.getElem_toArray, List.getElem_cons_succ, List.getElem_cons_zero]
          refine wpAnyH_take (i := 15) (v := ?v87) rfl (by kernel_rfl) (by kernel_rfl) (by kernel_rfl) (fun _ _ _ h => h) (Or.inl ⟨by rfl, ?hy87⟩) (by assumption) ?rest87
          case hy87 =>
            intro w hSw
            go_simp
            try with_reducible rfl
          try simp only [Act.put, List.setIfInBounds_toArray, List.set_cons_zero, List.set_cons_succ, List.getElem_toArray, List.getElem_cons_succ, List.getElem_cons_zero]
          refine wpAnyH_take (i := 17) (v := ?v88) rfl (by kernel_rfl) (by kernel_rfl) (by kernel_rfl) (fun _ _ _ h => h) (Or.inl ⟨by rfl, ?hy88⟩) (by assumption) ?rest88
          case hy88 =>
            intro w hSw
            go_simp
            try with_reducible rfl
          try simp only [Act.put, List.setIfInBounds_toArray, List.set_cons_zero, List.set_cons_succ, List.getElem_toArray, List.getElem_cons_succ, List.getElem_cons_zero]
          refine wpAnyH_ready (rs := [16]) (by kernel_rfl) (by simp) ?_
          refine AllReadyH.cons rfl (fun K hK => ?_) AllReadyH.nil
          go_simp
          go_wp2_with fail; refine (dead_any (unhide HT9).lg).mono ?_; rintro e w9 ⟨rfl, hwy⟩; subst hwy
          refine hK.out _ _ (⟨i1, i2, i3⟩) (fun hHeld => ?_)
          clear hK K
          try simp only [Act.put, List.setIfInBounds_toArray, List.set_cons_zero, List.set_cons_succ, List.getElem_toArray, List.getElem_cons_succ, List.getElem_cons_zero]
          refine wpAnyH_ready (rs := [18]) (by kernel_rfl) (by simp) ?_
          refine AllReadyH.cons rfl (fun K hK => ?_) AllReadyH.nil
          go_simp
          go_wp2_with fail; refine (rdead_any (unhide HT9).rg).mono ?_; rintro e w9 ⟨rfl, hwy⟩; subst hwy
          refine hK.out _ _ (⟨i1, i2, i3⟩) (fun hHeld => ?_)
          clear hK K
          try simp only [Act.put, List.setIfInBounds_toArray, List.set_cons_zero, List.set_cons_succ, List.getElem_toArray, List.getElem_cons_succ, List.getElem_cons_zero]
          refine wpAnyH_take (i := 19) (v := ?v89) rfl (by kernel_rfl) (by kernel_rfl) (by kernel_rfl) (fun _ _ _ h => h) (Or.inl ⟨by rfl, ?hy89⟩) (by assumption) ?rest89
          case hy89 =>
            intro w hSw
            go_simp
            try with_reducible rfl
          try simp only [Act.put, List.setIfInBounds_toArray, List.set_cons_zero, List.set_cons_succ, List.getElem_toArray, List.getElem_cons_succ, List.getElem_cons_zero]
          refine wpAnyH_take (i := 20) (v := ?v90) rfl (by kernel_rfl) (by kernel_rfl) (by kernel_rfl) (fun _ _ _ h => h) (Or.inl ⟨by rfl, ?hy90⟩) (by assumption) ?rest90
          case hy90 =>
            intro w hSw
            go_simp
            try with_reducible rfl
          try simp only [Act.put, List.setIfInBounds_toArray, List.set_cons_zero, List.set_cons_succ, List.getElem_toArray, List.getElem_cons_succ, List.getElem_cons_zero]
          refine wpAnyH_take (i := 21) (v := ?v91) rfl (by kernel_rfl) (by kernel_rfl) (by kernel_rfl) (fun _ _ _ h => h) (Or.inl ⟨by rfl, ?hy91⟩) (by assumption) ?rest91
          case hy91 =>
            intro w hSw
            go_simp
            try with_reducible rfl
          try simp only [Act.put, List.setIfInBounds_toArray, List.set_cons_zero, List.set_cons_succ, List.getElem_toArray, List.getElem_cons_succ, List.getElem_cons_zero]
          refine wpAnyH_take (i := 22) (v := ?v92) rfl (by kernel_rfl) (by kernel_rfl) (by kernel_rfl) (fun _ _ _ h => h) (Or.inl ⟨by rfl, ?hy92⟩) (by assumption) ?rest92
          case hy92 =>
            intro w hSw
            go_simp
            try with_reducible rfl
          try simp only [Act.put, List.setIfInBounds_toArray, List.set_cons_zero, List.set_cons_succ, List.getElem_toArray, List.getElem_cons_succ, List.getElem_cons_zero]
          refine wpAnyH_take (i := 24) (v := ?v93) rfl (by kernel_rfl) (by kernel_rfl) (by kernel_rfl) (fun _ _ _ h => h) (Or.inl ⟨by rfl, ?hy93⟩) (by assumption) ?rest93
          case hy93 =>
            intro w hSw
            go_simp
            try with_reducible rfl
          try simp only [Act.put, List.setIfInBounds_toArray, List.set_cons_zero, List.set_cons_succ, List.getElem_toArray, List.getElem_cons_succ, List.getElem_cons_zero]
          refine wpAnyH_ready (rs := [23]) (by kernel_rfl) (by simp) ?_
          refine AllReadyH.cons rfl (fun K hK => ?_) AllReadyH.nil
          go_simp
          go_wp2_with fail; refine (half_any (unhide HT9).lg).mono ?_; rintro e w9 ⟨rfl, hwy⟩; subst hwy
          refine hK.out _ _ (⟨i1, i2, i3⟩) (fun hHeld => ?_)
          clear hK K
          try simp only [Act.put, List.setIfInBounds_toArray, List.set_cons_zero, List.set_cons_succ, List.getElem_toArray, List.getElem_cons_succ, List.getElem_cons_zero]
          refine wpAnyH_ready (rs := [25]) (by kernel_rfl) (by simp) ?_
          refine AllReadyH.cons rfl (fun K hK => ?_) AllReadyH.nil
          go_simp
          go_wp2_with fail; refine (rhalf_any (unhide HT9).rg).mono ?_; rintro e w9 ⟨rfl, hwy⟩; subst hwy
          refine hK.out _ _ (⟨i1, i2, i3⟩) (fun hHeld => ?_)
          clear hK K
          try simp only [Act.put, List.setIfInBounds_toArray, List.set_cons_zero, List.set_cons_succ, List.getElem_toArray, List.getElem_cons_succ, List.getElem_cons_zero]
          refine wpAnyH_take (i := 26) (v := ?v94) rfl (by kernel_rfl) (by kernel_rfl) (by kernel_rfl) (fun _ _ _ h => h) (Or.inl ⟨by rfl, ?hy94⟩) (by assumption) ?rest94
          case hy94 =>
            intro w hSw
            go_simp
            try with_reducible rfl
          try simp only [Act.put, List.setIfInBounds_toArray, List.set_cons_zero, List.set_cons_succ, List.getElem_toArray, List.getElem_cons_succ, List.getElem_cons_zero]
          refine wpAnyH_take (i := 27) (v := ?v95) rfl (by kernel_rfl) (by kernel_rfl) (by kernel_rfl) (fun _ _ _ h => h) (Or.inl ⟨by rfl, ?hy95⟩) (by assumption) ?rest95
          case hy95 =>
            intro w hSw
            go_simp
            try with_reducible rfl
          try simp only [Act.put, List.setIfInBounds_toArray, List.set_cons_zero, List.set_cons_succ, List.getElem_toArray, List.getElem_cons_succ, List.getElem_cons_zero]
          refine wpAnyH_done (by kernel_rfl) ?_ _
          have HPC : Hid (PCut w w9 B R N (k + 1) (.pointer (some ⟨L6, 0, none⟩)) (.pointer (some ⟨M6, 0, none⟩))) := ⟨F6, G6, L6, M6, d6, l6, s6, rfl, rfl, unhide HT9, unhide HDN6, unhide HDW6⟩
          clear hHeld c0 c1 c2 c3 c4 c5 cf g0 g1 g2 g3 g4 g5 gf j0 j1 j2 j3 j4 j5 jf i0 i1 i2 i3 i4 i5 if'
          go_wp2_with fail
          go_roundw
          case rel => exact ⟨k + 1, by omega, by omega, by go_num, unhide HPC⟩
          case measure => simp [intOf]; omega
      · obtain rfl : k = 40 := by omega
        have hn40 : ¬ (40 : Int) < 40 := by omega
        have hli : (40 : Int) < m := by omega
        have HEND := hide (unhide HT).lg.dk.only
        go_wp2
        go_ret
        exact ⟨rfl, unhide HEND⟩
    · obtain rfl : k = m := by omega
      have HEND := hide (unhide HT).lg.dk.only
      have hli : ¬ (k : Int) < k := by omega
      go_wp2
      go_ret
      exact ⟨rfl, unhide HEND⟩

end Wal
end Go.Proofs.Ytoffcbopolonoaa
