/-
  locksmithlaw4's WalRoom.
-/
import Derived.Test.YtoffcbopolonoaaWalCalm
import Derived.Test.YtoffcbopolonoaaWalTexts
namespace Go.Proofs.Ytoffcbopolonoaa
open Go.RowKit
set_option linter.unusedSimpArgs false
set_option linter.unusedVariables false
namespace Wal

/-- the loop's state -/
structure RoomAt (w0 wr : World) (F : Nat → Prop) (B L N : Nat) (d : Dk) (l : Lg) (k : Nat) : Prop where
  lg : Logs w0 wr F B L d l
  calm : Calm d
  dead : l.dead = false
  len : d.secs.length = N
  works : d.works ≤ k * 100

theorem RoomAt.same {w0 wr w' : World} {F : Nat → Prop} {B L N : Nat} {d : Dk} {l : Lg} {k : Nat} (h : RoomAt w0 wr F B L N d l k) (o : Only (fun _ => False) wr w') : RoomAt w0 w' F B L N d l k := ⟨h.lg.same o, h.calm, h.dead, h.len, h.works⟩

set_option maxHeartbeats 4000000 in
set_option maxRecDepth 100000 in
theorem walRoom_any (n : Int) (v : Value) (m : Nat) (X : Nat → St4) (w : World) (hX : Steps4 w v m X) :
    Calls Try.prog 7 #[.int .i64 n, v] w fun e w' => e = .returned (.bool true) ∧ Only (fun _ => False) w w' := by
  obtain ⟨ao, cap, hv, hmc, hcm, hcells⟩ := hX.shape
  subst hv
  have HEACH := hide hX.each
  have HCELLS := hide hcells
  have hmx : (m : Int) < 9223372036854775808 := by unfold maxLen at hcm; omega
  clear hX hcells
  obtain ⟨q, hq⟩ := Int.eq_ofNat_of_zero_le (Int.emod_nonneg n (by decide : (30 : Int) ≠ 0))
  have hq2 := Int.emod_lt_of_pos n (by decide : (0 : Int) < 30)
  have HQ := hide hq
  rw [hq] at hq2
  obtain ⟨N, hN⟩ : ∃ N, N = 8 + q := ⟨_, rfl⟩
  have HN8 : Hid ((8 : Int) + q = (N : Int)) := by show (8 : Int) + q = (N : Int); omega
  have hN8 : 8 ≤ N := by omega
  have hN37 : N ≤ 37 := by omega
  clear hq hN
  go_enter Try.func7, Try.ntmps7
  go_wp2_with fail
  refine (pick_any n 30 w (by decide) (by decide)).mono ?_
  rintro e w ⟨rfl, rfl⟩
  rw [unhide HQ]
  go_wp2_with fail
  rw [unhide HN8]
  refine (dks_new N hN8 (by omega) w w (Only.refl _ _)).mono ?_
  rintro e w1 ⟨B, F, rfl, hd, hF, o1⟩
  have HOP := hide (open_new N hN8 hd)
  clear hd o1
  go_wp2_with fail
  refine (unhide HOP).mono ?_
  rintro e w2 ⟨L, uo, uc, rfl, hl, hL, o2⟩
  have HL := hide hl
  clear hl o2 HOP
  go_wp2_with fail
  refine (known_any w2).mono ?_
  rintro e w3 ⟨rfl, o3⟩
  have HL3 : Hid (RoomAt w w3 F B L N (Dk.new N) lg0 0) := ⟨(unhide HL).same o3, Calm.new N, rfl, by simp [Dk.new], by simp [Dk.new]⟩
  clear HL o3
  go_wp2_with fail
  go_loopw [10] (fun i wr => ∃ k F d l, k ≤ m ∧ k ≤ 30 ∧ i = .int .i64 k ∧ RoomAt w wr F B L N d l k) (fun i _ => 30 - (intOf i).toNat)
  case atStart => exact ⟨0, F, _, _, Nat.zero_le _, by decide, rfl, unhide HL3⟩
  case round =>
    obtain ⟨k, F4, d, l, hkm, hk30, rfl, hra⟩ := hrel
    have HRA := hide hra
    clear hra HL3
    by_cases hlt : k < m
    · by_cases hl30 : k < 30
      · have hli : (k : Int) < m := by omega
        have hl30i : (k : Int) < 30 := by omega
        have HHD := hide (head_any (unhide HRA).lg)
        unfold hv at HHD
        go_wp2_with fail
        refine (unhide HHD).mono ?_
        rintro e w5 ⟨rfl, o5⟩
        clear HHD
        go_wp2_with fail
        have hB6 := heap_alloc_new w5 (.cells #[.int .u64 l.hd.epoch, .int .i64 l.hd.area, .int .i64 l.hd.used] 36)
        have o6 := o5.alloc (.cells #[.int .u64 l.hd.epoch, .int .i64 l.hd.area, .int .i64 l.hd.used] 36)
        have h56 : w5.heap.size < (w5.alloc (.cells #[.int .u64 l.hd.epoch, .int .i64 l.hd.area, .int .i64 l.hd.used] 36)).heap.size := by simp
        generalize w5.alloc (.cells #[.int .u64 l.hd.epoch, .int .i64 l.hd.area, .int .i64 l.hd.used] 36) = w6 at *
        have HB6 := hide hB6
        have HL6 := hide ((unhide HRA).lg.same o6)
        have h45 := o5.size
        clear hB6 o6 o5
        refine (dks_works (unhide HL6).dk).mono ?_
        rintro e w6 ⟨rfl, rfl⟩
        obtain ⟨bb, off, hao, hbw, hcs⟩ := unhide HCELLS (by omega)
        subst hao
        obtain ⟨x0, x1, x2, x3, x4⟩ := hcs k hlt
        have o06 := (unhide HL6).dk.only
        have y0 := o06.cell x0 (fun h => h)
        have y1 := o06.cell x1 (fun h => h)
        have y2 := o06.cell x2 (fun h => h)
        have y3 := o06.cell x3 (fun h => h)
        have y4 := o06.cell x4 (fun h => h)
        have HTX := hide (texts_any (X k) w6 ((unhide HEACH k hlt).same o06))
        unfold St4.cells at HTX
        have hone2 := (unhide HEACH k hlt).sizes
        have hone3 := (unhide HEACH k hlt).fates
        have hone4 := (unhide HEACH k hlt).odd
        obtain ⟨s2, s2c, hs2, _⟩ := hone2.shape
        obtain ⟨s3, s3c, hs3, _⟩ := hone3.shape
        obtain ⟨s4, s4c, hs4, _⟩ := hone4.shape
        rw [List.length_map] at hs2 hs3
        rw [hs2] at y2 HTX
        rw [hs3] at y3 HTX
        rw [hs4] at y4 HTX
        clear x0 x1 x2 x3 x4 hcs hone2 hone3 hone4 hs2 hs3 hs4
        go_wp2_with fail
        refine (unhide HTX).mono ?_
        rintro e w7 ⟨tv, rfl, htv, o7⟩
        have HL7 := hide ((unhide HL6).same o7)
        have HB7 := hide (o7.heap (unhide HB6) (fun h => h))
        have HU7 := hide ((unhide HL6).newU htv.hasU)
        have hss := texts_sizes (X k)
        obtain ⟨us, hus⟩ : ∃ us, us = texts (X k) := ⟨_, rfl⟩
        rw [← hus] at htv HU7 hss
        have hus4 : us.length ≤ 4 := by rw [hus]; exact texts_length _
        obtain ⟨to, tc, htsh, _⟩ := (unhide HU7).shape
        subst htsh
        obtain ⟨tl, htl⟩ : ∃ tl, tl = us.length := ⟨_, rfl⟩
        rw [← htl] at HU7 hus4 ⊢
        have HTL := hide htl
        have hb5 : ¬ F4 w5.heap.size := fun e => by have := (unhide HRA).lg.dk.lt _ e; omega
        have hb5L : ¬ w5.heap.size = L := by have := (unhide HRA).lg.lt; omega
        have o07 := (unhide HL7).dk.only
        have z0 := o7.cell y0 (fun h => h)
        have HDEAD := hide (unhide HRA).dead
        have hwk := (unhide HRA).works
        have hwk2 : d.works ≤ 3000 := by omega
        clear htl hus htv o7 HTX HL6 HB6 y0 y1 y2 y3 y4
        go_wp2_with fail
        go_loop [14, 15] (fun s i => ∃ j : Nat, j ≤ tl ∧ i = .int .i64 j ∧ s = .int .i64 (sizes (us.take j) : Nat)) (fun _ i => tl - (intOf i).toNat)
        case atStart => exact ⟨0, Nat.zero_le _, rfl, rfl⟩
        case round =>
          obtain ⟨j, hj, rfl, rfl⟩ := hrel
          have hsl := sizes_le us j
          by_cases hjt : j < tl
          · have hju : j < us.length := by have := unhide HTL; omega
            have hjti : (j : Int) < tl := by omega
            obtain ⟨tb, toff, x, hto, hcx, hxh, hxp⟩ := (unhide HU7).at j hju
            subst hto
            have HS1 := hide (sizes_take us j hju)
            have hs1 := size_le_sizes us j hju
            have hsg := size_ge us[j]
            have HSZ := hide (size_any x us[j] w7 hxh (by omega))
            clear hxh hxp
            generalize sizes (us.take j) = sj at *
            go_wp2_with fail
            refine (unhide HSZ).mono ?_
            rintro e w7 ⟨rfl, hw7⟩
            subst hw7
            go_wp2
            go_round
            case rel => exact ⟨j + 1, by omega, by go_num, by rw [unhide HS1]; simp⟩
            case measure => simp [intOf]; omega
          · obtain rfl : tl = j := by omega
            have htk : us.take tl = us := List.take_of_length_le (by have := unhide HTL; omega)
            rw [htk]
            clear htk hsl
            by_cases hnil : us = []
            · by_cases hp3 : (X k).what % 4 = 3
              · have hp3b : ((X k).what % 4 == 3) = true := by simp [hp3]
                have htz : tl = 0 := by rw [unhide HTL, hnil]; rfl
                subst htz
                have HC := hide (append_any (unhide HL7) _ us (unhide HU7) (by omega) (by omega))
                rw [hnil, append_none l d (unhide HDEAD)] at HC
                obtain ⟨d8, hd8⟩ : ∃ d8, d8 = d := ⟨_, rfl⟩
                obtain ⟨l8, hl8⟩ : ∃ l8, l8 = l := ⟨_, rfl⟩
                have hE8 : l8.hd.epoch = l.hd.epoch := by rw [hl8]
                have hA8 : l8.hd.area = l.hd.area := by rw [hl8]
                have hU8 : l8.hd.used = l.hd.used := by rw [hl8]
                have hW8 : d8.works = d.works := by rw [hd8]
                have HRN0 : Hid (Calm d8 ∧ l8.dead = false ∧ d8.secs.length = N ∧ d8.works ≤ (k + 1) * 100) := by rw [hd8, hl8]; exact ⟨(unhide HRA).calm, (unhide HRA).dead, (unhide HRA).len, by have := (unhide HRA).works; omega⟩
                simp only at HC
                rw [← hd8, ← hl8] at HC
                have HHN : Hid (d8.half = (N - 2) / 2) := by show d8.half = _; unfold Dk.half; rw [(unhide HRN0).2.2.1]
                have HE8 := hide hE8
                have HA8 := hide hA8
                have HU8 := hide hU8
                clear hE8 hA8 hU8 hd8 hl8 hnil hp3
                have HW8' := hide hW8
                clear hW8
                go_wp2_with fail
                refine (pick_any (X k).what 4 w7 (by decide) (by decide)).mono ?_
                rintro e w7 ⟨rfl, rfl⟩
                go_wp2_with fail
                refine (unhide HC).mono ?_
                rintro e w8 ⟨rfl, F8, hw8⟩
                have HW8 := hide hw8
                have HB8 := hide (hw8.only.heap (unhide HB7) (fun e => by rcases e with e | e; exact hb5 e; exact hb5L e))
                clear hw8 HC
                have HHD8 := hide (head_any (unhide HW8).lg)
                unfold hv at HHD8
                go_wp2_with fail
                refine (unhide HHD8).mono ?_
                rintro e w9 ⟨rfl, o9⟩
                have hB10 := heap_alloc_new w9 (.cells #[.int .u64 l8.hd.epoch, .int .i64 l8.hd.area, .int .i64 l8.hd.used] 36)
                have o10 := o9.alloc (.cells #[.int .u64 l8.hd.epoch, .int .i64 l8.hd.area, .int .i64 l8.hd.used] 36)
                have HB8' := hide (o10.heap (unhide HB8) (fun h => h))
                have hne : ¬ w5.heap.size = w9.heap.size := by have := lt_of_block (o9.heap (unhide HB8) (fun h => h)); omega
                go_wp2_with fail
                generalize w9.alloc (.cells #[.int .u64 l8.hd.epoch, .int .i64 l8.hd.area, .int .i64 l8.hd.used] 36) = w10 at *
                have HB10 := hide hB10
                have HL10 := hide ((unhide HW8).lg.same o10)
                clear hB10 o10 o9 HHD8
                obtain ⟨n0, n1, n2, nf⟩ := cells_three (unhide HB10)
                obtain ⟨p0, p1, p2, pf⟩ := cells_three (unhide HB8')
                have hus8 := (unhide HL10).fine.used
                have hqe : ((N : Int) - 2) / 2 = (d8.half : Int) := by have := unhide HHN; omega
                have hz2 : ¬ (2 : Int) = 0 := by decide
                go_quiet ((first | (go_at_call 29; exact Calls.quiet_of (room_any ((unhide HL10).drews _))) | (go_at_call 33; exact Calls.quiet_of_same (half_any ((unhide HL10).drews _)))))
                clear n0 n1 n2 nf p0 p1 p2 pf
                generalize hw11 : w10.drewN nq = w11
                have o11 : Only (fun _ => False) w10 w11 := by rw [← hw11]; exact Only.drews nq
                have HL11 := hide ((unhide HL10).same o11)
                obtain ⟨n0, n1, n2, nf⟩ := cells_three (o11.heap (unhide HB10) (fun h => h))
                obtain ⟨p0, p1, p2, pf⟩ := cells_three (o11.heap (unhide HB8') (fun h => h))
                clear hw11 o11 HL10 HB10
                have HRN : Hid (RoomAt w w11 F8 B L N d8 l8 (k + 1)) := ⟨unhide HL11, (unhide HRN0).1, (unhide HRN0).2.1, (unhide HRN0).2.2.1, (unhide HRN0).2.2.2⟩
                have hiE : (l8.hd.epoch : Int) = l.hd.epoch := by rw [unhide HE8]
                have hiA : (l8.hd.area : Int) = l.hd.area := by rw [unhide HA8]
                have hiU : (l8.hd.used : Int) = l.hd.used := by rw [unhide HU8]
                have hiW : (d8.works : Int) = d.works := by rw [unhide HW8']
                go_wp2_with fail
                refine (dks_works (unhide HL11).dk).mono ?_
                rintro e wx ⟨rfl, hwx⟩
                subst hwx
                go_wp2
                exact ⟨⟨k + 1, F8, d8, l8, by omega, by omega, by simp, unhide HRN⟩, by simp [intOf]; omega⟩
              · have hp3b : ((X k).what % 4 == 3) = false := by simp [hp3]
                have htz : tl = 0 := by rw [unhide HTL, hnil]; rfl
                subst htz
                have HC := hide (append_any (unhide HL7) _ us (unhide HU7) (by omega) (by omega))
                rw [hnil, append_none l d (unhide HDEAD)] at HC
                obtain ⟨d8, hd8⟩ : ∃ d8, d8 = d := ⟨_, rfl⟩
                obtain ⟨l8, hl8⟩ : ∃ l8, l8 = l := ⟨_, rfl⟩
                have hE8 : l8.hd.epoch = l.hd.epoch := by rw [hl8]
                have hA8 : l8.hd.area = l.hd.area := by rw [hl8]
                have hU8 : l8.hd.used = l.hd.used := by rw [hl8]
                have hW8 : d8.works = d.works := by rw [hd8]
                have HRN0 : Hid (Calm d8 ∧ l8.dead = false ∧ d8.secs.length = N ∧ d8.works ≤ (k + 1) * 100) := by rw [hd8, hl8]; exact ⟨(unhide HRA).calm, (unhide HRA).dead, (unhide HRA).len, by have := (unhide HRA).works; omega⟩
                simp only at HC
                rw [← hd8, ← hl8] at HC
                have HHN : Hid (d8.half = (N - 2) / 2) := by show d8.half = _; unfold Dk.half; rw [(unhide HRN0).2.2.1]
                have HE8 := hide hE8
                have HA8 := hide hA8
                have HU8 := hide hU8
                clear hE8 hA8 hU8 hd8 hl8 hnil hp3
                have HW8' := hide hW8
                clear hW8
                go_wp2_with fail
                refine (pick_any (X k).what 4 w7 (by decide) (by decide)).mono ?_
                rintro e w7 ⟨rfl, rfl⟩
                go_wp2_with fail
                refine (unhide HC).mono ?_
                rintro e w8 ⟨rfl, F8, hw8⟩
                have HW8 := hide hw8
                have HB8 := hide (hw8.only.heap (unhide HB7) (fun e => by rcases e with e | e; exact hb5 e; exact hb5L e))
                clear hw8 HC
                have HHD8 := hide (head_any (unhide HW8).lg)
                unfold hv at HHD8
                go_wp2_with fail
                refine (unhide HHD8).mono ?_
                rintro e w9 ⟨rfl, o9⟩
                have hB10 := heap_alloc_new w9 (.cells #[.int .u64 l8.hd.epoch, .int .i64 l8.hd.area, .int .i64 l8.hd.used] 36)
                have o10 := o9.alloc (.cells #[.int .u64 l8.hd.epoch, .int .i64 l8.hd.area, .int .i64 l8.hd.used] 36)
                have HB8' := hide (o10.heap (unhide HB8) (fun h => h))
                have hne : ¬ w5.heap.size = w9.heap.size := by have := lt_of_block (o9.heap (unhide HB8) (fun h => h)); omega
                go_wp2_with fail
                generalize w9.alloc (.cells #[.int .u64 l8.hd.epoch, .int .i64 l8.hd.area, .int .i64 l8.hd.used] 36) = w10 at *
                have HB10 := hide hB10
                have HL10 := hide ((unhide HW8).lg.same o10)
                clear hB10 o10 o9 HHD8
                obtain ⟨n0, n1, n2, nf⟩ := cells_three (unhide HB10)
                obtain ⟨p0, p1, p2, pf⟩ := cells_three (unhide HB8')
                have hus8 := (unhide HL10).fine.used
                have hqe : ((N : Int) - 2) / 2 = (d8.half : Int) := by have := unhide HHN; omega
                have hz2 : ¬ (2 : Int) = 0 := by decide
                go_quiet ((first | (go_at_call 29; exact Calls.quiet_of (room_any ((unhide HL10).drews _))) | (go_at_call 33; exact Calls.quiet_of_same (half_any ((unhide HL10).drews _)))))
                clear n0 n1 n2 nf p0 p1 p2 pf
                generalize hw11 : w10.drewN nq = w11
                have o11 : Only (fun _ => False) w10 w11 := by rw [← hw11]; exact Only.drews nq
                have HL11 := hide ((unhide HL10).same o11)
                obtain ⟨n0, n1, n2, nf⟩ := cells_three (o11.heap (unhide HB10) (fun h => h))
                obtain ⟨p0, p1, p2, pf⟩ := cells_three (o11.heap (unhide HB8') (fun h => h))
                clear hw11 o11 HL10 HB10
                have HRN : Hid (RoomAt w w11 F8 B L N d8 l8 (k + 1)) := ⟨unhide HL11, (unhide HRN0).1, (unhide HRN0).2.1, (unhide HRN0).2.2.1, (unhide HRN0).2.2.2⟩
                have hiE : (l8.hd.epoch : Int) = l.hd.epoch := by rw [unhide HE8]
                have hiA : (l8.hd.area : Int) = l.hd.area := by rw [unhide HA8]
                have hiU : (l8.hd.used : Int) = l.hd.used := by rw [unhide HU8]
                have hiW : (d8.works : Int) = d.works := by rw [unhide HW8']
                go_wp2_with fail
                refine (dks_works (unhide HL11).dk).mono ?_
                rintro e wx ⟨rfl, hwx⟩
                subst hwx
                go_wp2
                exact ⟨⟨k + 1, F8, d8, l8, by omega, by omega, by simp, unhide HRN⟩, by simp [intOf]; omega⟩
            · have htl0 : 0 < tl := by rw [unhide HTL]; exact List.length_pos_iff.2 hnil
              have htl0i : (0 : Int) < tl := by omega
              by_cases hp3 : (X k).what % 4 = 3
              · have hu0 : 0 < us.length := List.length_pos_iff.2 hnil
                obtain ⟨tb, toff, x0, hto, hcx, hx0, hx0b⟩ := (unhide HU7).at 0 hu0
                subst hto
                rw [Nat.add_zero] at hcx
                have hs1 := size_le_sizes us 0 hu0
                have hsg := size_ge us[0]
                have hp3b : ((X k).what % 4 == 3) = true := by simp [hp3]
                have HX0 := hide (And.intro hx0 hx0b)
                clear hx0 hx0b
                by_cases hfull : d.half < size us[0]
                · skip
                  have HC := hide (reset_any (unhide HL7) x0 us[0] (unhide HX0).1 (unhide HX0).2 (by omega) (by omega))
                  rw [reset_full l d us[0] (unhide HDEAD) hfull] at HC
                  obtain ⟨d8, hd8⟩ : ∃ d8, d8 = d := ⟨_, rfl⟩
                  obtain ⟨l8, hl8⟩ : ∃ l8, l8 = l := ⟨_, rfl⟩
                  have hE8 : l8.hd.epoch = l.hd.epoch := by rw [hl8]
                  have hA8 : l8.hd.area = l.hd.area := by rw [hl8]
                  have hU8 : l8.hd.used = l.hd.used := by rw [hl8]
                  have hW8 : d8.works = d.works := by rw [hd8]
                  have HRN0 : Hid (Calm d8 ∧ l8.dead = false ∧ d8.secs.length = N ∧ d8.works ≤ (k + 1) * 100) := by rw [hd8, hl8]; exact ⟨(unhide HRA).calm, (unhide HRA).dead, (unhide HRA).len, by have := (unhide HRA).works; omega⟩
                  simp only at HC
                  rw [← hd8, ← hl8] at HC
                  have HHD0 : Hid (d8.half = d.half) := by rw [hd8]; exact rfl
                  have HHN : Hid (d8.half = (N - 2) / 2) := by show d8.half = _; unfold Dk.half; rw [(unhide HRN0).2.2.1]
                  have HE8 := hide hE8
                  have HA8 := hide hA8
                  have HU8 := hide hU8
                  clear hE8 hA8 hU8 hd8 hl8 hnil hp3
                  have HW8' := hide hW8
                  clear hW8
                  go_wp2_with fail
                  refine (pick_any (X k).what 4 w7 (by decide) (by decide)).mono ?_
                  rintro e w7 ⟨rfl, rfl⟩
                  go_wp2_with fail
                  refine (size_any x0 us[0] w7 (unhide HX0).1 (by omega)).mono ?_
                  rintro e w7 ⟨rfl, rfl⟩
                  go_wp2_with fail
                  refine (unhide HC).mono ?_
                  rintro e w8 ⟨rfl, F8, hw8⟩
                  have HW8 := hide hw8
                  have HB8 := hide (hw8.only.heap (unhide HB7) (fun e => by rcases e with e | e; exact hb5 e; exact hb5L e))
                  clear hw8 HC
                  have HHD8 := hide (head_any (unhide HW8).lg)
                  unfold hv at HHD8
                  go_wp2_with fail
                  refine (unhide HHD8).mono ?_
                  rintro e w9 ⟨rfl, o9⟩
                  have hB10 := heap_alloc_new w9 (.cells #[.int .u64 l8.hd.epoch, .int .i64 l8.hd.area, .int .i64 l8.hd.used] 36)
                  have o10 := o9.alloc (.cells #[.int .u64 l8.hd.epoch, .int .i64 l8.hd.area, .int .i64 l8.hd.used] 36)
                  have HB8' := hide (o10.heap (unhide HB8) (fun h => h))
                  have hne : ¬ w5.heap.size = w9.heap.size := by have := lt_of_block (o9.heap (unhide HB8) (fun h => h)); omega
                  go_wp2_with fail
                  generalize w9.alloc (.cells #[.int .u64 l8.hd.epoch, .int .i64 l8.hd.area, .int .i64 l8.hd.used] 36) = w10 at *
                  have HB10 := hide hB10
                  have HL10 := hide ((unhide HW8).lg.same o10)
                  clear hB10 o10 o9 HHD8
                  obtain ⟨n0, n1, n2, nf⟩ := cells_three (unhide HB10)
                  obtain ⟨p0, p1, p2, pf⟩ := cells_three (unhide HB8')
                  have hus8 := (unhide HL10).fine.used
                  have hqe : ((N : Int) - 2) / 2 = (d8.half : Int) := by have := unhide HHN; omega
                  have hz2 : ¬ (2 : Int) = 0 := by decide
                  go_quiet ((first | (go_at_call 29; exact Calls.quiet_of (room_any ((unhide HL10).drews _))) | (go_at_call 33; exact Calls.quiet_of_same (half_any ((unhide HL10).drews _)))))
                  clear n0 n1 n2 nf p0 p1 p2 pf
                  generalize hw11 : w10.drewN nq = w11
                  have o11 : Only (fun _ => False) w10 w11 := by rw [← hw11]; exact Only.drews nq
                  have HL11 := hide ((unhide HL10).same o11)
                  obtain ⟨n0, n1, n2, nf⟩ := cells_three (o11.heap (unhide HB10) (fun h => h))
                  obtain ⟨p0, p1, p2, pf⟩ := cells_three (o11.heap (unhide HB8') (fun h => h))
                  clear hw11 o11 HL10 HB10
                  have HRN : Hid (RoomAt w w11 F8 B L N d8 l8 (k + 1)) := ⟨unhide HL11, (unhide HRN0).1, (unhide HRN0).2.1, (unhide HRN0).2.2.1, (unhide HRN0).2.2.2⟩
                  have hiE : (l8.hd.epoch : Int) = l.hd.epoch := by rw [unhide HE8]
                  have hiA : (l8.hd.area : Int) = l.hd.area := by rw [unhide HA8]
                  have hiU : (l8.hd.used : Int) = l.hd.used := by rw [unhide HU8]
                  have hiW : (d8.works : Int) = d.works := by rw [unhide HW8']
                  have HLE : Hid (decide (size us[0] ≤ d8.half) = false) := decide_eq_false (by have := unhide HHD0; omega)
                  go_wp2_with fail
                  go_quiet ((first | (go_at_call 38; exact Calls.quiet_of_same (dks_works ((unhide HL11).drews _).dk)) | (go_at_call 33; exact Calls.quiet_of_same (half_any ((unhide HL11).drews _)))))
                  rw [unhide HLE]
                  go_wp2
                  exact ⟨⟨k + 1, F8, d8, l8, by omega, by omega, by simp, (unhide HRN).same (Only.drews _)⟩, by simp [intOf]; omega⟩
                · skip
                  have HC := hide (reset_any (unhide HL7) x0 us[0] (unhide HX0).1 (unhide HX0).2 (by omega) (by omega))
                  have hw0 := reset_calm l d us[0] (unhide HRA).calm (unhide HRA).lg.dk.fine (unhide HRA).lg.fine (unhide HDEAD) hfull
                  obtain ⟨r, hr⟩ : ∃ r, r = reset l d us[0] := ⟨_, rfl⟩
                  rw [← hr] at HC hw0
                  obtain ⟨d8, hd8⟩ : ∃ d8, d8 = r.dk := ⟨_, rfl⟩
                  obtain ⟨l8, hl8⟩ : ∃ l8, l8 = r.lg := ⟨_, rfl⟩
                  rw [hw0.e, ← hd8, ← hl8] at HC
                  have hE8 : l8.hd.epoch = next1 l.hd.epoch := by rw [hl8, hw0.hd]
                  have hA8 : l8.hd.area = 1 - l.hd.area := by rw [hl8, hw0.hd]
                  have hU8 : l8.hd.used = size us[0] := by rw [hl8, hw0.hd]
                  have HRN0 : Hid (Calm d8 ∧ l8.dead = false ∧ d8.secs.length = N ∧ d8.works ≤ (k + 1) * 100) := by rw [hd8, hl8]; exact ⟨hw0.calm, by rw [hw0.dead]; exact unhide HDEAD, by rw [hw0.len]; exact (unhide HRA).len, by have := hw0.works; have := (unhide HRA).works; have := (unhide HRA).len; omega⟩
                  clear hw0 hr
                  have HHN : Hid (d8.half = (N - 2) / 2) := by show d8.half = _; unfold Dk.half; rw [(unhide HRN0).2.2.1]
                  have HE8 := hide hE8
                  have HA8 := hide hA8
                  have HU8 := hide hU8
                  clear hE8 hA8 hU8 hd8 hl8 hnil hp3
                  go_wp2_with fail
                  refine (pick_any (X k).what 4 w7 (by decide) (by decide)).mono ?_
                  rintro e w7 ⟨rfl, rfl⟩
                  go_wp2_with fail
                  refine (size_any x0 us[0] w7 (unhide HX0).1 (by omega)).mono ?_
                  rintro e w7 ⟨rfl, rfl⟩
                  go_wp2_with fail
                  refine (unhide HC).mono ?_
                  rintro e w8 ⟨rfl, F8, hw8⟩
                  have HW8 := hide hw8
                  have HB8 := hide (hw8.only.heap (unhide HB7) (fun e => by rcases e with e | e; exact hb5 e; exact hb5L e))
                  clear hw8 HC
                  have HHD8 := hide (head_any (unhide HW8).lg)
                  unfold hv at HHD8
                  go_wp2_with fail
                  refine (unhide HHD8).mono ?_
                  rintro e w9 ⟨rfl, o9⟩
                  have hB10 := heap_alloc_new w9 (.cells #[.int .u64 l8.hd.epoch, .int .i64 l8.hd.area, .int .i64 l8.hd.used] 36)
                  have o10 := o9.alloc (.cells #[.int .u64 l8.hd.epoch, .int .i64 l8.hd.area, .int .i64 l8.hd.used] 36)
                  have HB8' := hide (o10.heap (unhide HB8) (fun h => h))
                  have hne : ¬ w5.heap.size = w9.heap.size := by have := lt_of_block (o9.heap (unhide HB8) (fun h => h)); omega
                  go_wp2_with fail
                  generalize w9.alloc (.cells #[.int .u64 l8.hd.epoch, .int .i64 l8.hd.area, .int .i64 l8.hd.used] 36) = w10 at *
                  have HB10 := hide hB10
                  have HL10 := hide ((unhide HW8).lg.same o10)
                  clear hB10 o10 o9 HHD8
                  obtain ⟨n0, n1, n2, nf⟩ := cells_three (unhide HB10)
                  obtain ⟨p0, p1, p2, pf⟩ := cells_three (unhide HB8')
                  have hus8 := (unhide HL10).fine.used
                  have hqe : ((N : Int) - 2) / 2 = (d8.half : Int) := by have := unhide HHN; omega
                  have hz2 : ¬ (2 : Int) = 0 := by decide
                  go_quiet ((first | (go_at_call 29; exact Calls.quiet_of (room_any ((unhide HL10).drews _))) | (go_at_call 33; exact Calls.quiet_of_same (half_any ((unhide HL10).drews _)))))
                  clear n0 n1 n2 nf p0 p1 p2 pf
                  generalize hw11 : w10.drewN nq = w11
                  have o11 : Only (fun _ => False) w10 w11 := by rw [← hw11]; exact Only.drews nq
                  have HL11 := hide ((unhide HL10).same o11)
                  obtain ⟨n0, n1, n2, nf⟩ := cells_three (o11.heap (unhide HB10) (fun h => h))
                  obtain ⟨p0, p1, p2, pf⟩ := cells_three (o11.heap (unhide HB8') (fun h => h))
                  clear hw11 o11 HL10 HB10
                  have HRN : Hid (RoomAt w w11 F8 B L N d8 l8 (k + 1)) := ⟨unhide HL11, (unhide HRN0).1, (unhide HRN0).2.1, (unhide HRN0).2.2.1, (unhide HRN0).2.2.2⟩
                  have hiE : (l8.hd.epoch : Int) = IntKind.u64.wrap ((l.hd.epoch : Int) + 1) := by rw [next1_wrap, unhide HE8]
                  have hiA : (l8.hd.area : Int) = 1 - (l.hd.area : Int) := by rw [unhide HA8]; have := (unhide HRA).lg.fine.area; omega
                  have hiU : (l8.hd.used : Int) = size us[0] := by rw [unhide HU8]
                  have htn0 : ((tl : Int) == 0) = false := by simp; omega
                  go_wp2
                  exact ⟨⟨k + 1, F8, d8, l8, by omega, by omega, by simp, unhide HRN⟩, by simp [intOf]; omega⟩
              · by_cases hfull : d.half < l.hd.used + sizes us
                · have hp3b : ((X k).what % 4 == 3) = false := by simp; omega
                  have HC := hide (append_any (unhide HL7) _ us (unhide HU7) (by omega) (by omega))
                  rw [append_full l d us (unhide HDEAD) hnil hfull] at HC
                  obtain ⟨d8, hd8⟩ : ∃ d8, d8 = d := ⟨_, rfl⟩
                  obtain ⟨l8, hl8⟩ : ∃ l8, l8 = l := ⟨_, rfl⟩
                  have hE8 : l8.hd.epoch = l.hd.epoch := by rw [hl8]
                  have hA8 : l8.hd.area = l.hd.area := by rw [hl8]
                  have hU8 : l8.hd.used = l.hd.used := by rw [hl8]
                  have hW8 : d8.works = d.works := by rw [hd8]
                  have HRN0 : Hid (Calm d8 ∧ l8.dead = false ∧ d8.secs.length = N ∧ d8.works ≤ (k + 1) * 100) := by rw [hd8, hl8]; exact ⟨(unhide HRA).calm, (unhide HRA).dead, (unhide HRA).len, by have := (unhide HRA).works; omega⟩
                  simp only at HC
                  rw [← hd8, ← hl8] at HC
                  have HHD0 : Hid (d8.half = d.half) := by rw [hd8]; exact rfl
                  have HHN : Hid (d8.half = (N - 2) / 2) := by show d8.half = _; unfold Dk.half; rw [(unhide HRN0).2.2.1]
                  have HE8 := hide hE8
                  have HA8 := hide hA8
                  have HU8 := hide hU8
                  clear hE8 hA8 hU8 hd8 hl8 hnil hp3
                  have HW8' := hide hW8
                  clear hW8
                  go_wp2_with fail
                  refine (pick_any (X k).what 4 w7 (by decide) (by decide)).mono ?_
                  rintro e w7 ⟨rfl, rfl⟩
                  go_wp2_with fail
                  refine (unhide HC).mono ?_
                  rintro e w8 ⟨rfl, F8, hw8⟩
                  have HW8 := hide hw8
                  have HB8 := hide (hw8.only.heap (unhide HB7) (fun e => by rcases e with e | e; exact hb5 e; exact hb5L e))
                  clear hw8 HC
                  have HHD8 := hide (head_any (unhide HW8).lg)
                  unfold hv at HHD8
                  go_wp2_with fail
                  refine (unhide HHD8).mono ?_
                  rintro e w9 ⟨rfl, o9⟩
                  have hB10 := heap_alloc_new w9 (.cells #[.int .u64 l8.hd.epoch, .int .i64 l8.hd.area, .int .i64 l8.hd.used] 36)
                  have o10 := o9.alloc (.cells #[.int .u64 l8.hd.epoch, .int .i64 l8.hd.area, .int .i64 l8.hd.used] 36)
                  have HB8' := hide (o10.heap (unhide HB8) (fun h => h))
                  have hne : ¬ w5.heap.size = w9.heap.size := by have := lt_of_block (o9.heap (unhide HB8) (fun h => h)); omega
                  go_wp2_with fail
                  generalize w9.alloc (.cells #[.int .u64 l8.hd.epoch, .int .i64 l8.hd.area, .int .i64 l8.hd.used] 36) = w10 at *
                  have HB10 := hide hB10
                  have HL10 := hide ((unhide HW8).lg.same o10)
                  clear hB10 o10 o9 HHD8
                  obtain ⟨n0, n1, n2, nf⟩ := cells_three (unhide HB10)
                  obtain ⟨p0, p1, p2, pf⟩ := cells_three (unhide HB8')
                  have hus8 := (unhide HL10).fine.used
                  have hqe : ((N : Int) - 2) / 2 = (d8.half : Int) := by have := unhide HHN; omega
                  have hz2 : ¬ (2 : Int) = 0 := by decide
                  go_quiet ((first | (go_at_call 29; exact Calls.quiet_of (room_any ((unhide HL10).drews _))) | (go_at_call 33; exact Calls.quiet_of_same (half_any ((unhide HL10).drews _)))))
                  clear n0 n1 n2 nf p0 p1 p2 pf
                  generalize hw11 : w10.drewN nq = w11
                  have o11 : Only (fun _ => False) w10 w11 := by rw [← hw11]; exact Only.drews nq
                  have HL11 := hide ((unhide HL10).same o11)
                  obtain ⟨n0, n1, n2, nf⟩ := cells_three (o11.heap (unhide HB10) (fun h => h))
                  obtain ⟨p0, p1, p2, pf⟩ := cells_three (o11.heap (unhide HB8') (fun h => h))
                  clear hw11 o11 HL10 HB10
                  have HRN : Hid (RoomAt w w11 F8 B L N d8 l8 (k + 1)) := ⟨unhide HL11, (unhide HRN0).1, (unhide HRN0).2.1, (unhide HRN0).2.2.1, (unhide HRN0).2.2.2⟩
                  have hiE : (l8.hd.epoch : Int) = l.hd.epoch := by rw [unhide HE8]
                  have hiA : (l8.hd.area : Int) = l.hd.area := by rw [unhide HA8]
                  have hiU : (l8.hd.used : Int) = l.hd.used := by rw [unhide HU8]
                  have hiW : (d8.works : Int) = d.works := by rw [unhide HW8']
                  have hws : IntKind.i64.wrap ((d8.half : Int) - (l.hd.used : Int)) = (d8.half : Int) - (l.hd.used : Int) := by rw [IntKind.wrap_i64]; have := unhide HHN; omega
                  have HLE : Hid (decide ((sizes us : Int) ≤ (d8.half : Int) - l.hd.used) = false) := decide_eq_false (by have := unhide HHD0; omega)
                  have HOD := hide ((Only.refl (fun _ => False) w11).drew)
                  go_wp2_with fail
                  refine wp_region_held_drew (S := (fun w' => w'.cell? ⟨w9.heap.size, 0, none⟩ = some (.int .u64 l8.hd.epoch) ∧ w'.cell? ⟨w9.heap.size, 1, none⟩ = some (.int .i64 l8.hd.area) ∧ w'.cell? ⟨w9.heap.size, 2, none⟩ = some (.int .i64 l8.hd.used) ∧ w'.cell? ⟨w5.heap.size, 0, none⟩ = some (.int .u64 l.hd.epoch) ∧ w'.cell? ⟨w5.heap.size, 1, none⟩ = some (.int .i64 l.hd.area) ∧ w'.cell? ⟨w5.heap.size, 2, none⟩ = some (.int .i64 l.hd.used))) (by kernel_rfl) (⟨n0, n1, n2, p0, p1, p2⟩) (fun hHeld => ?_)
                  refine wpAnyH_take (i := 0) (v := ?v1) rfl (by kernel_rfl) (by kernel_rfl) (by kernel_rfl) (fun _ _ _ h => h) (Or.inl ⟨by rfl, ?hy1⟩) (by assumption) ?rest1
                  case hy1 =>
                    intro w hSw
                    (obtain ⟨q0, q1, q2, q3, q4, q5⟩ := hSw; go_simp; try with_reducible rfl)
                  try simp only [Act.put, List.setIfInBounds_toArray, List.set_cons_zero, List.set_cons_succ, List.getElem_toArray, List.getElem_cons_succ, List.getElem_cons_zero]
                  refine wpAnyH_take (i := 1) (v := ?v2) rfl (by kernel_rfl) (by kernel_rfl) (by kernel_rfl) (fun _ _ _ h => h) (Or.inl ⟨by rfl, ?hy2⟩) (by assumption) ?rest2
                  case hy2 =>
                    intro w hSw
                    (obtain ⟨q0, q1, q2, q3, q4, q5⟩ := hSw; go_simp; try with_reducible rfl)
                  try simp only [Act.put, List.setIfInBounds_toArray, List.set_cons_zero, List.set_cons_succ, List.getElem_toArray, List.getElem_cons_succ, List.getElem_cons_zero]
                  refine wpAnyH_take (i := 2) (v := ?v3) rfl (by kernel_rfl) (by kernel_rfl) (by kernel_rfl) (fun _ _ _ h => h) (Or.inl ⟨by rfl, ?hy3⟩) (by assumption) ?rest3
                  case hy3 =>
                    intro w hSw
                    go_simp
                    try with_reducible rfl
                  try simp only [Act.put, List.setIfInBounds_toArray, List.set_cons_zero, List.set_cons_succ, List.getElem_toArray, List.getElem_cons_succ, List.getElem_cons_zero]
                  refine wpAnyH_take (i := 3) (v := ?v4) rfl (by kernel_rfl) (by kernel_rfl) (by kernel_rfl) (fun _ _ _ h => h) (Or.inl ⟨by rfl, ?hy4⟩) (by assumption) ?rest4
                  case hy4 =>
                    intro w hSw
                    go_simp
                    try with_reducible rfl
                  try simp only [Act.put, List.setIfInBounds_toArray, List.set_cons_zero, List.set_cons_succ, List.getElem_toArray, List.getElem_cons_succ, List.getElem_cons_zero]
                  refine wpAnyH_take (i := 4) (v := ?v5) rfl (by kernel_rfl) (by kernel_rfl) (by kernel_rfl) (fun _ _ _ h => h) (Or.inl ⟨by rfl, ?hy5⟩) (by assumption) ?rest5
                  case hy5 =>
                    intro w hSw
                    go_simp
                    try with_reducible rfl
                  try simp only [Act.put, List.setIfInBounds_toArray, List.set_cons_zero, List.set_cons_succ, List.getElem_toArray, List.getElem_cons_succ, List.getElem_cons_zero]
                  refine wpAnyH_take (i := 6) (v := ?v6) rfl (by kernel_rfl) (by kernel_rfl) (by kernel_rfl) (fun _ _ _ h => h) (Or.inl ⟨by rfl, ?hy6⟩) (by assumption) ?rest6
                  case hy6 =>
                    intro w hSw
                    go_simp
                    try with_reducible rfl
                  try simp only [Act.put, List.setIfInBounds_toArray, List.set_cons_zero, List.set_cons_succ, List.getElem_toArray, List.getElem_cons_succ, List.getElem_cons_zero]
                  refine wpAnyH_ready (rs := [5]) (by kernel_rfl) (by simp) ?_
                  refine AllReadyH.cons rfl (fun K hK => ?_) AllReadyH.nil
                  go_simp
                  go_wp2_with fail; refine (dks_works ((unhide HL11).same (unhide HOD)).dk).mono ?_; rintro e wx ⟨rfl, hwx⟩; subst hwx
                  refine hK.out _ _ (⟨n0, n1, n2, p0, p1, p2⟩) (fun hHeld => ?_)
                  clear hK K
                  try simp only [Act.put, List.setIfInBounds_toArray, List.set_cons_zero, List.set_cons_succ, List.getElem_toArray, List.getElem_cons_succ, List.getElem_cons_zero]
                  refine wpAnyH_take (i := 7) (v := ?v7) rfl (by kernel_rfl) (by kernel_rfl) (by kernel_rfl) (fun _ _ _ h => h) (Or.inl ⟨by rfl, ?hy7⟩) (by assumption) ?rest7
                  case hy7 =>
                    intro w hSw
                    go_simp
                    try with_reducible rfl
                  try simp only [Act.put, List.setIfInBounds_toArray, List.set_cons_zero, List.set_cons_succ, List.getElem_toArray, List.getElem_cons_succ, List.getElem_cons_zero]
                  refine wpAnyH_take (i := 8) (v := ?v8) rfl (by kernel_rfl) (by kernel_rfl) (by kernel_rfl) (fun _ _ _ h => h) (Or.inl ⟨by rfl, ?hy8⟩) (by assumption) ?rest8
                  case hy8 =>
                    intro w hSw
                    go_simp
                    try with_reducible rfl
                  try simp only [Act.put, List.setIfInBounds_toArray, List.set_cons_zero, List.set_cons_succ, List.getElem_toArray, List.getElem_cons_succ, List.getElem_cons_zero]
                  refine wpAnyH_take (i := 9) (v := ?v9) rfl (by kernel_rfl) (by kernel_rfl) (by kernel_rfl) (fun _ _ _ h => h) (Or.inl ⟨by rfl, ?hy9⟩) (by assumption) ?rest9
                  case hy9 =>
                    intro w hSw
                    go_simp
                    try with_reducible rfl
                  try simp only [Act.put, List.setIfInBounds_toArray, List.set_cons_zero, List.set_cons_succ, List.getElem_toArray, List.getElem_cons_succ, List.getElem_cons_zero]
                  refine wpAnyH_take (i := 10) (v := ?v10) rfl (by kernel_rfl) (by kernel_rfl) (by kernel_rfl) (fun _ _ _ h => h) (Or.inl ⟨by rfl, ?hy10⟩) (by assumption) ?rest10
                  case hy10 =>
                    intro w hSw
                    go_simp
                    try with_reducible rfl
                  try simp only [Act.put, List.setIfInBounds_toArray, List.set_cons_zero, List.set_cons_succ, List.getElem_toArray, List.getElem_cons_succ, List.getElem_cons_zero]
                  refine wpAnyH_take (i := 11) (v := ?v11) rfl (by kernel_rfl) (by kernel_rfl) (by kernel_rfl) (fun _ _ _ h => h) (Or.inl ⟨by rfl, ?hy11⟩) (by assumption) ?rest11
                  case hy11 =>
                    intro w hSw
                    go_simp
                    try with_reducible rfl
                  try simp only [Act.put, List.setIfInBounds_toArray, List.set_cons_zero, List.set_cons_succ, List.getElem_toArray, List.getElem_cons_succ, List.getElem_cons_zero]
                  refine wpAnyH_take (i := 12) (v := ?v12) rfl (by kernel_rfl) (by kernel_rfl) (by kernel_rfl) (fun _ _ _ h => h) (Or.inl ⟨by rfl, ?hy12⟩) (by assumption) ?rest12
                  case hy12 =>
                    intro w hSw
                    go_simp
                    try with_reducible rfl
                  try simp only [Act.put, List.setIfInBounds_toArray, List.set_cons_zero, List.set_cons_succ, List.getElem_toArray, List.getElem_cons_succ, List.getElem_cons_zero]
                  refine wpAnyH_take (i := 13) (v := ?v13) rfl (by kernel_rfl) (by kernel_rfl) (by kernel_rfl) (fun _ _ _ h => h) (Or.inl ⟨by rfl, ?hy13⟩) (by assumption) ?rest13
                  case hy13 =>
                    intro w hSw
                    go_simp
                    try with_reducible rfl
                  try simp only [Act.put, List.setIfInBounds_toArray, List.set_cons_zero, List.set_cons_succ, List.getElem_toArray, List.getElem_cons_succ, List.getElem_cons_zero]
                  refine wpAnyH_take (i := 14) (v := ?v14) rfl (by kernel_rfl) (by kernel_rfl) (by kernel_rfl) (fun _ _ _ h => h) (Or.inl ⟨by rfl, ?hy14⟩) (by assumption) ?rest14
                  case hy14 =>
                    intro w hSw
                    go_simp
                    try with_reducible rfl
                  try simp only [Act.put, List.setIfInBounds_toArray, List.set_cons_zero, List.set_cons_succ, List.getElem_toArray, List.getElem_cons_succ, List.getElem_cons_zero]
                  refine wpAnyH_take (i := 16) (v := ?v15) rfl (by kernel_rfl) (by kernel_rfl) (by kernel_rfl) (fun _ _ _ h => h) (Or.inl ⟨by rfl, ?hy15⟩) (by assumption) ?rest15
                  case hy15 =>
                    intro w hSw
                    go_simp
                    try with_reducible rfl
                  try simp only [Act.put, List.setIfInBounds_toArray, List.set_cons_zero, List.set_cons_succ, List.getElem_toArray, List.getElem_cons_succ, List.getElem_cons_zero]
                  refine wpAnyH_take (i := 17) (v := ?v16) rfl (by kernel_rfl) (by kernel_rfl) (by kernel_rfl) (fun _ _ _ h => h) (Or.inl ⟨by rfl, ?hy16⟩) (by assumption) ?rest16
                  case hy16 =>
                    intro w hSw
                    (obtain ⟨q0, q1, q2, q3, q4, q5⟩ := hSw; go_simp; try with_reducible rfl)
                  try simp only [Act.put, List.setIfInBounds_toArray, List.set_cons_zero, List.set_cons_succ, List.getElem_toArray, List.getElem_cons_succ, List.getElem_cons_zero]
                  refine wpAnyH_ready (rs := [15]) (by kernel_rfl) (by simp) ?_
                  refine AllReadyH.cons rfl (fun K hK => ?_) AllReadyH.nil
                  go_simp
                  go_wp2_with fail; refine (half_any ((unhide HL11).same (unhide HOD))).mono ?_; rintro e wx ⟨rfl, hwx⟩; subst hwx
                  refine hK.out _ _ (⟨n0, n1, n2, p0, p1, p2⟩) (fun hHeld => ?_)
                  clear hK K
                  try simp only [Act.put, List.setIfInBounds_toArray, List.set_cons_zero, List.set_cons_succ, List.getElem_toArray, List.getElem_cons_succ, List.getElem_cons_zero]
                  refine wpAnyH_take (i := 18) (v := ?v17) rfl (by kernel_rfl) (by kernel_rfl) (by kernel_rfl) (fun _ _ _ h => h) (Or.inl ⟨by rfl, ?hy17⟩) (by assumption) ?rest17
                  case hy17 =>
                    intro w hSw
                    go_simp
                    try with_reducible rfl
                  try simp only [Act.put, List.setIfInBounds_toArray, List.set_cons_zero, List.set_cons_succ, List.getElem_toArray, List.getElem_cons_succ, List.getElem_cons_zero]
                  refine wpAnyH_take (i := 19) (v := ?v18) rfl (by kernel_rfl) (by kernel_rfl) (by kernel_rfl) (fun _ _ _ h => h) (Or.inl ⟨by rfl, ?hy18⟩) (by assumption) ?rest18
                  case hy18 =>
                    intro w hSw
                    (go_simp; rw [unhide HLE])
                  try simp only [Act.put, List.setIfInBounds_toArray, List.set_cons_zero, List.set_cons_succ, List.getElem_toArray, List.getElem_cons_succ, List.getElem_cons_zero]
                  refine wpAnyH_take (i := 20) (v := ?v19) rfl (by kernel_rfl) (by kernel_rfl) (by kernel_rfl) (fun _ _ _ h => h) (Or.inl ⟨by rfl, ?hy19⟩) (by assumption) ?rest19
                  case hy19 =>
                    intro w hSw
                    go_simp
                    try with_reducible rfl
                  try simp only [Act.put, List.setIfInBounds_toArray, List.set_cons_zero, List.set_cons_succ, List.getElem_toArray, List.getElem_cons_succ, List.getElem_cons_zero]
                  refine wpAnyH_take (i := 21) (v := ?v20) rfl (by kernel_rfl) (by kernel_rfl) (by kernel_rfl) (fun _ _ _ h => h) (Or.inl ⟨by rfl, ?hy20⟩) (by assumption) ?rest20
                  case hy20 =>
                    intro w hSw
                    go_simp
                    try with_reducible rfl
                  try simp only [Act.put, List.setIfInBounds_toArray, List.set_cons_zero, List.set_cons_succ, List.getElem_toArray, List.getElem_cons_succ, List.getElem_cons_zero]
                  refine wpAnyH_take (i := 22) (v := ?v21) rfl (by kernel_rfl) (by kernel_rfl) (by kernel_rfl) (fun _ _ _ h => h) (Or.inl ⟨by rfl, ?hy21⟩) (by assumption) ?rest21
                  case hy21 =>
                    intro w hSw
                    go_simp
                    try with_reducible rfl
                  try simp only [Act.put, List.setIfInBounds_toArray, List.set_cons_zero, List.set_cons_succ, List.getElem_toArray, List.getElem_cons_succ, List.getElem_cons_zero]
                  refine wpAnyH_take (i := 23) (v := ?v22) rfl (by kernel_rfl) (by kernel_rfl) (by kernel_rfl) (fun _ _ _ h => h) (Or.inl ⟨by rfl, ?hy22⟩) (by assumption) ?rest22
                  case hy22 =>
                    intro w hSw
                    go_simp
                    try with_reducible rfl
                  try simp only [Act.put, List.setIfInBounds_toArray, List.set_cons_zero, List.set_cons_succ, List.getElem_toArray, List.getElem_cons_succ, List.getElem_cons_zero]
                  refine wpAnyH_take (i := 24) (v := ?v23) rfl (by kernel_rfl) (by kernel_rfl) (by kernel_rfl) (fun _ _ _ h => h) (Or.inl ⟨by rfl, ?hy23⟩) (by assumption) ?rest23
                  case hy23 =>
                    intro w hSw
                    go_simp
                    try with_reducible rfl
                  try simp only [Act.put, List.setIfInBounds_toArray, List.set_cons_zero, List.set_cons_succ, List.getElem_toArray, List.getElem_cons_succ, List.getElem_cons_zero]
                  refine wpAnyH_take (i := 25) (v := undef) rfl (by kernel_rfl) (by kernel_rfl) (by kernel_rfl) (fun _ _ _ h => h) (Or.inr ⟨by rfl, rfl⟩) (by assumption) ?_
                  try simp only [Act.put, List.setIfInBounds_toArray, List.set_cons_zero, List.set_cons_succ, List.getElem_toArray, List.getElem_cons_succ, List.getElem_cons_zero]
                  refine wpAnyH_take (i := 26) (v := undef) rfl (by kernel_rfl) (by kernel_rfl) (by kernel_rfl) (fun _ _ _ h => h) (Or.inr ⟨by rfl, rfl⟩) (by assumption) ?_
                  try simp only [Act.put, List.setIfInBounds_toArray, List.set_cons_zero, List.set_cons_succ, List.getElem_toArray, List.getElem_cons_succ, List.getElem_cons_zero]
                  refine wpAnyH_take (i := 27) (v := undef) rfl (by kernel_rfl) (by kernel_rfl) (by kernel_rfl) (fun _ _ _ h => h) (Or.inr ⟨by rfl, rfl⟩) (by assumption) ?_
                  try simp only [Act.put, List.setIfInBounds_toArray, List.set_cons_zero, List.set_cons_succ, List.getElem_toArray, List.getElem_cons_succ, List.getElem_cons_zero]
                  refine wpAnyH_take (i := 28) (v := undef) rfl (by kernel_rfl) (by kernel_rfl) (by kernel_rfl) (fun _ _ _ h => h) (Or.inr ⟨by rfl, rfl⟩) (by assumption) ?_
                  try simp only [Act.put, List.setIfInBounds_toArray, List.set_cons_zero, List.set_cons_succ, List.getElem_toArray, List.getElem_cons_succ, List.getElem_cons_zero]
                  refine wpAnyH_take (i := 29) (v := ?v24) rfl (by kernel_rfl) (by kernel_rfl) (by kernel_rfl) (fun _ _ _ h => h) (Or.inl ⟨by rfl, ?hy24⟩) (by assumption) ?rest24
                  case hy24 =>
                    intro w hSw
                    go_simp
                    try with_reducible rfl
                  try simp only [Act.put, List.setIfInBounds_toArray, List.set_cons_zero, List.set_cons_succ, List.getElem_toArray, List.getElem_cons_succ, List.getElem_cons_zero]
                  refine wpAnyH_take (i := 30) (v := ?v25) rfl (by kernel_rfl) (by kernel_rfl) (by kernel_rfl) (fun _ _ _ h => h) (Or.inl ⟨by rfl, ?hy25⟩) (by assumption) ?rest25
                  case hy25 =>
                    intro w hSw
                    go_simp
                    try with_reducible rfl
                  try simp only [Act.put, List.setIfInBounds_toArray, List.set_cons_zero, List.set_cons_succ, List.getElem_toArray, List.getElem_cons_succ, List.getElem_cons_zero]
                  refine wpAnyH_done (by kernel_rfl) ?_ _
                  clear hHeld
                  go_wp2
                  exact ⟨⟨k + 1, F8, d8, l8, by omega, by omega, by simp, (unhide HRN).same (unhide HOD)⟩, by simp [intOf]; omega⟩
                · have hp3b : ((X k).what % 4 == 3) = false := by simp; omega
                  have HC := hide (append_any (unhide HL7) _ us (unhide HU7) (by omega) (by omega))
                  have hw0 := append_calm l d us (unhide HRA).calm (unhide HRA).lg.dk.fine (unhide HRA).lg.fine (unhide HDEAD) hnil hfull
                  obtain ⟨r, hr⟩ : ∃ r, r = append l d us := ⟨_, rfl⟩
                  rw [← hr] at HC hw0
                  obtain ⟨d8, hd8⟩ : ∃ d8, d8 = r.dk := ⟨_, rfl⟩
                  obtain ⟨l8, hl8⟩ : ∃ l8, l8 = r.lg := ⟨_, rfl⟩
                  rw [hw0.e, ← hd8, ← hl8] at HC
                  have hE8 : l8.hd.epoch = next1 l.hd.epoch := by rw [hl8, hw0.hd]
                  have hA8 : l8.hd.area = l.hd.area := by rw [hl8, hw0.hd]
                  have hU8 : l8.hd.used = l.hd.used + sizes us := by rw [hl8, hw0.hd]
                  have HRN0 : Hid (Calm d8 ∧ l8.dead = false ∧ d8.secs.length = N ∧ d8.works ≤ (k + 1) * 100) := by rw [hd8, hl8]; exact ⟨hw0.calm, by rw [hw0.dead]; exact unhide HDEAD, by rw [hw0.len]; exact (unhide HRA).len, by have := hw0.works; have := (unhide HRA).works; have := (unhide HRA).len; omega⟩
                  clear hw0 hr
                  have HHN : Hid (d8.half = (N - 2) / 2) := by show d8.half = _; unfold Dk.half; rw [(unhide HRN0).2.2.1]
                  have HE8 := hide hE8
                  have HA8 := hide hA8
                  have HU8 := hide hU8
                  clear hE8 hA8 hU8 hd8 hl8 hnil hp3
                  go_wp2_with fail
                  refine (pick_any (X k).what 4 w7 (by decide) (by decide)).mono ?_
                  rintro e w7 ⟨rfl, rfl⟩
                  go_wp2_with fail
                  refine (unhide HC).mono ?_
                  rintro e w8 ⟨rfl, F8, hw8⟩
                  have HW8 := hide hw8
                  have HB8 := hide (hw8.only.heap (unhide HB7) (fun e => by rcases e with e | e; exact hb5 e; exact hb5L e))
                  clear hw8 HC
                  have HHD8 := hide (head_any (unhide HW8).lg)
                  unfold hv at HHD8
                  go_wp2_with fail
                  refine (unhide HHD8).mono ?_
                  rintro e w9 ⟨rfl, o9⟩
                  have hB10 := heap_alloc_new w9 (.cells #[.int .u64 l8.hd.epoch, .int .i64 l8.hd.area, .int .i64 l8.hd.used] 36)
                  have o10 := o9.alloc (.cells #[.int .u64 l8.hd.epoch, .int .i64 l8.hd.area, .int .i64 l8.hd.used] 36)
                  have HB8' := hide (o10.heap (unhide HB8) (fun h => h))
                  have hne : ¬ w5.heap.size = w9.heap.size := by have := lt_of_block (o9.heap (unhide HB8) (fun h => h)); omega
                  go_wp2_with fail
                  generalize w9.alloc (.cells #[.int .u64 l8.hd.epoch, .int .i64 l8.hd.area, .int .i64 l8.hd.used] 36) = w10 at *
                  have HB10 := hide hB10
                  have HL10 := hide ((unhide HW8).lg.same o10)
                  clear hB10 o10 o9 HHD8
                  obtain ⟨n0, n1, n2, nf⟩ := cells_three (unhide HB10)
                  obtain ⟨p0, p1, p2, pf⟩ := cells_three (unhide HB8')
                  have hus8 := (unhide HL10).fine.used
                  have hqe : ((N : Int) - 2) / 2 = (d8.half : Int) := by have := unhide HHN; omega
                  have hz2 : ¬ (2 : Int) = 0 := by decide
                  go_quiet ((first | (go_at_call 29; exact Calls.quiet_of (room_any ((unhide HL10).drews _))) | (go_at_call 33; exact Calls.quiet_of_same (half_any ((unhide HL10).drews _)))))
                  clear n0 n1 n2 nf p0 p1 p2 pf
                  generalize hw11 : w10.drewN nq = w11
                  have o11 : Only (fun _ => False) w10 w11 := by rw [← hw11]; exact Only.drews nq
                  have HL11 := hide ((unhide HL10).same o11)
                  obtain ⟨n0, n1, n2, nf⟩ := cells_three (o11.heap (unhide HB10) (fun h => h))
                  obtain ⟨p0, p1, p2, pf⟩ := cells_three (o11.heap (unhide HB8') (fun h => h))
                  clear hw11 o11 HL10 HB10
                  have HRN : Hid (RoomAt w w11 F8 B L N d8 l8 (k + 1)) := ⟨unhide HL11, (unhide HRN0).1, (unhide HRN0).2.1, (unhide HRN0).2.2.1, (unhide HRN0).2.2.2⟩
                  have hiE : (l8.hd.epoch : Int) = IntKind.u64.wrap ((l.hd.epoch : Int) + 1) := by rw [next1_wrap, unhide HE8]
                  have hiA : (l8.hd.area : Int) = l.hd.area := by rw [unhide HA8]
                  have hiU : (l8.hd.used : Int) = (l.hd.used : Int) + sizes us := by rw [unhide HU8]; simp
                  have htn0 : ((tl : Int) == 0) = false := by simp; omega
                  go_wp2
                  exact ⟨⟨k + 1, F8, d8, l8, by omega, by omega, by simp, unhide HRN⟩, by simp [intOf]; omega⟩
      · obtain rfl : k = 30 := by omega
        have hli : (30 : Int) < m := by omega
        go_wp2
        go_ret
        exact ⟨rfl, (unhide HRA).lg.dk.only⟩
    · obtain rfl : m = k := by omega
      have hli : ¬ (m : Int) < m := by omega
      go_wp2
      go_ret
      exact ⟨rfl, (unhide HRA).lg.dk.only⟩

end Wal
end Go.Proofs.Ytoffcbopolonoaa
