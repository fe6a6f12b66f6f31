/-
  locksmithlaw4's WalWhole.
-/
import Derived.Test.YtoffcbopolonoaaWalTheory
import Derived.Deep.DeepCutAuto
import Derived.Deep.CutBlock
namespace Go.Proofs.Ytoffcbopolonoaa
open Go.RowKit
set_option linter.unusedSimpArgs false
set_option linter.unusedVariables false
namespace Wal

/-- behind the fuse -/
def Cut1 (w wx : World) (B L : Nat) (t : Value) (l : Lg) (us : List (List UInt8)) (N k hb : Nat) (o : Obj) : Prop := ∃ F d, WholeAt w wx F B L t d l us N k ∧ wx.heap[hb]? = some o ∧ ¬ F hb
/-- behind the call -/
def Cut2 (w wx : World) (B L : Nat) (t nv ev : Value) (us : List (List UInt8)) (N k hb : Nat) (o : Obj) : Prop := ∃ F d l vs e, ev = .int .i64 e ∧ MidAt w wx F B L t nv d l us vs e N k ∧ wx.heap[hb]? = some o ∧ ¬ F hb

set_option maxHeartbeats 4000000 in
set_option maxRecDepth 100000 in
theorem walWhole_any (n : Int) (v : Value) (m : Nat) (X : Nat → St4) (w : World) (hX : Steps4 w v m X) :
    Calls Try.prog 6 #[.int .i64 n, v] w fun e w' => e = .returned (.bool true) ∧ Only (fun _ => False) w w' := by
  obtain ⟨ao, cap, hv, hmc, hcm, hcells⟩ := hX.shape
  subst hv
  have HEACH := hide hX.each
  have HCELLS := hide hcells
  have hmx : (m : Int) < 9223372036854775808 := by unfold maxLen at hcm; omega
  clear hX hcells
  obtain ⟨q, hq⟩ := Int.eq_ofNat_of_zero_le (Int.emod_nonneg n (by decide : (30 : Int) ≠ 0))
  have hq2 := Int.emod_lt_of_pos n (by decide : (0 : Int) < 30)
  have HQ := hide hq
  rw [hq] at hq2
  obtain ⟨N, hN⟩ : ∃ N, N = 8 + q := ⟨_, rfl⟩
  have HN8 : Hid ((8 : Int) + q = (N : Int)) := by show (8 : Int) + q = (N : Int); omega
  have hN8 : 8 ≤ N := by omega
  have hN37 : N ≤ 37 := by omega
  clear hq hN
  go_enter Try.func6, Try.ntmps6
  go_wp2_with fail
  refine (pick_any n 30 w (by decide) (by decide)).mono ?_
  rintro e w ⟨rfl, rfl⟩
  rw [unhide HQ]
  go_wp2_with fail
  rw [unhide HN8]
  refine (dks_new N hN8 (by omega) w w (Only.refl _ _)).mono ?_
  rintro e w1 ⟨B, F, rfl, hd, hF, o1⟩
  have HOP := hide (open_new N hN8 hd)
  clear hd o1 hF
  go_wp2_with fail
  refine (unhide HOP).mono ?_
  rintro e w2 ⟨L, uo, uc, rfl, hl, hL, o2⟩
  have HL := hide hl
  clear hl o2 HOP hL
  go_wp2_with fail
  refine (known_any w2).mono ?_
  rintro e w3 ⟨rfl, o3⟩
  have HL3 : Hid (WholeAt w w3 F B L (.slice none 0 0) (Dk.new N) lg0 [] N 0) := ⟨(unhide HL).same o3, Safe.new N hN8 (by omega), hasU_nil _ _, by simp [Dk.new], by simp [Dk.new], by simp⟩
  clear HL o3
  go_wp2_with fail
  go_loopw [7, 10, 11] (fun a t i wr => ∃ k F L d l us, k ≤ m ∧ k ≤ 30 ∧ i = .int .i64 k ∧ a = .pointer (some ⟨L, 0, none⟩) ∧ WholeAt w wr F B L t d l us N k) (fun _ _ i _ => 30 - (intOf i).toNat)
  case atStart => exact ⟨0, F, L, _, _, [], Nat.zero_le _, by decide, rfl, rfl, unhide HL3⟩
  case round =>
    obtain ⟨k, F4, L4, d, l, us, hkm, hk30, rfl, rfl, hwa⟩ := hrel
    have HWA := hide hwa
    clear hwa HL3
    by_cases hlt : k < m
    · by_cases hl30 : k < 30
      · have hli : (k : Int) < m := by omega
        have hl30i : (k : Int) < 30 := by omega
        obtain ⟨bb, off, hao, hbw, hcs⟩ := unhide HCELLS (by omega)
        subst hao
        obtain ⟨x0, x1, x2, x3, x4⟩ := hcs k hlt
        have o04 := (unhide HWA).lg.dk.only
        have y0 := o04.cell x0 (fun h => h)
        have y1 := o04.cell x1 (fun h => h)
        have y2 := o04.cell x2 (fun h => h)
        have y3 := o04.cell x3 (fun h => h)
        have y4 := o04.cell x4 (fun h => h)
        obtain ⟨s, hs⟩ : ∃ s, s = X k := ⟨_, rfl⟩
        have HST := hide (unhide HEACH k hlt)
        rw [← hs] at y0 y1 y2 y3 y4 HST
        obtain ⟨s2, s2c, hs2, hs2a⟩ := (unhide HST).sizes.shape
        obtain ⟨s3, s3c, hs3, hs3a⟩ := (unhide HST).fates.shape
        obtain ⟨s4, s4c, hs4, hs4a⟩ := (unhide HST).odd.shape
        rw [List.length_map] at hs2 hs3
        have HS2 := hide hs2
        have HS3 := hide hs3
        have HS4 := hide hs4
        rw [hs2] at y2
        rw [hs3] at y3
        rw [hs4] at y4
        have hnum := (unhide HST).num
        unfold I64 at hnum
        clear x0 x1 x2 x3 x4 hcs hs2 hs3 hs4 hs2a hs3a hs4a o04 hs
        go_upto_if 67 with fail
        have hB5 := heap_alloc_new wr (.cells #[.int .i64 s.what, .int .i64 s.num, .slice s2 s.ss.length s2c, .slice s3 s.fs.length s3c, .slice s4 s.os.length s4c] 48)
        have o5 := (Only.refl (fun _ => False) wr).alloc (.cells #[.int .i64 s.what, .int .i64 s.num, .slice s2 s.ss.length s2c, .slice s3 s.fs.length s3c, .slice s4 s.os.length s4c] 48)
        generalize wr.alloc (.cells #[.int .i64 s.what, .int .i64 s.num, .slice s2 s.ss.length s2c, .slice s3 s.fs.length s3c, .slice s4 s.os.length s4c] 48) = w5 at *
        have hb5 : wr.heap.size < w5.heap.size := lt_of_block hB5
        have hb5F : ¬ F4 wr.heap.size := fun e => by have := (unhide HWA).lg.dk.lt _ e; omega
        have hb5L : ¬ wr.heap.size = L4 := by have := (unhide HWA).lg.lt; omega
        have HWA5 := hide ((unhide HWA).same o5)
        have HB5 := hide hB5
        clear hB5 o5 HWA y0 y1 y2 y3 y4
        obtain ⟨hb, hhb⟩ : ∃ hb, hb = wr.heap.size := ⟨_, rfl⟩
        rw [← hhb] at hb5 hb5F hb5L HB5 ⊢
        clear hhb
        go_cut [73] (fun s73 wx => Cut1 w wx B L4 u10 l us N k hb (.cells #[.int .i64 s.what, .int .i64 s.num, .slice s2 s.ss.length s2c, .slice s3 s.fs.length s3c, .slice s4 s.os.length s4c] 48))
        case first =>
          obtain ⟨c0, c1, c2, c3, c4, cf⟩ := cells_five (unhide HB5)
          by_cases h4 : s.num.tmod 4 = 0
          · have h4b : (s.num.tmod 4 == 0) = true := by simp [h4]
            obtain ⟨pq, hpq⟩ := Int.eq_ofNat_of_zero_le (Int.emod_nonneg (s.num.tdiv 4) (by decide : (10 : Int) ≠ 0))
            have HPQ := hide hpq
            have hpq2 := Int.emod_lt_of_pos (s.num.tdiv 4) (by decide : (0 : Int) < 10)
            rw [hpq] at hpq2
            rw [h4b]
            clear h4 hpq h4b
            go_wp2_with fail
            refine (pick_any (s.num.tdiv 4) 10 w5 (by decide) (by decide)).mono ?_
            rintro e w5 ⟨rfl, rfl⟩
            rw [unhide HPQ]
            have HFU := hide (dks_fuse (unhide HWA5).lg.dk pq (by omega) (by omega))
            go_wp2_with fail
            refine (unhide HFU).mono ?_
            rintro e w6 ⟨rfl, F6, hw6⟩
            have hw6' := (unhide HWA5).fused pq (by omega) (by omega) hw6
            have hB6 := hw6.only.heap (unhide HB5) hb5F
            have hF6 : ¬ F6 hb := fun e => by
              rcases hw6.grew hb e with e | e
              · exact hb5F e
              · omega
            have HALL := hide (And.intro hw6' (And.intro hB6 hF6))
            clear hw6' hB6 hF6 hw6
            go_wp2_with fail
            go_meet
            case rel => exact ⟨F6, _, (unhide HALL).1, (unhide HALL).2.1, (unhide HALL).2.2⟩
          · have h4b : (s.num.tmod 4 == 0) = false := by simp [h4]
            rw [h4b]
            clear h4 h4b
            go_wp2_with fail
            go_meet
            case rel => exact ⟨F4, d, unhide HWA5, unhide HB5, hb5F⟩
        case rest =>
          obtain ⟨F6, d6, hw6, hB6, hF6⟩ := hcut
          have HW6 := hide hw6
          have HB6 := hide hB6
          have hb6 := lt_of_block hB6
          obtain ⟨c0, c1, c2, c3, c4, cf⟩ := cells_five hB6
          clear hw6 hB6 HWA5 HB5 hb5F hb5
          go_upto_if 77 with (go_at_call 15; refine (pick_any s.what 5 wc (by decide) (by decide)).mono ?_; rintro e wc ⟨rfl, hwx⟩; subst hwx)
          go_cut [13, 14] (fun nv ev wx => Cut2 w wx B L4 u10 nv ev us N k hb (.cells #[.int .i64 s.what, .int .i64 s.num, .slice s2 s.ss.length s2c, .slice s3 s.fs.length s3c, .slice s4 s.os.length s4c] 48))
          case first =>
            by_cases h5 : s.what % 5 = 4
            · have h5b : (s.what % 5 == 4) = true := by simp [h5]
              rw [h5b]
              clear h5 h5b
              obtain ⟨pq, hpq⟩ := Int.eq_ofNat_of_zero_le (Int.emod_nonneg s.num (by decide : (300 : Int) ≠ 0))
              have HPQ := hide hpq
              have hpq2 := Int.emod_lt_of_pos s.num (by decide : (0 : Int) < 300)
              rw [hpq] at hpq2
              clear hpq
              go_wp2_with fail
              refine wp_region_held_drew (S := (fun w' => w'.cell? ⟨hb, 1, none⟩ = some (.int .i64 s.num))) (by kernel_rfl) (c1) (fun hHeld => ?_)
              refine wpAnyH_take (i := 0) (v := ?v23) rfl (by kernel_rfl) (by kernel_rfl) (by kernel_rfl) (fun _ _ _ h => h) (Or.inl ⟨by rfl, ?hy23⟩) (by assumption) ?rest23
              case hy23 =>
                intro w hSw
                go_simp
                try with_reducible rfl
              try simp only [Act.put, List.setIfInBounds_toArray, List.set_cons_zero, List.set_cons_succ, List.getElem_toArray, List.getElem_cons_succ, List.getElem_cons_zero]
              refine wpAnyH_take (i := 1) (v := ?v24) rfl (by kernel_rfl) (by kernel_rfl) (by kernel_rfl) (fun _ _ _ h => h) (Or.inl ⟨by rfl, ?hy24⟩) (by assumption) ?rest24
              case hy24 =>
                intro w hSw
                go_simp
                try with_reducible rfl
              try simp only [Act.put, List.setIfInBounds_toArray, List.set_cons_zero, List.set_cons_succ, List.getElem_toArray, List.getElem_cons_succ, List.getElem_cons_zero]
              refine wpAnyH_take (i := 3) (v := ?v25) rfl (by kernel_rfl) (by kernel_rfl) (by kernel_rfl) (fun _ _ _ h => h) (Or.inl ⟨by rfl, ?hy25⟩) (by assumption) ?rest25
              case hy25 =>
                intro w hSw
                go_simp
                try with_reducible rfl
              try simp only [Act.put, List.setIfInBounds_toArray, List.set_cons_zero, List.set_cons_succ, List.getElem_toArray, List.getElem_cons_succ, List.getElem_cons_zero]
              refine wpAnyH_take (i := 4) (v := ?v26) rfl (by kernel_rfl) (by kernel_rfl) (by kernel_rfl) (fun _ _ _ h => h) (Or.inl ⟨by rfl, ?hy26⟩) (by assumption) ?rest26
              case hy26 =>
                intro w hSw
                go_simp
                try with_reducible rfl
              try simp only [Act.put, List.setIfInBounds_toArray, List.set_cons_zero, List.set_cons_succ, List.getElem_toArray, List.getElem_cons_succ, List.getElem_cons_zero]
              refine wpAnyH_ready (rs := [2]) (by kernel_rfl) (by simp) ?_
              refine AllReadyH.cons rfl (fun K hK => ?_) AllReadyH.nil
              go_simp
              go_wp2_with fail; refine (pick_any s.num 300 _ (by decide) (by decide)).mono ?_; rintro e wx ⟨rfl, hwx⟩; subst hwx; rw [unhide HPQ]
              refine hK.out _ _ (c1) (fun hHeld => ?_)
              clear hK K
              try simp only [Act.put, List.setIfInBounds_toArray, List.set_cons_zero, List.set_cons_succ, List.getElem_toArray, List.getElem_cons_succ, List.getElem_cons_zero]
              refine wpAnyH_ready (rs := [5]) (by kernel_rfl) (by simp) ?_
              refine AllReadyH.cons rfl (fun K hK => ?_) AllReadyH.nil
              go_simp
              go_wp2_with fail; refine (handBytes_any pq s.num wc.drew (by omega) hnum.1 hnum.2).mono ?_; rintro e w7 ⟨y7, rfl, hy7⟩; have o7 : Only (fun _ => False) wc w7 := ((Only.refl _ _).drew).trans hy7.only (fun _ _ e => e); have c1' := o7.cell c1 (fun h => h); have HO7 := hide o7; have HY7 : Hid (Has w7 y7 (rawBytes pq s.num) ∧ ∀ j, blk y7 = some j → wc.heap.size ≤ j) := ⟨Has.ofOwns hy7.own, fun j hj => (hy7.own.lt j (own_blk hy7.own j hj)).1⟩; clear hy7 o7
              refine hK.out _ _ (c1') (fun hHeld => ?_)
              clear hK K
              try simp only [Act.put, List.setIfInBounds_toArray, List.set_cons_zero, List.set_cons_succ, List.getElem_toArray, List.getElem_cons_succ, List.getElem_cons_zero]
              refine wpAnyH_take (i := 6) (v := ?v27) rfl (by kernel_rfl) (by kernel_rfl) (by kernel_rfl) (fun _ _ _ h => h) (Or.inl ⟨by rfl, ?hy27⟩) (by assumption) ?rest27
              case hy27 =>
                intro w hSw
                go_simp
                try with_reducible rfl
              try simp only [Act.put, List.setIfInBounds_toArray, List.set_cons_zero, List.set_cons_succ, List.getElem_toArray, List.getElem_cons_succ, List.getElem_cons_zero]
              refine wpAnyH_done (by kernel_rfl) ?_ _
              clear hHeld c0 c1 c2 c3 c4 cf c1'
              have hrl := rawBytes_length pq s.num
              obtain ⟨u, hu⟩ : ∃ u, u = rawBytes pq s.num := ⟨_, rfl⟩
              rw [← hu] at HY7 hrl
              have hrl2 : u.length ≤ 1000 := by omega
              clear hu hrl
              obtain ⟨yo, yc, hysh, _⟩ := (unhide HY7).1.shape
              subst hysh
              go_wp2_with fail
              have hB8 := heap_alloc_new w7 (.cells #[.slice yo u.length yc] 32)
              have o8 := (unhide HO7).alloc (.cells #[.slice yo u.length yc] 32)
              have o78 := (Only.refl (fun _ => False) w7).alloc (.cells #[.slice yo u.length yc] 32)
              generalize w7.alloc (.cells #[.slice yo u.length yc] 32) = w8 at *
              have h67 := (unhide HO7).size
              have HY8 := (unhide HY7).1.only o78 (fun _ _ _ h => h)
              have hU8 : HasU (fun j => wc.heap.size ≤ j) w8 (.slice (some ⟨w7.heap.size, 0, none⟩) 1 1) [u] := hasU_lit1 hB8 HY8 (unhide HY7).2 (by omega)
              have HU8 := hide ((unhide HW6).lg.newU hU8)
              have HW8 := hide ((unhide HW6).same o8)
              have HB8 := hide (o8.heap (unhide HB6) (fun h => h))
              have HRS := hide (reset_any (unhide HW8).lg _ u HY8 ((unhide HW6).lg.new1 (unhide HY7).2) (by omega) (by have := (unhide HW6).works; omega))
              obtain ⟨r, hr⟩ : ∃ r, r = reset l d6 u := ⟨_, rfl⟩
              have HMID := hide (fun (w9 : World) (F9 : Nat → Prop) (hw : LWent w w8 w9 F6 F9 B L4 (reset l d6 u).dk (reset l d6 u).lg) => (unhide HW8).reset (by omega) (by omega) hrl2 (unhide HU8) hw)
              rw [← hr] at HRS HMID
              clear hr hB8 o8 o78 HY8 hU8
              refine (unhide HRS).mono ?_
              rintro e w9 ⟨rfl, F9, hw9⟩
              have HM9 := hide (unhide HMID w9 F9 hw9)
              have hB9 := hw9.only.heap (unhide HB8) (fun e => by rcases e with e | e; exact hF6 e; exact hb5L e)
              have hF9 : ¬ F9 hb := fun e => by
                rcases hw9.grew hb e with e | e
                · exact hF6 e
                · have := lt_of_block (unhide HB8); omega
              have HALL := hide (And.intro hB9 hF9)
              clear hw9 hB9 hF9 HMID HRS
              go_wp2_with fail
              go_meet
              case rel => exact ⟨F9, _, _, [u], r.e, rfl, unhide HM9, (unhide HALL).1, (unhide HALL).2⟩
            · have h5b : (s.what % 5 == 4) = false := by simp [h5]
              rw [h5b]
              clear h5 h5b
              have HTX := hide (texts_any s wc ((unhide HST).same (unhide HW6).lg.dk.only))
              unfold St4.cells at HTX
              rw [unhide HS2, unhide HS3, unhide HS4] at HTX
              go_wp2_with fail
              refine (unhide HTX).mono ?_
              rintro e w7 ⟨xv, rfl, hxv, o7⟩
              have hxl := texts_length s
              have hxsm : ∀ u ∈ texts s, u.length ≤ 149 := textsTo_small _ _ _
              have hxsz := texts_sizes s
              obtain ⟨xs, hxs⟩ : ∃ xs, xs = texts s := ⟨_, rfl⟩
              rw [← hxs] at hxv hxl hxsm hxsz
              have HXS := hide hxsm
              have HXU := hide hxv.hasU
              have HW7 := hide ((unhide HW6).same o7)
              have HB7 := hide (o7.heap (unhide HB6) (fun h => h))
              have h67 := o7.size
              obtain ⟨xo, xc, hxsh, _⟩ := (unhide HXU).shape
              subst hxsh
              clear hxs hxv hxsm o7 HTX c0 c1 c2 c3 c4 cf
              obtain ⟨i1, hi1, hz10, hz11, hz12⟩ := info_parts Try.info32
              have HI1 := hide (And.intro hi1 (And.intro hz10 (And.intro hz11 hz12)))
              clear hi1 hz10 hz11 hz12
              obtain ⟨tvs, htv, hte, htb⟩ := (unhide HW7).there.has
              have htl := hte.length
              have htm := (unhide HW7).many
              have HTV := hide htv
              have HTE := hide hte
              have HTLN := hide htl
              obtain ⟨xvs, hxv, hxe, hxb⟩ := (unhide HXU).has
              have HXV := hide hxv
              have HXE := hide hxe
              have HXLN := hide hxe.length
              clear htv hte htb hxv hxe hxb htl
              have hown0 : (w7.alloc (.cells #[] 32)).ownsRow w7.heap.size 32 1 (.slice (some ⟨w7.heap.size, 0, none⟩) 0 0) 0 [] := World.ownsRow_lit w7 #[] 0 (Nat.le_refl _) (Nat.zero_le _) rfl
              have HOW0 := hide hown0
              clear hown0
              have o78 := (Only.refl (fun _ => False) w7).alloc (.cells #[] 32)
              have HO78 := hide o78
              clear o78
              have hz : (w7.alloc (.cells #[] 32)).heap.size = w7.heap.size + 1 := by simp
              have HZ := hide hz
              clear hz
              have HROW0 : Hid (RowU (fun j => ¬ F6 j ∧ j ≠ L4) w7.heap.size (w7.alloc (.cells #[] 32)) (.slice (some ⟨w7.heap.size, 0, none⟩) 0 0) [] []) := ⟨unhide HOW0, trivial⟩
              have HTE8 := hide (((unhide HTE).mono (Q := fun j => (¬ F6 j ∧ j ≠ L4) ∧ Value.ownBlock (.slice (some ⟨w7.heap.size, 0, none⟩) 0 0) ≠ some j) (fun j hj hp => ⟨hp, fun e => by simp only [Value.ownBlock, Option.some.injEq] at e; omega⟩)).only (unhide HO78) (fun _ _ _ h => h))
              have HTV8 := hide ((unhide HTV).only (unhide HO78) (fun _ _ _ h => h))
              have HTON := hide ((unhide HTE).ones)
              have HXON := hide ((unhide HXE).ones)
              have HXE9 := hide (fun (w9 : World) (ao9 : Option Addr) (cap9 : Nat) (h9 : w9.ownsRow w7.heap.size 32 1 (.slice ao9 us.length cap9) us.length tvs) (o79 : Only (fun _ => False) w7 w9) => ((unhide HXE).mono (Q := fun j => (¬ F6 j ∧ j ≠ L4) ∧ Value.ownBlock (.slice ao9 us.length cap9) ≠ some j) (fun j hj hp => ⟨⟨fun e => by have := (unhide HW6).lg.dk.lt j e; omega, by have := (unhide HW6).lg.lt; omega⟩, fun e => by have := (h9.lt j e).1; omega⟩)).only o79 (fun _ _ _ h => h))
              go_wp2_with (first
                | (at_builtin; refine wpList_append_hasV rfl (.tmp 91) (.tmp 92) 23 rfl w7.heap.size 32 i1 (.slice none 0 0) 24 Try.underlying23 (unhide HI1).1 (unhide HI1).2.1 (unhide HI1).2.2.1 (unhide HI1).2.2.2 rfl (.slice (some ⟨w7.heap.size, 0, none⟩) 0 0) 0 [] rfl (unhide HOW0) u10 tvs rfl (unhide HTV8) (unhide HTON) (by rw [unhide HTLN]; simp [maxLen]; omega) (by rw [unhide HTLN]; omega) (by rw [unhide HZ]; omega) ?_; intro ao9 cap9 w9 own9 gr9 at9; rw [Nat.zero_add, unhide HTLN] at own9 at9 ⊢; have hP9 := RowU.pushes (unhide HROW0) (unhide HTE8) (Only.refl _ _) (by simpa using own9) gr9 at9; have o79 : Only (fun _ => False) w7 w9 := (unhide HO78).trans hP9.2 (fun i hi e => (by simp only [Value.ownBlock, Option.some.injEq] at e; omega)); have HR9 : Hid (RowU (fun j => ¬ F6 j ∧ j ≠ L4) w7.heap.size w9 (.slice ao9 us.length cap9) tvs us) := hP9.1; have HO79 := hide o79; have h79 := o79.size; have HXV9 := hide ((unhide HXV).only o79 (fun _ _ _ h => h)); clear own9 gr9 at9 hP9 o79)
                | (at_builtin; refine wpList_append_hasV rfl (.tmp 93) (.tmp 94) 23 rfl w7.heap.size 32 i1 (.slice none 0 0) 24 Try.underlying23 (unhide HI1).1 (unhide HI1).2.1 (unhide HI1).2.2.1 (unhide HI1).2.2.2 rfl (.slice ao9 us.length cap9) us.length tvs rfl (unhide HR9).1 (.slice xo xs.length xc) xvs rfl (unhide HXV9) (unhide HXON) (by rw [unhide HXLN]; simp [maxLen]; omega) (by rw [unhide HXLN]; omega) (by omega) ?_; intro ao10 cap10 w10 own10 gr10 at10; rw [unhide HXLN] at own10 at10 ⊢; have hP10 := RowU.pushes (unhide HR9) (unhide HXE9 w9 ao9 cap9 (unhide HR9).1 (unhide HO79)) (Only.refl _ _) own10 gr10 at10; have HP10 := hide hP10; have HR9k := hide (unhide HR9); clear own10 gr10 at10 hP10))
              have o710 : Only (fun _ => False) w7 w10 := (unhide HO79).trans (unhide HP10).2 (fun i hi e => by have := ((unhide HR9).1.lt i e).1; omega)
              have HU10 := hide ((unhide HP10).1.hasU (fun k hk => ⟨fun e => by have := (unhide HW7).lg.dk.lt k e; omega, by have := (unhide HW7).lg.lt; omega⟩))
              have HX10 := hide (((unhide HXU).mono (Q := fun j => ¬ F6 j ∧ j ≠ L4) (fun j _ hj => ⟨fun e => by have := (unhide HW6).lg.dk.lt j e; omega, by have := (unhide HW6).lg.lt; omega⟩)).only o710 (fun _ _ _ h => h))
              have HW10 := hide ((unhide HW7).same o710)
              have HB10 := hide (o710.heap (unhide HB7) (fun h => h))
              have hb10 := lt_of_block (unhide HB10)
              have HAP := hide (append_any (unhide HW10).lg _ xs (unhide HX10) (by omega) (by have := (unhide HW6).works; omega))
              have HMID := hide (fun (w9 : World) (F9 : Nat → Prop) (hw : LWent w w10 w9 F6 F9 B L4 (append l d6 xs).dk (append l d6 xs).lg) => (unhide HW10).appended (by omega) (by omega) hxl (unhide HXS) (unhide HU10) hw)
              obtain ⟨r, hr⟩ : ∃ r, r = append l d6 xs := ⟨_, rfl⟩
              rw [← hr] at HAP HMID
              clear hr o710
              refine (unhide HAP).mono ?_
              rintro e w11 ⟨rfl, F9, hw9⟩
              have HM9 := hide (unhide HMID w11 F9 hw9)
              have hB9 := hw9.only.heap (unhide HB10) (fun e => by rcases e with e | e; exact hF6 e; exact hb5L e)
              have hF9 : ¬ F9 hb := fun e => by
                rcases hw9.grew hb e with e | e
                · exact hF6 e
                · omega
              have HALL := hide (And.intro hB9 hF9)
              clear hw9 hB9 hF9 HMID HAP
              go_wp2_with fail
              go_meet
              case rel => exact ⟨F9, _, _, us ++ xs, r.e, rfl, unhide HM9, (unhide HALL).1, (unhide HALL).2⟩
          case rest =>
            obtain ⟨F7, d7, l7, vs, ev, rfl, hmid, hB7, hF7⟩ := hcut
            have HMID := hide hmid
            have HB7 := hide hB7
            obtain ⟨c0, c1, c2, c3, c4, cf⟩ := cells_five hB7
            clear hmid hB7 HW6 HB6 hF6 hb6
            have HFV : Hid (HasV wc (.slice s3 s.fs.length s3c) (s.fs.map (.int .i64))) := by
              have := (unhide HST).fates
              rw [unhide HS3] at this
              exact this.only (unhide HMID).lg.dk.only (fun _ _ _ h => h)
            have HFO : Hid (s.fs ≠ [] → ∀ j, blk (.slice s3 s.fs.length s3c) = some j → ¬ F7 j) := fun hne j hj => by
              have h0 := (unhide HST).fates
              rw [unhide HS3] at h0
              exact (unhide HMID).lg.dk.old h0 (by simpa using hne) j hj
            rcases (unhide HMID).e_is with rfl | rfl | rfl
            · by_cases h3 : s.what.tmod 3 = 0
              · have H3B : Hid ((s.what.tmod 3 != 0) = false) := by show (s.what.tmod 3 != 0) = false; simp only [bne_eq_false_iff_eq]; exact h3
                clear h3
                go_upto_if 109 with fail
                rw [unhide H3B]
                have HSF := hide ((unhide HMID).full.safe.crash s.fs)
                have HCR := hide (dks_crash' (unhide HMID).lg.dk (by have := (unhide HMID).works; omega) _ s.fs (unhide HFV) (unhide HFO))
                go_wp2_with fail
                refine (unhide HCR).mono ?_
                rintro e w8 ⟨rfl, F8, hw8⟩
                have HLW := hide ((unhide HMID).lg.went hw8 (crashTo_length _ _ _ _) (unhide HMID).lg.works)
                have HT8 := hide ((unhide HLW).hasU (unhide HMID).there)
                have HN8 := hide ((unhide HLW).hasU (unhide HMID).next)
                have HOP := hide (opened (unhide HMID).lg.dk (by have := (unhide HMID).works; omega) s.fs (unhide HSF) hw8)
                clear hw8 HCR HLW
                go_wp2_with fail
                refine (unhide HOP).mono ?_
                rintro e w9 ⟨L9, ao9, cap9, rfl, hl9, hu9, o9⟩
                have HL9 := hide hl9
                have HU9 := hide hu9
                have HT9 := hide ((unhide HT8).only o9 (fun _ _ _ h => h))
                have HN9 := hide ((unhide HN8).only o9 (fun _ _ _ h => h))
                clear hl9 hu9 o9 HOP HT8 HN8
                have HUN10 := hide (units_any _ _ us us w9 (unhide HU9) (unhide HT9))
                rw [decide_eq_true rfl] at HUN10
                go_wp2_with fail
                refine (unhide HUN10).mono ?_
                rintro e w10 ⟨rfl, o10⟩
                have HFIN : Hid (WholeAt w w10 F8 B L9 (.slice ao9 us.length cap9) (d7.crash s.fs) (lgOf (found (d7.crash s.fs))) us N (k + 1)) := ⟨(unhide HL9).same o10, unhide HSF, (unhide HU9).only o10 (fun _ _ _ h => h), (crashTo_length _ _ _ _).trans (unhide HMID).len, by show d7.works ≤ _; have := (unhide HMID).works; omega, by have := (unhide HMID).many; have := (unhide HMID).more; omega⟩
                go_wp2
                go_roundw
                case rel => exact ⟨k + 1, F8, L9, _, _, us, by omega, by omega, by go_num, rfl, unhide HFIN⟩
                case measure => simp [intOf]; omega
              · have H3B : Hid ((s.what.tmod 3 != 0) = true) := by show (s.what.tmod 3 != 0) = true; simp only [bne_iff_ne]; exact h3
                clear h3
                go_upto_if 109 with fail
                rw [unhide H3B]
                have HFIN := hide (unhide HMID).full
                go_wp2
                go_roundw
                case rel => exact ⟨k + 1, F7, L4, _, _, us, by omega, by omega, by go_num, rfl, unhide HFIN⟩
                case measure => simp [intOf]; omega
            · by_cases h3 : s.what.tmod 3 = 0
              · have H3B : Hid ((s.what.tmod 3 != 0) = false) := by show (s.what.tmod 3 != 0) = false; simp only [bne_eq_false_iff_eq]; exact h3
                clear h3
                go_upto_if 109 with fail
                rw [unhide H3B]
                have HSF := hide ((unhide HMID).ok.safe.crash s.fs)
                have HCR := hide (dks_crash' (unhide HMID).lg.dk (by have := (unhide HMID).works; omega) _ s.fs (unhide HFV) (unhide HFO))
                go_wp2_with fail
                refine (unhide HCR).mono ?_
                rintro e w8 ⟨rfl, F8, hw8⟩
                have HLW := hide ((unhide HMID).lg.went hw8 (crashTo_length _ _ _ _) (unhide HMID).lg.works)
                have HT8 := hide ((unhide HLW).hasU (unhide HMID).there)
                have HN8 := hide ((unhide HLW).hasU (unhide HMID).next)
                have HOP := hide (opened (unhide HMID).lg.dk (by have := (unhide HMID).works; omega) s.fs (unhide HSF) hw8)
                clear hw8 HCR HLW
                go_wp2_with fail
                refine (unhide HOP).mono ?_
                rintro e w9 ⟨L9, ao9, cap9, rfl, hl9, hu9, o9⟩
                have HL9 := hide hl9
                have HU9 := hide hu9
                have HT9 := hide ((unhide HT8).only o9 (fun _ _ _ h => h))
                have HN9 := hide ((unhide HN8).only o9 (fun _ _ _ h => h))
                clear hl9 hu9 o9 HOP HT8 HN8
                have HUN10 := hide (units_any _ _ vs vs w9 (unhide HU9) (unhide HN9))
                rw [decide_eq_true rfl] at HUN10
                go_wp2_with fail
                refine (unhide HUN10).mono ?_
                rintro e w10 ⟨rfl, o10⟩
                have HFIN : Hid (WholeAt w w10 F8 B L9 (.slice ao9 vs.length cap9) (d7.crash s.fs) (lgOf (found (d7.crash s.fs))) vs N (k + 1)) := ⟨(unhide HL9).same o10, unhide HSF, (unhide HU9).only o10 (fun _ _ _ h => h), (crashTo_length _ _ _ _).trans (unhide HMID).len, by show d7.works ≤ _; have := (unhide HMID).works; omega, by have := (unhide HMID).many; have := (unhide HMID).more; omega⟩
                go_wp2
                go_roundw
                case rel => exact ⟨k + 1, F8, L9, _, _, vs, by omega, by omega, by go_num, rfl, unhide HFIN⟩
                case measure => simp [intOf]; omega
              · have H3B : Hid ((s.what.tmod 3 != 0) = true) := by show (s.what.tmod 3 != 0) = true; simp only [bne_iff_ne]; exact h3
                clear h3
                go_upto_if 109 with fail
                rw [unhide H3B]
                have HFIN := hide (unhide HMID).ok
                go_wp2
                go_roundw
                case rel => exact ⟨k + 1, F7, L4, _, _, vs, by omega, by omega, by go_num, rfl, unhide HFIN⟩
                case measure => simp [intOf]; omega
            · obtain ⟨ws, hws, hsf⟩ := (unhide HMID).fell s.fs
              by_cases hne : ws = us
              · rw [hne] at hsf
                clear hws hne
                have HSF0 := hide hsf
                clear hsf
                have HSF := hide (unhide HSF0)
                have HCR := hide (dks_crash' (unhide HMID).lg.dk (by have := (unhide HMID).works; omega) _ s.fs (unhide HFV) (unhide HFO))
                go_wp2_with fail
                refine (unhide HCR).mono ?_
                rintro e w8 ⟨rfl, F8, hw8⟩
                have HLW := hide ((unhide HMID).lg.went hw8 (crashTo_length _ _ _ _) (unhide HMID).lg.works)
                have HT8 := hide ((unhide HLW).hasU (unhide HMID).there)
                have HN8 := hide ((unhide HLW).hasU (unhide HMID).next)
                have HOP := hide (opened (unhide HMID).lg.dk (by have := (unhide HMID).works; omega) s.fs (unhide HSF) hw8)
                clear hw8 HCR HLW
                go_wp2_with fail
                refine (unhide HOP).mono ?_
                rintro e w9 ⟨L9, ao9, cap9, rfl, hl9, hu9, o9⟩
                have HL9 := hide hl9
                have HU9 := hide hu9
                have HT9 := hide ((unhide HT8).only o9 (fun _ _ _ h => h))
                have HN9 := hide ((unhide HN8).only o9 (fun _ _ _ h => h))
                clear hl9 hu9 o9 HOP HT8 HN8
                have HUN10 := hide (units_any _ _ us us w9 (unhide HU9) (unhide HT9))
                rw [decide_eq_true rfl] at HUN10
                go_wp2_with fail
                refine (unhide HUN10).mono ?_
                rintro e w10 ⟨rfl, o10⟩
                have HFIN : Hid (WholeAt w w10 F8 B L9 (.slice ao9 us.length cap9) (d7.crash s.fs) (lgOf (found (d7.crash s.fs))) us N (k + 1)) := ⟨(unhide HL9).same o10, unhide HSF, (unhide HU9).only o10 (fun _ _ _ h => h), (crashTo_length _ _ _ _).trans (unhide HMID).len, by show d7.works ≤ _; have := (unhide HMID).works; omega, by have := (unhide HMID).many; have := (unhide HMID).more; omega⟩
                go_wp2
                go_roundw
                case rel => exact ⟨k + 1, F8, L9, _, _, us, by omega, by omega, by go_num, rfl, unhide HFIN⟩
                case measure => simp [intOf]; omega
              · have hwv : ws = vs := by rcases hws with h | h; exact absurd h hne; exact h
                rw [hwv] at hsf hne
                clear hws hwv
                have HSF0 := hide hsf
                clear hsf
                have HSF := hide (unhide HSF0)
                have HCR := hide (dks_crash' (unhide HMID).lg.dk (by have := (unhide HMID).works; omega) _ s.fs (unhide HFV) (unhide HFO))
                go_wp2_with fail
                refine (unhide HCR).mono ?_
                rintro e w8 ⟨rfl, F8, hw8⟩
                have HLW := hide ((unhide HMID).lg.went hw8 (crashTo_length _ _ _ _) (unhide HMID).lg.works)
                have HT8 := hide ((unhide HLW).hasU (unhide HMID).there)
                have HN8 := hide ((unhide HLW).hasU (unhide HMID).next)
                have HOP := hide (opened (unhide HMID).lg.dk (by have := (unhide HMID).works; omega) s.fs (unhide HSF) hw8)
                clear hw8 HCR HLW
                go_wp2_with fail
                refine (unhide HOP).mono ?_
                rintro e w9 ⟨L9, ao9, cap9, rfl, hl9, hu9, o9⟩
                have HL9 := hide hl9
                have HU9 := hide hu9
                have HT9 := hide ((unhide HT8).only o9 (fun _ _ _ h => h))
                have HN9 := hide ((unhide HN8).only o9 (fun _ _ _ h => h))
                clear hl9 hu9 o9 HOP HT8 HN8
                have HUN10 := hide (units_any _ _ vs us w9 (unhide HU9) (unhide HT9))
                rw [decide_eq_false hne] at HUN10
                go_wp2_with fail
                refine (unhide HUN10).mono ?_
                rintro e w10 ⟨rfl, o10⟩
                have HU10 := hide ((unhide HU9).only o10 (fun _ _ _ h => h))
                have HN10 := hide ((unhide HN9).only o10 (fun _ _ _ h => h))
                have HUN11 := hide (units_any _ _ vs vs w10 (unhide HU10) (unhide HN10))
                rw [decide_eq_true rfl] at HUN11
                go_wp2_with fail
                refine (unhide HUN11).mono ?_
                rintro e w11 ⟨rfl, o11⟩
                have HFIN : Hid (WholeAt w w11 F8 B L9 (.slice ao9 vs.length cap9) (d7.crash s.fs) (lgOf (found (d7.crash s.fs))) vs N (k + 1)) := ⟨((unhide HL9).same o10).same o11, unhide HSF, (unhide HU10).only o11 (fun _ _ _ h => h), (crashTo_length _ _ _ _).trans (unhide HMID).len, by show d7.works ≤ _; have := (unhide HMID).works; omega, by have := (unhide HMID).many; have := (unhide HMID).more; omega⟩
                go_wp2
                go_roundw
                case rel => exact ⟨k + 1, F8, L9, _, _, vs, by omega, by omega, by go_num, rfl, unhide HFIN⟩
                case measure => simp [intOf]; omega
      · obtain rfl : k = 30 := by omega
        have hli : (30 : Int) < m := by omega
        have HSF := hide ((unhide HWA).safe.crash [])
        have HCR := hide (dks_crash' (unhide HWA).lg.dk (by have := (unhide HWA).works; omega) (.slice none 0 0) [] (hasV_nil _) (fun h => absurd rfl h))
        go_wp2_with fail
        refine (unhide HCR).mono ?_
        rintro e w8 ⟨rfl, F8, hw8⟩
        have HLW := hide ((unhide HWA).lg.went hw8 (crashTo_length _ _ _ _) (unhide HWA).lg.works)
        have HT8 := hide ((unhide HLW).hasU (unhide HWA).there)
        have HOP := hide (opened (unhide HWA).lg.dk (by have := (unhide HWA).works; omega) [] (unhide HSF) hw8)
        clear hw8 HCR HLW
        go_wp2_with fail
        refine (unhide HOP).mono ?_
        rintro e w9 ⟨L9, ao9, cap9, rfl, hl9, hu9, o9⟩
        have HL9 := hide hl9
        have HUN := hide (units_any _ _ us us w9 hu9 ((unhide HT8).only o9 (fun _ _ _ h => h)))
        rw [decide_eq_true rfl] at HUN
        clear hl9 hu9 o9 HOP HT8
        go_wp2_with fail
        refine (unhide HUN).mono ?_
        rintro e w10 ⟨rfl, o10⟩
        go_wp2
        go_ret
        exact ⟨rfl, (unhide HL9).dk.only.trans o10 (fun _ _ e => e)⟩
    · obtain rfl : m = k := by omega
      have hli : ¬ (m : Int) < m := by omega
      have HSF := hide ((unhide HWA).safe.crash [])
      have HCR := hide (dks_crash' (unhide HWA).lg.dk (by have := (unhide HWA).works; omega) (.slice none 0 0) [] (hasV_nil _) (fun h => absurd rfl h))
      go_wp2_with fail
      refine (unhide HCR).mono ?_
      rintro e w8 ⟨rfl, F8, hw8⟩
      have HLW := hide ((unhide HWA).lg.went hw8 (crashTo_length _ _ _ _) (unhide HWA).lg.works)
      have HT8 := hide ((unhide HLW).hasU (unhide HWA).there)
      have HOP := hide (opened (unhide HWA).lg.dk (by have := (unhide HWA).works; omega) [] (unhide HSF) hw8)
      clear hw8 HCR HLW
      go_wp2_with fail
      refine (unhide HOP).mono ?_
      rintro e w9 ⟨L9, ao9, cap9, rfl, hl9, hu9, o9⟩
      have HL9 := hide hl9
      have HUN := hide (units_any _ _ us us w9 hu9 ((unhide HT8).only o9 (fun _ _ _ h => h)))
      rw [decide_eq_true rfl] at HUN
      clear hl9 hu9 o9 HOP HT8
      go_wp2_with fail
      refine (unhide HUN).mono ?_
      rintro e w10 ⟨rfl, o10⟩
      go_wp2
      go_ret
      exact ⟨rfl, (unhide HL9).dk.only.trans o10 (fun _ _ e => e)⟩

end Wal
end Go.Proofs.Ytoffcbopolonoaa
