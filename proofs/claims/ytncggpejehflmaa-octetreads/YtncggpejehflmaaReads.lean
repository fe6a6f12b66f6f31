/-
  OctetReads: the walk.
-/
import Derived.Test.YtncggpejehflmaaKnown
import Derived.Test.YtncggpejehflmaaRdCallsR
import Derived.Test.YtncggpejehflmaaHand
import Derived.Test.YtncggpejehflmaaArgs
import Derived.Deep.RegionWith
import Derived.Deep.QuietTactic
import Derived.BigQuiet
namespace Go.Proofs.Ytncggpejehflmaa
open Go.RowKit
set_option linter.unusedSimpArgs false
set_option linter.unusedVariables false

/-- two readers side by side, in the same state -/
structure Two (w wr : World) (xb rb : Nat) (xv rv : Value) (lack : Bool) (rest : List UInt8) : Prop where
  x : Rdr 55 wr xb xv lack rest
  r : Rdr 49 wr rb rv lack rest
  only : Only (fun _ => False) w wr
  xn : w.heap.size ≤ xb
  rn : w.heap.size ≤ rb
  ne : xb ≠ rb
  xr : ∀ k, blk xv = some k → k ≠ rb
  rx : ∀ k, blk rv = some k → k ≠ xb

theorem Two.mid {w wr w1 : World} {xb rb : Nat} {xv rv xv' : Value} {lack l1 : Bool} {rest r1 : List UInt8} (h : Two w wr xb rb xv rv lack rest) (hx : ReadTo 55 wr xb xv w1 xv' l1 r1) : Rdr 49 w1 rb rv lack rest :=
  h.r.only hx.only (fun e => h.ne e.symm) (fun k hk => h.rx k hk)

theorem Two.step {w wr w1 w2 : World} {xb rb : Nat} {xv rv xv' rv' : Value} {lack l1 : Bool} {rest r1 : List UInt8} (h : Two w wr xb rb xv rv lack rest) (hx : ReadTo 55 wr xb xv w1 xv' l1 r1) (hr : ReadTo 49 w1 rb rv w2 rv' l1 r1) :
    Two w w2 xb rb xv' rv' l1 r1 :=
  ⟨hx.now.only hr.only h.ne (fun k hk => h.xr k (hx.vblk k hk)), hr.now,
   (h.only.trans hx.only (fun i hi e => by have := h.xn; omega)).trans hr.only (fun i hi e => by have := h.rn; omega),
   h.xn, h.rn, h.ne, fun k hk => h.xr k (hx.vblk k hk), fun k hk => h.rx k (hr.vblk k hk)⟩

theorem StepsAt.later {w w' : World} {v : Value} {m : Nat} {A : Nat → Int} {N : Nat → Nat} {V : Nat → Value} {Bs : Nat → List UInt8} (h : StepsAt w v m A N V Bs) (ho : Only (fun _ => False) w w') : StepsAt w' v m A N V Bs := by
  obtain ⟨ao, cap, hv, hl, hm, hc⟩ := h.shape
  refine ⟨⟨ao, cap, hv, hl, hm, fun h0 => ?_⟩, fun i hi => (h.has i hi).only ho (fun _ _ _ h => h), h.num⟩
  obtain ⟨bb, off, e, hb, hcell⟩ := hc h0
  exact ⟨bb, off, e, Nat.lt_of_lt_of_le hb ho.size, fun i hi => ⟨ho.cell (hcell i hi).1 (fun h => h), ho.cell (hcell i hi).2.1 (fun h => h), ho.cell (hcell i hi).2.2 (fun h => h)⟩⟩

theorem Only.drewN {S : Nat → Prop} {w : World} (n : Nat) : Only S w (w.drewN n) := ⟨rfl, rfl, rfl, Nat.le_refl _, fun _ _ _ => rfl⟩
theorem Rdr.drewN {T : TypeId} {w : World} {b : Nat} {v : Value} {lack : Bool} {rest : List UInt8} (h : Rdr T w b v lack rest) (n : Nat) : Rdr T (w.drewN n) b v lack rest := h.only (Only.drewN (S := fun _ => False) n) (fun h => h) (fun _ _ h => h)
theorem Two.drewN {w wr : World} {xb rb : Nat} {xv rv : Value} {lack : Bool} {rest : List UInt8} (h : Two w wr xb rb xv rv lack rest) (n : Nat) : Two w (wr.drewN n) xb rb xv rv lack rest :=
  ⟨h.x.drewN n, h.r.drewN n, h.only.trans (Only.drewN (S := fun _ => False) n) (fun _ _ e => e), h.xn, h.rn, h.ne, h.xr, h.rx⟩

theorem Two.drew {w wr : World} {xb rb : Nat} {xv rv : Value} {lack : Bool} {rest : List UInt8} (h : Two w wr xb rb xv rv lack rest) : Two w wr.drew xb rb xv rv lack rest := h.drewN 1

theorem own_ne {base : Nat} {w : World} {u : Value} {bs : List UInt8} (h : Hid (Owns base w u bs)) : Hid (∀ k, blk u = some k → ¬ k < base) := by
  intro k hk hlt
  have := (unhide h).out.lt k (by
    rcases (unhide h).out.2 with ⟨rfl, _⟩ | ⟨g, cap, cur, rfl, _⟩
    · simp [blk] at hk
    · simpa [blk, Value.ownBlock] using hk)
  omega

set_option maxHeartbeats 4000000 in
set_option maxRecDepth 100000 in
theorem reads_any (xv lv : Value) (us : List UInt8) (m : Nat) (A : Nat → Int) (N : Nat → Nat) (V : Nat → Value) (Bs : Nat → List UInt8) (w : World) (hx : Has w xv us) (hr : us.length ≤ 140737488351232) (hl : StepsAt w lv m A N V Bs) :
    Calls Try.prog 5 #[xv, lv] w fun e w' => e = .returned (.bool true) ∧ Only (fun _ => False) w w' := by
  have HL := hide hl
  obtain ⟨lo, lc, hlv, _, _, _⟩ := hl.shape
  subst hlv
  clear hl
  obtain ⟨xo, xc, hxv, hxl, hxm⟩ := hx.shape
  subst hxv
  have HX := hide hx
  clear hx
  go_enter Try.func5, Try.ntmps5
  go_wp2_with fail
  refine (RO.newReader_any _ us _ (unhide HX) (by omega)).mono ?_
  rintro e w1 ⟨xb, rfl, xv, hx1, o1, hb1, hv1⟩
  have hbl1 : xb < w1.heap.size := lt_of_block hx1.blk
  have HX1 := hide hx1
  have HV1 := hide hv1
  clear hx1 hv1
  go_wp2_with fail
  refine (known_any w1).mono ?_
  rintro e w2 ⟨rfl, o2⟩
  have o2' := o1.trans o2 (fun _ _ e => e)
  have hs2 := o2.size
  have hbl2 : xb < w2.heap.size := Nat.lt_of_lt_of_le hbl1 hs2
  have HX2 := hide ((unhide HX1).only o2 (fun h => h) (fun _ _ h => h))
  clear HX1 o2
  go_wp2_with fail
  refine (few_any _ us us.length w2 ((unhide HX).only o2' (fun _ _ _ h => h)) (Or.inl (by omega))).mono ?_
  rintro e w3 ⟨u, rfl, own3, o3⟩
  have o3' := o2'.trans o3 (fun _ _ e => e)
  rw [List.take_of_length_le (Nat.le_refl _)] at own3
  obtain ⟨ao3, cap3, hu3⟩ := ownsRow_shape own3.out
  subst hu3
  have HX3 := hide ((unhide HX2).only o3 (fun h => h) (fun _ _ h => h))
  have HO3 := hide own3
  have hs3 := o3.size
  clear HX2 own3 o3
  go_wp2
  have T0 : Two w (w3.alloc (.cells #[.slice ao3 us.length cap3, .bool false] 49)) xb w3.heap.size xv (.slice ao3 us.length cap3) false us := by
    have hp : Only (fun _ => False) w3 (w3.alloc (.cells #[.slice ao3 us.length cap3, .bool false] 49)) := (Only.refl _ _).alloc _
    have own := (unhide HO3).out
    have hob : ∀ k, blk (.slice ao3 us.length cap3) = some k → w2.heap.size ≤ k ∧ k < w3.heap.size := by
      intro k hk
      apply own.lt k
      cases ao3 with
      | none => simp [blk] at hk
      | some a => simpa [blk, Value.ownBlock] using hk
    refine ⟨(unhide HX3).only hp (fun h => h) (fun _ _ h => h), ⟨⟨heap_alloc_new _ _, (Has.ofOwns own).only hp (fun _ _ _ h => h), fun k hk => ?_⟩, fun h => by cases h⟩, o3'.alloc _, hb1, o3'.size, ?_, fun k hk => ?_, fun k hk => ?_⟩
    · have := (hob k hk).2; omega
    · omega
    · have := (unhide HV1 k hk).2
      omega
    · have := (hob k hk).1; omega
  have HT0 := hide T0
  clear T0 HX3 HO3 o3' o2'
  go_loopg [7] 40 (fun g i wr => ∃ (k : Nat) (lack : Bool) (rest : List UInt8) (xv' rv' : Value), k + g = 40 ∧ i = .int .i64 k ∧ Two w wr xb w3.heap.size xv' rv' lack rest ∧ rest.length ≤ us.length)
  case atStart => exact ⟨0, _, _, _, _, rfl, rfl, unhide HT0, Nat.le_refl _⟩
  case round =>
    obtain ⟨k, lack, rest, xv', rv', hk, rfl, ht, hlen⟩ := hrel
    have HT := hide ht
    have HK := hide hk
    clear ht HT0 hk
    by_cases hlt : k < m ∧ k < 40
    · obtain ⟨hlt1, hlt2⟩ := hlt
      obtain ⟨lo', lc', he, _, _, hc⟩ := ((unhide HL).later (unhide HT).only).shape
      simp only [Value.slice.injEq] at he
      obtain ⟨e1, _, e2⟩ := he
      subst e1; subst e2
      obtain ⟨bb, off, e1, hbb, hcell⟩ := hc (by omega)
      subst e1
      obtain ⟨c0, c1, c2⟩ := hcell k hlt1
      clear hcell hc
      have i1 : (k : Int) < m := by omega
      have i2 : (k : Int) < 40 := by omega
      go_wp2_with fail
      refine (pick_any (A k) 6 _ (by decide) (by decide)).mono ?_
      rintro e w4 ⟨rfl, rfl⟩
      have hp : 0 ≤ A k % 6 ∧ A k % 6 < 6 := ⟨Int.emod_nonneg _ (by decide), Int.emod_lt_of_pos _ (by decide)⟩
      generalize A k % 6 = p at *
      clear c0
      have hp6 : p = 0 ∨ p = 1 ∨ p = 2 ∨ p = 3 ∨ p = 4 ∨ p = 5 := by omega
      rcases hp6 with rfl | rfl | rfl | rfl | rfl | rfl
      · clear c1 c2
        go_wp2_with fail
        refine (RO.u8_any _ _ _ _ _ (unhide HT).x (by omega)).mono ?_
        rintro e w5 ⟨rfl, xv5, h5⟩
        have HM := hide ((unhide HT).mid h5)
        have H5 := hide h5
        clear h5
        go_wp2_with fail
        refine (RR.u8_any _ _ _ _ _ (unhide HM) (by omega)).mono ?_
        rintro e w6 ⟨rfl, rv6, h6⟩
        have HT6 := hide ((unhide HT).step (unhide H5) h6)
        clear h6 H5 HM HT
        obtain ⟨l6, hl6⟩ : ∃ l6, l6 = rdLack lack rest 1 := ⟨_, rfl⟩
        obtain ⟨r6, hr6⟩ : ∃ r6, r6 = rdRest lack rest 1 := ⟨_, rfl⟩
        have hlen6 : r6.length ≤ us.length := by rw [hr6]; exact Nat.le_trans (rdRest_le _ _ _) hlen
        rw [← hl6, ← hr6] at HT6
        clear hl6 hr6
        obtain ⟨rao, rcap, hrv, _, _⟩ := (unhide HT6).r.has.shape
        subst hrv
        obtain ⟨d0, d1, g0, g1⟩ := cells_two (unhide HT6).r.blk
        go_wp2
        go_quiet (first | (go_at_call 12; exact Calls.quiet_of_same (RO.lack_any _ _ _ _ _ (Rdr.drewN (unhide HT6).x _))) | (go_at_call 13; exact Calls.quiet_of_same (RO.left_any _ _ _ _ _ (Rdr.drewN (unhide HT6).x _))))
        go_wp2
        go_roundg (gk - 1)
        case measure => have := unhide HK; omega
        case rel => exact ⟨k + 1, l6, r6, _, _, by have := unhide HK; omega, by go_num, (unhide HT6).drewN _, hlen6⟩
      · clear c1 c2
        go_wp2_with fail
        refine (RO.u16_any _ _ _ _ _ (unhide HT).x (by omega)).mono ?_
        rintro e w5 ⟨rfl, xv5, h5⟩
        have HM := hide ((unhide HT).mid h5)
        have H5 := hide h5
        clear h5
        go_wp2_with fail
        refine (RR.u16_any _ _ _ _ _ (unhide HM) (by omega)).mono ?_
        rintro e w6 ⟨rfl, rv6, h6⟩
        have HT6 := hide ((unhide HT).step (unhide H5) h6)
        clear h6 H5 HM HT
        obtain ⟨l6, hl6⟩ : ∃ l6, l6 = rdLack lack rest 2 := ⟨_, rfl⟩
        obtain ⟨r6, hr6⟩ : ∃ r6, r6 = rdRest lack rest 2 := ⟨_, rfl⟩
        have hlen6 : r6.length ≤ us.length := by rw [hr6]; exact Nat.le_trans (rdRest_le _ _ _) hlen
        rw [← hl6, ← hr6] at HT6
        clear hl6 hr6
        obtain ⟨rao, rcap, hrv, _, _⟩ := (unhide HT6).r.has.shape
        subst hrv
        obtain ⟨d0, d1, g0, g1⟩ := cells_two (unhide HT6).r.blk
        go_wp2
        go_quiet (first | (go_at_call 12; exact Calls.quiet_of_same (RO.lack_any _ _ _ _ _ (Rdr.drewN (unhide HT6).x _))) | (go_at_call 13; exact Calls.quiet_of_same (RO.left_any _ _ _ _ _ (Rdr.drewN (unhide HT6).x _))))
        go_wp2
        go_roundg (gk - 1)
        case measure => have := unhide HK; omega
        case rel => exact ⟨k + 1, l6, r6, _, _, by have := unhide HK; omega, by go_num, (unhide HT6).drewN _, hlen6⟩
      · clear c1 c2
        go_wp2_with fail
        refine (RO.u32_any _ _ _ _ _ (unhide HT).x (by omega)).mono ?_
        rintro e w5 ⟨rfl, xv5, h5⟩
        have HM := hide ((unhide HT).mid h5)
        have H5 := hide h5
        clear h5
        go_wp2_with fail
        refine (RR.u32_any _ _ _ _ _ (unhide HM) (by omega)).mono ?_
        rintro e w6 ⟨rfl, rv6, h6⟩
        have HT6 := hide ((unhide HT).step (unhide H5) h6)
        clear h6 H5 HM HT
        obtain ⟨l6, hl6⟩ : ∃ l6, l6 = rdLack lack rest 4 := ⟨_, rfl⟩
        obtain ⟨r6, hr6⟩ : ∃ r6, r6 = rdRest lack rest 4 := ⟨_, rfl⟩
        have hlen6 : r6.length ≤ us.length := by rw [hr6]; exact Nat.le_trans (rdRest_le _ _ _) hlen
        rw [← hl6, ← hr6] at HT6
        clear hl6 hr6
        obtain ⟨rao, rcap, hrv, _, _⟩ := (unhide HT6).r.has.shape
        subst hrv
        obtain ⟨d0, d1, g0, g1⟩ := cells_two (unhide HT6).r.blk
        go_wp2
        go_quiet (first | (go_at_call 12; exact Calls.quiet_of_same (RO.lack_any _ _ _ _ _ (Rdr.drewN (unhide HT6).x _))) | (go_at_call 13; exact Calls.quiet_of_same (RO.left_any _ _ _ _ _ (Rdr.drewN (unhide HT6).x _))))
        go_wp2
        go_roundg (gk - 1)
        case measure => have := unhide HK; omega
        case rel => exact ⟨k + 1, l6, r6, _, _, by have := unhide HK; omega, by go_num, (unhide HT6).drewN _, hlen6⟩
      · clear c1 c2
        go_wp2_with fail
        refine (RO.u64_any _ _ _ _ _ (unhide HT).x (by omega)).mono ?_
        rintro e w5 ⟨rfl, xv5, h5⟩
        have HM := hide ((unhide HT).mid h5)
        have H5 := hide h5
        clear h5
        go_wp2_with fail
        refine (RR.u64_any _ _ _ _ _ (unhide HM) (by omega)).mono ?_
        rintro e w6 ⟨rfl, rv6, h6⟩
        have HT6 := hide ((unhide HT).step (unhide H5) h6)
        clear h6 H5 HM HT
        obtain ⟨l6, hl6⟩ : ∃ l6, l6 = rdLack lack rest 8 := ⟨_, rfl⟩
        obtain ⟨r6, hr6⟩ : ∃ r6, r6 = rdRest lack rest 8 := ⟨_, rfl⟩
        have hlen6 : r6.length ≤ us.length := by rw [hr6]; exact Nat.le_trans (rdRest_le _ _ _) hlen
        rw [← hl6, ← hr6] at HT6
        clear hl6 hr6
        obtain ⟨rao, rcap, hrv, _, _⟩ := (unhide HT6).r.has.shape
        subst hrv
        obtain ⟨d0, d1, g0, g1⟩ := cells_two (unhide HT6).r.blk
        go_wp2
        go_quiet (first | (go_at_call 12; exact Calls.quiet_of_same (RO.lack_any _ _ _ _ _ (Rdr.drewN (unhide HT6).x _))) | (go_at_call 13; exact Calls.quiet_of_same (RO.left_any _ _ _ _ _ (Rdr.drewN (unhide HT6).x _))))
        go_wp2
        go_roundg (gk - 1)
        case measure => have := unhide HK; omega
        case rel => exact ⟨k + 1, l6, r6, _, _, by have := unhide HK; omega, by go_num, (unhide HT6).drewN _, hlen6⟩
      · clear c2
        have hN := (unhide HL).num k hlt1
        have hN2 := hN.2.2
        clear hN
        go_wp2_with fail
        refine (pick_any _ 9 _ (by decide) (by decide)).mono ?_
        rintro e w7 ⟨rfl, rfl⟩
        have hq : 0 ≤ (N k : Int) % 1000 % 9 ∧ (N k : Int) % 1000 % 9 < 9 := ⟨Int.emod_nonneg _ (by decide), Int.emod_lt_of_pos _ (by decide)⟩
        generalize (N k : Int) % 1000 % 9 = q at *
        clear c1 hN2
        go_wp2_with fail
        have hrbl := lt_of_block (unhide HT).r.blk
        go_region_with (first | (go_at_call 17; refine (RO.raw_any _ _ _ _ _ _ (unhide HT).drew.x (by omega)).mono ?_; rintro e w5 ⟨u5, rfl, own5, xv5, h5⟩; have HM := hide ((unhide HT).drew.mid h5); have H5 := hide h5; have O5 := hide own5; have hcv5 := str_conv (Has.ofOwns own5.out); clear h5 own5) | (go_at_call 37; refine (RR.raw_any _ _ _ _ _ _ (unhide HM) (by omega)).mono ?_; rintro e w6 ⟨u6, rfl, own6, rv6, h6⟩; have hcv56 := str_conv ((Has.ofOwns (unhide O5).out).only h6.only (fun _ k hk e => unhide (own_ne O5) k hk (by rw [e]; exact hrbl))); have hcv6 := str_conv (Has.ofOwns own6.out); have HT6 := hide ((unhide HT).drew.step (unhide H5) h6); clear own6 h6))
        all_goals
          obtain ⟨l6, hl6⟩ : ∃ l6, l6 = rdLack lack rest (q - 1) := ⟨_, rfl⟩
          obtain ⟨r6, hr6⟩ : ∃ r6, r6 = rdRest lack rest (q - 1) := ⟨_, rfl⟩
          have hlen6 : r6.length ≤ us.length := by rw [hr6]; exact Nat.le_trans (rdRest_le _ _ _) hlen
          rw [← hl6, ← hr6] at HT6
          clear hl6 hr6
          obtain ⟨rao, rcap, hrv, _, _⟩ := (unhide HT6).r.has.shape
          subst hrv
          obtain ⟨d0, d1, g0, g1⟩ := cells_two (unhide HT6).r.blk
          go_wp2
          go_quiet (first | (go_at_call 12; exact Calls.quiet_of_same (RO.lack_any _ _ _ _ _ (Rdr.drewN (unhide HT6).x _))) | (go_at_call 13; exact Calls.quiet_of_same (RO.left_any _ _ _ _ _ (Rdr.drewN (unhide HT6).x _))))
          go_wp2
          go_roundg (gk - 1)
          case measure => have := unhide HK; omega
          case rel => exact ⟨k + 1, l6, r6, _, _, by have := unhide HK; omega, by go_num, (unhide HT6).drewN _, hlen6⟩
      · clear c1 c2
        go_wp2_with fail
        have hrbl := lt_of_block (unhide HT).r.blk
        go_region_with (first | (go_at_call 38; refine (RO.short_any _ _ _ _ _ (unhide HT).drew.x (by omega)).mono ?_; rintro e w5 ⟨u5, rfl, own5, xv5, h5⟩; have HM := hide ((unhide HT).drew.mid h5); have H5 := hide h5; have O5 := hide own5; have hcv5 := str_conv (Has.ofOwns own5.out); clear h5 own5) | (go_at_call 39; refine (RR.short_any _ _ _ _ _ (unhide HM) (by omega)).mono ?_; rintro e w6 ⟨u6, rfl, own6, rv6, h6⟩; have hcv56 := str_conv ((Has.ofOwns (unhide O5).out).only h6.only (fun _ k hk e => unhide (own_ne O5) k hk (by rw [e]; exact hrbl))); have hcv6 := str_conv (Has.ofOwns own6.out); have HT6 := hide ((unhide HT).drew.step (unhide H5) h6); clear own6 h6))
        all_goals
          obtain ⟨l6, hl6⟩ : ∃ l6, l6 = shLack lack rest := ⟨_, rfl⟩
          obtain ⟨r6, hr6⟩ : ∃ r6, r6 = shRest lack rest := ⟨_, rfl⟩
          have hlen6 : r6.length ≤ us.length := by rw [hr6]; exact Nat.le_trans (rdRest_le _ _ _) (Nat.le_trans (rdRest_le _ _ _) hlen)
          rw [← hl6, ← hr6] at HT6
          clear hl6 hr6
          obtain ⟨rao, rcap, hrv, _, _⟩ := (unhide HT6).r.has.shape
          subst hrv
          obtain ⟨d0, d1, g0, g1⟩ := cells_two (unhide HT6).r.blk
          go_wp2
          go_quiet (first | (go_at_call 12; exact Calls.quiet_of_same (RO.lack_any _ _ _ _ _ (Rdr.drewN (unhide HT6).x _))) | (go_at_call 13; exact Calls.quiet_of_same (RO.left_any _ _ _ _ _ (Rdr.drewN (unhide HT6).x _))))
          go_wp2
          go_roundg (gk - 1)
          case measure => have := unhide HK; omega
          case rel => exact ⟨k + 1, l6, r6, _, _, by have := unhide HK; omega, by go_num, (unhide HT6).drewN _, hlen6⟩
    · have hend := (unhide HT).only
      clear HT
      by_cases hkm : k < m
      · have i1 : (k : Int) < m := by omega
        have i2 : ¬ (k : Int) < 40 := by omega
        go_wp2
        go_ret
        exact ⟨rfl, hend⟩
      · have i1 : ¬ (k : Int) < m := by omega
        go_wp2
        go_ret
        exact ⟨rfl, hend⟩

end Go.Proofs.Ytncggpejehflmaa
