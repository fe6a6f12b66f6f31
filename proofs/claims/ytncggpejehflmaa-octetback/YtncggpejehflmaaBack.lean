/-
  OctetBack: the walk.
-/
import Derived.Test.YtncggpejehflmaaKnown
import Derived.Test.YtncggpejehflmaaHand
import Derived.Test.YtncggpejehflmaaArgs
import Derived.Test.YtncggpejehflmaaBackSpec
import Derived.Deep.RegionWith
namespace Go.Proofs.Ytncggpejehflmaa
open Go.RowKit
set_option linter.unusedSimpArgs false
set_option linter.unusedVariables false

/-- a writer of the call's own -/
structure Wst (w wr : World) (b : Nat) (v : Value) (bs : List UInt8) : Prop where
  now : WrAt 57 wr b v bs
  only : Only (fun _ => False) w wr
  bn : w.heap.size ≤ b
  vn : ∀ k, v.ownBlock = some k → w.heap.size ≤ k

theorem Wst.wrote {w wr w' : World} {b : Nat} {v v' : Value} {bs cs : List UInt8} (h : Wst w wr b v bs) (k : Wrote 57 wr b v w' v' cs) : Wst w w' b v' cs :=
  ⟨k.now, h.only.trans k.only (fun i hi e => by
      rcases e with e | e
      · have := h.bn; omega
      · have := h.vn i e; omega), h.bn, fun i hi => by
      rcases k.fresh i hi with e | e
      · exact h.vn i e
      · exact Nat.le_trans h.only.size e⟩

theorem Wst.later {w wr w' : World} {b : Nat} {v : Value} {bs : List UInt8} (h : Wst w wr b v bs) (k : Only (fun _ => False) wr w') : Wst w w' b v bs :=
  ⟨h.now.only k (fun h => h) (fun _ _ h => h), h.only.trans k (fun _ _ e => e), h.bn, h.vn⟩

theorem StepsAt.later' {w w' : World} {v : Value} {m : Nat} {A : Nat → Int} {N : Nat → Nat} {V : Nat → Value} {Bs : Nat → List UInt8} (h : StepsAt w v m A N V Bs) (ho : Only (fun _ => False) w w') : StepsAt w' v m A N V Bs := by
  obtain ⟨ao, cap, hv, hl, hm, hc⟩ := h.shape
  refine ⟨⟨ao, cap, hv, hl, hm, fun h0 => ?_⟩, fun i hi => (h.has i hi).only ho (fun _ _ _ h => h), h.num⟩
  obtain ⟨bb, off, e, hb, hcell⟩ := hc h0
  exact ⟨bb, off, e, Nat.lt_of_lt_of_le hb ho.size, fun i hi => ⟨ho.cell (hcell i hi).1 (fun h => h), ho.cell (hcell i hi).2.1 (fun h => h), ho.cell (hcell i hi).2.2 (fun h => h)⟩⟩

theorem own_ne {base : Nat} {w : World} {u : Value} {bs : List UInt8} (h : Hid (Owns base w u bs)) : Hid (∀ k, blk u = some k → ¬ k < base) := by
  intro k hk hlt
  have := (unhide h).out.lt k (by
    rcases (unhide h).out.2 with ⟨rfl, _⟩ | ⟨g, cap, cur, rfl, _⟩
    · simp [blk] at hk
    · simpa [blk, Value.ownBlock] using hk)
  omega

/-- a reader of the call's own that does not lack -/
structure Rst (w wr : World) (b : Nat) (v : Value) (rest : List UInt8) : Prop where
  now : Rdr 55 wr b v false rest
  only : Only (fun _ => False) w wr
  bn : w.heap.size ≤ b

theorem Rst.read {w wr w' : World} {b : Nat} {v v' : Value} {rest r' : List UInt8} (h : Rst w wr b v rest) (k : ReadTo 55 wr b v w' v' false r') : Rst w w' b v' r' :=
  ⟨k.now, h.only.trans k.only (fun i hi e => by have := h.bn; omega), h.bn⟩

theorem Rst.later {w wr w' : World} {b : Nat} {v : Value} {rest : List UInt8} (h : Rst w wr b v rest) (k : Only (fun _ => False) wr w') : Rst w w' b v rest :=
  ⟨h.now.only k (fun h => h) (fun _ _ h => h), h.only.trans k (fun _ _ e => e), h.bn⟩

theorem Rst.drew {w wr : World} {b : Nat} {v : Value} {rest : List UInt8} (h : Rst w wr b v rest) : Rst w wr.drew b v rest := by
  have ho : Only (fun _ => False) wr wr.drew := (Only.refl _ _).drew
  exact ⟨h.now.only ho (fun h => h) (fun _ _ h => h), h.only.drew, h.bn⟩

set_option maxHeartbeats 4000000 in
set_option maxRecDepth 100000 in
theorem back_any (lv : Value) (m : Nat) (A : Nat → Int) (N : Nat → Nat) (V : Nat → Value) (Bs : Nat → List UInt8) (w : World) (hl : StepsAt w lv m A N V Bs) :
    Calls Try.prog 6 #[lv] w fun e w' => e = .returned (.bool true) ∧ Only (fun _ => False) w w' := by
  have HL := hide hl
  obtain ⟨lo, lc, hlv, _, _, _⟩ := hl.shape
  subst hlv
  clear hl
  obtain ⟨f, hf⟩ : ∃ f : Nat → List UInt8, ∀ i, f i = lay (A i % 4) (N i) (Bs i) := ⟨_, fun _ => rfl⟩
  have hfl : ∀ i, (f i).length ≤ 502 := fun i => by rw [hf]; exact lay_length _ _ _
  have HF := hide hf
  have HFL := hide hfl
  clear hf hfl
  go_enter Try.func6, Try.ntmps6
  go_wp2_with fail
  refine (newWriter_any w).mono ?_
  rintro e w1 ⟨rfl, h1, o1⟩
  have HS1 := hide (show Wst w w1 w.heap.size (.slice none 0 0) [] from ⟨h1, o1, Nat.le_refl _, fun k hk => by cases hk⟩)
  clear h1 o1
  go_wp2_with fail
  refine (known_any w1).mono ?_
  rintro e w2 ⟨rfl, o2⟩
  have HS2 := hide ((unhide HS1).later o2)
  clear HS1 o2
  go_wp2
  go_loopg [4] 40 (fun g i wr => ∃ (k : Nat) (v : Value), k + g = 40 ∧ k ≤ m ∧ i = .int .i64 k ∧ Wst w wr w.heap.size v (lays f 0 k))
  case atStart => exact ⟨0, _, rfl, Nat.zero_le _, rfl, by rw [lays_zero]; exact unhide HS2⟩
  case round =>
    obtain ⟨k, v, hk, hkm, rfl, hs⟩ := hrel
    have HS := hide hs
    have HK := hide hk
    clear hs HS2 hk
    have hlen : (lays f 0 k).length ≤ 502 * k := lays_length f (unhide HFL) 0 k
    have hk40 : k ≤ 40 := by have := unhide HK; omega
    by_cases hlt : k < m ∧ k < 40
    · obtain ⟨hlt1, hlt2⟩ := hlt
      have HLr := hide ((unhide HL).later' (unhide HS).only)
      obtain ⟨lo', lc', he, _, _, hc⟩ := (unhide HLr).shape
      simp only [Value.slice.injEq] at he
      obtain ⟨e1, _, e2⟩ := he
      subst e1; subst e2
      obtain ⟨bb, off, e1, hbb, hcell⟩ := hc (by omega)
      subst e1
      obtain ⟨c0, c1, c2⟩ := hcell k hlt1
      have hN2 := ((unhide HL).num k hlt1).2.2
      clear hcell hc
      have i1 : (k : Int) < m := by omega
      have i2 : (k : Int) < 40 := by omega
      have hfk := unhide HF k
      have HSN := hide (lays_snoc f k)
      go_wp2_with fail
      refine (pick_any (A k) 4 _ (by decide) (by decide)).mono ?_
      rintro e w4 ⟨rfl, rfl⟩
      have hp : 0 ≤ A k % 4 ∧ A k % 4 < 4 := ⟨Int.emod_nonneg _ (by decide), Int.emod_lt_of_pos _ (by decide)⟩
      generalize A k % 4 = p at *
      clear c0
      have hp6 : p = 0 ∨ p = 1 ∨ p = 2 ∨ p = 3 := by omega
      rcases hp6 with rfl | rfl | rfl | rfl
      · have HE : Hid (lays f 0 k ++ be 1 (toU64 ((N k : Int) % 256)) = lays f 0 (k + 1)) := by
          show _ = _
          rw [unhide HSN, hfk]
          simp [lay, show toU64 ((N k : Int) % 256) = N k % 256 from by rw [show (N k : Int) % 256 = ((N k % 256 : Nat) : Int) by omega]; exact u64_nat _ (by omega)]
        clear c2 hfk
        go_wp2_with fail
        refine (WO.u8_any _ v _ _ _ (unhide HS).now (by omega)).mono ?_
        rintro e w5 ⟨rfl, v5, h5⟩
        have R := (unhide HS).wrote h5
        rw [unhide HE] at R
        have HR := hide R
        clear R h5 HS c1
        go_wp2
        go_roundg (gk - 1)
        case measure => have := unhide HK; omega
        case rel => exact ⟨k + 1, v5, by have := unhide HK; omega, by omega, by go_num, unhide HR⟩
      · have HE : Hid (lays f 0 k ++ be 4 (toU64 ((N k : Int) % 4294967296)) = lays f 0 (k + 1)) := by
          show _ = _
          rw [unhide HSN, hfk]
          simp [lay, show toU64 ((N k : Int) % 4294967296) = N k % 4294967296 from by rw [show (N k : Int) % 4294967296 = ((N k % 4294967296 : Nat) : Int) by omega]; exact u64_nat _ (by omega)]
        clear c2 hfk
        go_wp2_with fail
        refine (WO.u32_any _ v _ _ _ (unhide HS).now (by omega)).mono ?_
        rintro e w5 ⟨rfl, v5, h5⟩
        have R := (unhide HS).wrote h5
        rw [unhide HE] at R
        have HR := hide R
        clear R h5 HS c1
        go_wp2
        go_roundg (gk - 1)
        case measure => have := unhide HK; omega
        case rel => exact ⟨k + 1, v5, by have := unhide HK; omega, by omega, by go_num, unhide HR⟩
      · have HE : Hid (lays f 0 k ++ be 8 (N k) = lays f 0 (k + 1)) := by
          show _ = _
          rw [unhide HSN, hfk]
          simp [lay]
        clear c2 hfk
        go_wp2_with fail
        refine (WO.u64_any _ v _ _ _ hN2 (unhide HS).now (by omega)).mono ?_
        rintro e w5 ⟨rfl, v5, h5⟩
        have R := (unhide HS).wrote h5
        rw [unhide HE] at R
        have HR := hide R
        clear R h5 HS c1
        go_wp2
        go_roundg (gk - 1)
        case measure => have := unhide HK; omega
        case rel => exact ⟨k + 1, v5, by have := unhide HK; omega, by omega, by go_num, unhide HR⟩
      · have HE : Hid (lays f 0 k ++ WO.short ((Bs k).take 500) = lays f 0 (k + 1)) := by
          show _ = _
          rw [unhide HSN, hfk]
          simp [lay]
        have HH := hide ((unhide HLr).has k hlt1)
        clear c1 hfk
        go_wp2_with fail
        refine (few_any _ (Bs k) 500 _ (unhide HH) (Or.inr (by decide))).mono ?_
        rintro e w5 ⟨u5, rfl, own5, o5⟩
        have HS5 := hide ((unhide HS).later o5)
        have hl5 : ((Bs k).take 500).length ≤ 500 := List.length_take_le _ _
        have hx5 := Has.ofOwns own5.out
        have hsep : (Bs k).take 500 ≠ [] → ∀ j, blk u5 = some j → j ≠ w.heap.size ∧ v.ownBlock ≠ some j := by
          intro _ j hj
          have hjl := unhide (own_ne (hide own5)) j hj
          have h1 := lt_of_block (unhide HS).now.blk
          refine ⟨by omega, fun e => ?_⟩
          have := ((unhide HS).now.own.lt j e).2
          omega
        have HX := hide (And.intro hx5 hsep)
        clear own5 o5 hx5 hsep HS
        go_wp2_with fail
        refine (WO.short_yes _ v _ _ _ _ (unhide HX).1 (unhide HS5).now (by omega) (by omega) (unhide HX).2).mono ?_
        rintro e w6 ⟨rfl, v6, h6⟩
        have R := (unhide HS5).wrote h6
        rw [unhide HE] at R
        have HR := hide R
        clear R h6 HS5 c2
        go_wp2
        go_roundg (gk - 1)
        case measure => have := unhide HK; omega
        case rel => exact ⟨k + 1, v6, by have := unhide HK; omega, by omega, by go_num, unhide HR⟩
    · have hK : k = min m 40 := by omega
      have HKK := hide hK
      clear hK
      have hbd : (lays f 0 k).length ≤ 20080 := by omega
      have HWS := hide (unhide HS)
      clear HS hlen
      have hcases : (k < m ∧ ¬ (k : Int) < 40) ∨ ¬ (k : Int) < m := by omega
      rcases hcases with ⟨i0, i2⟩ | i1
      all_goals try (have i1 : (k : Int) < m := by omega)
      all_goals
        go_wp2_with fail
        refine (bytes_any _ v _ _ (unhide HWS).now (by omega)).mono ?_
        rintro e w5 ⟨u5, rfl, hu5⟩
        have o5 := (unhide HWS).only.trans hu5.only (fun _ _ e => e)
        have hx5 := Has.ofOwns hu5.own
        have hsh := hu5.shape
        subst hsh
        clear hu5
        go_wp2_with fail
        refine (RO.newReader_any _ _ _ hx5 (by omega)).mono ?_
        rintro e w6 ⟨rb, rfl, rv, h6, o6, hb6, _⟩
        have HR0 : Hid (Rst w w6 rb rv (lays f 0 k)) := ⟨h6, o5.trans o6 (fun _ _ e => e), Nat.le_trans o5.size hb6⟩
        clear h6 o6 hb6 o5 hx5 HWS
        go_wp2
        go_loopg [6] 40 (fun g i wr => ∃ (j : Nat) (v : Value), j + g = 40 ∧ j ≤ k ∧ i = .int .i64 j ∧ Rst w wr rb v (lays f j (k - j)))
        case atStart => exact ⟨0, _, rfl, Nat.zero_le _, rfl, unhide HR0⟩
        case round =>
          obtain ⟨j, v', hj, hjk, rfl, hr⟩ := hrel
          have HRr := hide hr
          have HJ := hide hj
          clear hr HR0 hj
          have hlj : (lays f j (k - j)).length ≤ 20080 := by have := lays_length f (unhide HFL) j (k - j); omega
          by_cases hlt : j < m ∧ j < 40
          · obtain ⟨hlt1, hlt2⟩ := hlt
            have hjk' : j < k := by have := unhide HKK; omega
            have HLr := hide ((unhide HL).later' (unhide HRr).only)
            obtain ⟨lo', lc', he, _, _, hc⟩ := (unhide HLr).shape
            simp only [Value.slice.injEq] at he
            obtain ⟨e1, _, e2⟩ := he
            subst e1; subst e2
            obtain ⟨bb, off, e1, hbb, hcell⟩ := hc (by omega)
            subst e1
            obtain ⟨c0, c1, c2⟩ := hcell j hlt1
            have hN2 := ((unhide HL).num j hlt1).2.2
            have HC1 : Hid (∀ wz, Only (fun _ => False) w wz → wz.cell? ⟨bb, off + j * 3 + 1, none⟩ = some (.int .u64 (N j))) := fun wz hz => by
              obtain ⟨lo', lc', he, _, _, hc⟩ := (unhide HL).shape
              simp only [Value.slice.injEq] at he
              obtain ⟨e1, _, e2⟩ := he
              obtain ⟨bb', off', e1', _, hcell⟩ := hc (by omega)
              rw [e1'] at e1
              simp only [Option.some.injEq, Addr.mk.injEq] at e1
              obtain ⟨rfl, rfl, _⟩ := e1
              exact hz.cell (hcell j hlt1).2.1 (fun h => h)
            have HC2 : Hid (∀ wz, Only (fun _ => False) w wz → wz.cell? ⟨bb, off + j * 3 + 2, none⟩ = some (V j)) := fun wz hz => by
              obtain ⟨lo', lc', he, _, _, hc⟩ := (unhide HL).shape
              simp only [Value.slice.injEq] at he
              obtain ⟨e1, _, e2⟩ := he
              obtain ⟨bb', off', e1', _, hcell⟩ := hc (by omega)
              rw [e1'] at e1
              simp only [Option.some.injEq, Addr.mk.injEq] at e1
              obtain ⟨rfl, rfl, _⟩ := e1
              exact hz.cell (hcell j hlt1).2.2 (fun h => h)
            clear hcell hc
            have i1 : (j : Int) < m := by omega
            have i2 : (j : Int) < 40 := by omega
            have hfj := unhide HF j
            have HLC : Hid (lays f j (k - j) = f j ++ lays f (j + 1) (k - (j + 1))) := by
              show _ = _
              rw [show k - j = (k - (j + 1)) + 1 by omega, lays_cons]
            go_wp2_with fail
            refine (pick_any (A j) 4 _ (by decide) (by decide)).mono ?_
            rintro e w7 ⟨rfl, rfl⟩
            have hp : 0 ≤ A j % 4 ∧ A j % 4 < 4 := ⟨Int.emod_nonneg _ (by decide), Int.emod_lt_of_pos _ (by decide)⟩
            generalize A j % 4 = p at *
            clear c0
            have hp6 : p = 0 ∨ p = 1 ∨ p = 2 ∨ p = 3 := by omega
            rcases hp6 with rfl | rfl | rfl | rfl
            · have HE : Hid (lays f j (k - j) = be 1 (N j % 256) ++ lays f (j + 1) (k - (j + 1))) := by
                show _ = _
                rw [unhide HLC, hfj]
                simp [lay]
              have hl2 : ((1 : Int)) = (be 1 (N j % 256)).length := by rw [be_length]; rfl
              have x1 : de (rdBytes false (lays f j (k - j)) 1) = N j % 256 := by
                rw [unhide HE, rdBytes_app _ _ _ hl2, de_be]
                exact Nat.mod_eq_of_lt (by omega)
              have x2 : rdLack false (lays f j (k - j)) 1 = false := by rw [unhide HE, rdLack_app _ _ _ hl2]
              have x3 : rdRest false (lays f j (k - j)) 1 = lays f (j + 1) (k - (j + 1)) := by rw [unhide HE, rdRest_app _ _ _ hl2]
              have HX1 := hide x1
              have HX2 := hide x2
              have HX3 := hide x3
              clear x1 x2 x3 hl2 c2 hfj
              go_wp2_with fail
              go_region_with (go_at_call 14; refine (RO.u8_any _ _ _ _ _ (unhide HRr).drew.now (by omega)).mono ?_; rintro e w8 ⟨rfl, v8, h8⟩; rw [unhide HX1]; rw [unhide HX2, unhide HX3] at h8; have HR8 := hide ((unhide HRr).drew.read h8); have c1' := unhide HC1 w8 (unhide HR8).only; clear h8)
              all_goals go_wp2
              all_goals
                go_roundg (gk - 1)
                case measure => have := unhide HJ; omega
                case rel => exact ⟨j + 1, v8, by have := unhide HJ; omega, by omega, by go_num, unhide HR8⟩
            · have HE : Hid (lays f j (k - j) = be 4 (N j % 4294967296) ++ lays f (j + 1) (k - (j + 1))) := by
                show _ = _
                rw [unhide HLC, hfj]
                simp [lay]
              have hl2 : ((4 : Int)) = (be 4 (N j % 4294967296)).length := by rw [be_length]; rfl
              have x1 : de (rdBytes false (lays f j (k - j)) 4) = N j % 4294967296 := by
                rw [unhide HE, rdBytes_app _ _ _ hl2, de_be]
                exact Nat.mod_eq_of_lt (by omega)
              have x2 : rdLack false (lays f j (k - j)) 4 = false := by rw [unhide HE, rdLack_app _ _ _ hl2]
              have x3 : rdRest false (lays f j (k - j)) 4 = lays f (j + 1) (k - (j + 1)) := by rw [unhide HE, rdRest_app _ _ _ hl2]
              have HX1 := hide x1
              have HX2 := hide x2
              have HX3 := hide x3
              clear x1 x2 x3 hl2 c2 hfj
              go_wp2_with fail
              go_region_with (go_at_call 11; refine (RO.u32_any _ _ _ _ _ (unhide HRr).drew.now (by omega)).mono ?_; rintro e w8 ⟨rfl, v8, h8⟩; rw [unhide HX1]; rw [unhide HX2, unhide HX3] at h8; have HR8 := hide ((unhide HRr).drew.read h8); have c1' := unhide HC1 w8 (unhide HR8).only; clear h8)
              all_goals go_wp2
              all_goals
                go_roundg (gk - 1)
                case measure => have := unhide HJ; omega
                case rel => exact ⟨j + 1, v8, by have := unhide HJ; omega, by omega, by go_num, unhide HR8⟩
            · have HE : Hid (lays f j (k - j) = be 8 (N j) ++ lays f (j + 1) (k - (j + 1))) := by
                show _ = _
                rw [unhide HLC, hfj]
                simp [lay]
              have hl2 : ((8 : Int)) = (be 8 (N j)).length := by rw [be_length]; rfl
              have x1 : de (rdBytes false (lays f j (k - j)) 8) = N j := by
                rw [unhide HE, rdBytes_app _ _ _ hl2, de_be]
                exact Nat.mod_eq_of_lt (by omega)
              have x2 : rdLack false (lays f j (k - j)) 8 = false := by rw [unhide HE, rdLack_app _ _ _ hl2]
              have x3 : rdRest false (lays f j (k - j)) 8 = lays f (j + 1) (k - (j + 1)) := by rw [unhide HE, rdRest_app _ _ _ hl2]
              have HX1 := hide x1
              have HX2 := hide x2
              have HX3 := hide x3
              clear x1 x2 x3 hl2 c2 hfj
              go_wp2_with fail
              go_region_with (go_at_call 35; refine (RO.u64_any _ _ _ _ _ (unhide HRr).drew.now (by omega)).mono ?_; rintro e w8 ⟨rfl, v8, h8⟩; rw [unhide HX1]; rw [unhide HX2, unhide HX3] at h8; have HR8 := hide ((unhide HRr).drew.read h8); have c1' := unhide HC1 w8 (unhide HR8).only; clear h8)
              all_goals go_wp2
              all_goals
                go_roundg (gk - 1)
                case measure => have := unhide HJ; omega
                case rel => exact ⟨j + 1, v8, by have := unhide HJ; omega, by omega, by go_num, unhide HR8⟩
            · have HE : Hid (lays f j (k - j) = WO.short ((Bs j).take 500) ++ lays f (j + 1) (k - (j + 1))) := by
                show _ = _
                rw [unhide HLC, hfj]
                simp [lay]
              have hl5 : ((Bs j).take 500).length ≤ 500 := List.length_take_le _ _
              obtain ⟨x1, x2, x3⟩ := sh_app ((Bs j).take 500) (lays f (j + 1) (k - (j + 1))) (by omega)
              rw [← unhide HE] at x1 x2 x3
              have HX1 := hide x1
              have HX2 := hide x2
              have HX3 := hide x3
              clear x1 x2 x3 c1 hfj
              have HHr := hide ((unhide HL).has j hlt1)
              go_wp2_with fail
              go_region_with (first | (go_at_call 38; refine (RO.short_any _ _ _ _ _ (unhide HRr).drew.now (by omega)).mono ?_; rintro e w8 ⟨q8, rfl, own8, v8, h8⟩; rw [unhide HX1] at own8; rw [unhide HX2, unhide HX3] at h8; have HR8 := hide ((unhide HRr).drew.read h8); have c2' := unhide HC2 w8 (unhide HR8).only; have hcv8 := str_conv (Has.ofOwns own8.out); have O8 := hide own8; clear own8 h8) | (go_at_call 31; refine (few_any _ (Bs j) 500 _ ((unhide HHr).only (unhide HR8).only (fun _ _ _ h => h)) (Or.inr (by decide))).mono ?_; rintro e w9 ⟨q9, rfl, own9, o9⟩; have hcv9 := str_conv (Has.ofOwns own9.out); have hcv89 := str_conv ((Has.ofOwns (unhide O8).out).only o9 (fun _ _ _ h => h)); have HR9 := hide ((unhide HR8).later o9); clear own9 o9))
              all_goals go_wp2
              all_goals
                go_roundg (gk - 1)
                case measure => have := unhide HJ; omega
                case rel => exact ⟨j + 1, v8, by have := unhide HJ; omega, by omega, by go_num, unhide HR9⟩
          · have hjk' : j = k := by have := unhide HKK; omega
            have hz : lays f j (k - j) = [] := by rw [hjk', Nat.sub_self, lays_zero]
            rw [hz] at HRr
            clear hz hlj
            have HJK := hide hjk'
            clear hjk'
            have hcases2 : (j < m ∧ ¬ (j : Int) < 40) ∨ ¬ (j : Int) < m := by omega
            rcases hcases2 with ⟨j0, j2⟩ | j1
            all_goals try (have j1 : (j : Int) < m := by omega)
            all_goals
              go_wp2_with fail
              refine (RO.left_any _ _ _ _ _ (unhide HRr).now).mono ?_
              rintro e w8 ⟨rfl, rfl⟩
              go_wp2_with fail
              refine (RO.lack_any _ _ _ _ _ (unhide HRr).now).mono ?_
              rintro e w9 ⟨rfl, rfl⟩
              go_wp2
              go_ret
              exact ⟨rfl, (unhide HRr).only⟩

end Go.Proofs.Ytncggpejehflmaa
