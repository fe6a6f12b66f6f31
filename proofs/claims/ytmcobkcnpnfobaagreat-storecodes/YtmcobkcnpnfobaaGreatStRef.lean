/-
  The reference's LayChanges.
-/
import Derived.Test.YtmcobkcnpnfobaaGreatStText
import Derived.Test.YtmcobkcnpnfobaaGreatRefAll
import Derived.Deep.DeepCutAuto
import Derived.Deep.CutBlock
namespace Go.Proofs.YtmcobkcnpnfobaaGreat
open Go.RowKit
set_option linter.unusedSimpArgs false
set_option linter.unusedVariables false

namespace WR
/-- a writer made since w0, none of its blocks in X -/
structure MineX (X : Nat → Prop) (w0 w : World) (b : Nat) (bs : List UInt8) : Prop where
  at' : ∃ v, WrAt 48 w b v bs ∧ ∀ k, v.ownBlock = some k → w0.heap.size ≤ k ∧ ¬ X k
  up : w0.heap.size ≤ b
  off : ¬ X b
  only : Only (fun _ => False) w0 w

theorem Mine.apart {w0 w1 w : World} {b : Nat} {bs : List UInt8} (h : Mine w0 w1 b bs) (ho : Only (fun _ => False) w1 w) (X : Nat → Prop) (hX : ∀ k, X k → w1.heap.size ≤ k) : MineX X w0 w b bs := by
  obtain ⟨v, hv, hk⟩ := h.at'
  exact ⟨⟨v, hv.only ho (fun e => e) (fun _ _ e => e), fun k e => ⟨hk k e, fun hx => by have := hX k hx; have := (hv.own.lt k e).2; omega⟩⟩, h.up, fun hx => by have := hX b hx; have := lt_of_block hv.blk; omega, h.only.trans ho (fun _ _ e => e)⟩
theorem MineX.mine {X : Nat → Prop} {w0 w : World} {b : Nat} {bs : List UInt8} (h : MineX X w0 w b bs) : Mine w0 w b bs := by
  obtain ⟨v, hv, hk⟩ := h.at'
  exact ⟨⟨v, hv, fun k e => (hk k e).1⟩, h.up, h.only⟩

theorem MineX.wrote {X : Nat → Prop} {w0 w w' : World} {b : Nat} {v v' : Value} {cs : List UInt8} (ho : Only (fun _ => False) w0 w) (hb : w0.heap.size ≤ b) (hoff : ¬ X b) (hX : ∀ k, X k → k < w.heap.size) (hk : ∀ k, v.ownBlock = some k → w0.heap.size ≤ k ∧ ¬ X k) (h : Wrote 48 w b v w' v' cs) :
    MineX X w0 w' b cs ∧ Only (fun k => w0.heap.size ≤ k ∧ ¬ X k) w w' := by
  have := ho.size
  refine ⟨⟨⟨v', h.now, fun k e => ?_⟩, hb, hoff, ho.trans h.only (fun i hi e => ?_)⟩, h.only.mono (fun i _ e => ?_)⟩
  · rcases h.fresh k e with e | e
    · exact hk k e
    · exact ⟨by omega, fun hx => by have := hX k hx; omega⟩
  · rcases e with e | e
    · omega
    · have := hk i e; omega
  · rcases e with e | e
    · subst e; exact ⟨hb, hoff⟩
    · exact hk i e

theorem mineX_short {X : Nat → Prop} {w0 w : World} {b : Nat} {bs : List UInt8} (h : MineX X w0 w b bs) (hX : ∀ k, X k → k < w.heap.size) (xv : Value) (us : List UInt8) (hx : Has w xv us) (hl : us.length ≤ 65535) (hr : bs.length + us.length + 9 ≤ 140737488355328) (hsep : us ≠ [] → ∀ k, blk xv = some k → k < w0.heap.size ∨ X k) :
    Calls Tryz.prog 20 #[.pointer (some ⟨b, 0, none⟩), xv] w fun e w' => e = .returned (.bool true) ∧ MineX X w0 w' b (bs ++ St.sh us) ∧ Only (fun k => w0.heap.size ≤ k ∧ ¬ X k) w w' := by
  obtain ⟨v, hv, hk⟩ := h.at'
  have hup := h.up
  refine (short_yes b v bs xv us w hx hv hr hl (fun hne k e => ⟨fun e2 => by subst e2; rcases hsep hne k e with e3 | e3; omega; exact h.off e3, fun e2 => by rcases hsep hne k e with e3 | e3; have := hk k e2; omega; exact (hk k e2).2 e3⟩)).mono ?_
  rintro e w' ⟨rfl, v', hw⟩
  have e1 : short us = St.sh us := by unfold short St.sh; rw [toU64_nat us.length (by omega)]
  rw [e1] at hw
  exact ⟨rfl, MineX.wrote h.only h.up h.off hX hk hw⟩
theorem mineX_u8 {X : Nat → Prop} {w0 w : World} {b : Nat} {bs : List UInt8} (h : MineX X w0 w b bs) (hX : ∀ k, X k → k < w.heap.size) (n : Nat) (hn : n < 18446744073709551616) (hr : bs.length + 9 ≤ 140737488355328) :
    Calls Tryz.prog 21 #[.pointer (some ⟨b, 0, none⟩), .int .i64 n] w fun e w' => e = .returned (.tuple #[]) ∧ MineX X w0 w' b (bs ++ be 1 n) ∧ Only (fun k => w0.heap.size ≤ k ∧ ¬ X k) w w' := by
  obtain ⟨v, hv, hk⟩ := h.at'
  refine (u8_any b v bs n w hv hr).mono ?_
  rintro e w' ⟨rfl, v', hw⟩
  rw [toU64_nat n hn] at hw
  exact ⟨rfl, MineX.wrote h.only h.up h.off hX hk hw⟩

/-- a Writer that is written out -/
theorem mine_made {w w' : World} (h : w' = w.alloc (.cells #[.slice none 0 0] 48)) : Mine w w' w.heap.size [] := by
  subst h
  exact ⟨⟨_, ⟨heap_alloc_new _ _, World.ownsRow_nil _ _ _ _⟩, fun k e => by cases e⟩, Nat.le_refl _, (Only.refl _ _).alloc _⟩
end WR

namespace St

set_option maxHeartbeats 4000000 in
set_option maxRecDepth 100000 in
theorem rlayChanges_any {Q : Nat → Prop} (xv : Value) (cs : List Chg) (w : World) (hx : HasC Q w xv cs) (hQ : cs.length ≤ 140737488355328) :
    Calls Tryz.prog 6 #[xv] w fun e w' => LaidAs w w' e (layChanges cs) ∧ Only (fun _ => False) w w' := by
  have HX := hide hx
  obtain ⟨xo, xc, hxv, hlc, hmc⟩ := hx.shape
  subst hxv
  clear hx
  have HLC : Hid (layChanges cs = if cs.length ≤ 1000 ∧ cs.all Chg.ok = true then some (layAll cs) else none) := rfl
  by_cases hbig : 1000 < cs.length
  · rw [if_neg (by omega)] at HLC
    have hb' : (1000 : Int) < cs.length := by omega
    go_enter Tryz.func6, Tryz.ntmps6
    go_wp2
    go_ret2
    rw [unhide HLC]
    exact ⟨rfl, Only.refl _ _⟩
  · have hb' : ¬ (1000 : Int) < cs.length := by omega
    obtain ⟨n, hn⟩ : ∃ n, n = cs.length := ⟨_, rfl⟩
    have HN := hide hn
    rw [← hn] at HX hlc hbig hb' HLC hQ ⊢
    clear hn
    go_enter Tryz.func6, Tryz.ntmps6
    go_wp2_with fail
    have h1 := WR.mine_made (w := w) rfl
    generalize w.alloc (.cells #[.slice none 0 0] 48) = w1 at *
    have HU := hide (WR.mine_u16 h1 n (by omega) (by simp))
    clear h1
    refine (unhide HU).mono ?_
    rintro e w2 ⟨rfl, hm2⟩
    rw [List.nil_append] at hm2
    have HM2 := hide hm2
    clear hm2 HU
    go_wp2
    go_loopw [5, 6] (fun i _ wr => ∃ k : Nat, k ≤ n ∧ i = .int .i64 k ∧ (cs.take k).all Chg.ok = true ∧ WR.Mine w wr w.heap.size (be 2 n ++ (cs.take k).flatMap Chg.lay)) (fun i _ _ => n - (intOf i).toNat)
    case atStart => exact ⟨0, Nat.zero_le _, rfl, rfl, by simpa using unhide HM2⟩
    case round =>
      obtain ⟨k, hk, rfl, hall, hm⟩ := hrel
      have HA := hide hall
      have HM := hide hm
      clear hall hm HM2
      by_cases hlt : k < n
      · have hku : k < cs.length := by have := unhide HN; omega
        have hlt' : (k : Int) < n := by omega
        obtain ⟨bb, off, x, hao, hc0, hc1, hc2, hxh, _⟩ := (unhide HX).at k hku
        subst hao
        have om := (unhide HM).only
        have d0 := om.cell hc0 (fun e => e)
        have d1 := om.cell hc1 (fun e => e)
        have d2 := om.cell hc2 (fun e => e)
        have hLL := lays_len (cs.take k) (unhide HA)
        rw [List.length_take] at hLL
        have hbl : (be 2 n ++ (cs.take k).flatMap Chg.lay).length ≤ 66000000 := by rw [List.length_append, be_length]; omega
        have HFT := hide (flat_take hku)
        have HAT := hide (all_take_ok hku (unhide HA))
        have HXH := hide hxh
        obtain ⟨c, hc⟩ : ∃ c, c = cs[k] := ⟨_, rfl⟩
        rw [← hc] at d0 d1 HFT HAT HXH
        have HAL : Hid (cs.all Chg.ok = true → c.ok = true) := fun h => by rw [hc]; exact List.all_eq_true.1 h _ (List.getElem_mem hku)
        clear hc hc0 hc1 hc2 hxh om
        obtain ⟨yo, yc, hyv, _⟩ := (unhide HXH).shape
        subst hyv
        have hB := heap_alloc_new wr (.cells #[encStr c.key, .bool c.has, .slice yo c.value.length yc] 39)
        have oA := (Only.refl (fun _ => False) wr).alloc (.cells #[encStr c.key, .bool c.has, .slice yo c.value.length yc] 39)
        obtain ⟨key, has, value⟩ := c
        simp only at d0 d1 d2 HXH hB oA
        have HOK := hide (ok_eq ⟨key, has, value⟩)
        simp only at HOK
        have hks := str_size key
        by_cases h0 : key = []
        · have hok : ¬ (⟨key, has, value⟩ : Chg).ok = true := by rw [unhide HOK, if_pos (Or.inl (by simp [h0]))]; simp
          have hke : List.isEmpty key = true := by simp [h0]
          clear h0 HOK
          rw [if_neg (fun e => hok (unhide HAL e.2))] at HLC
          have HEND := hide ((unhide HM).only.trans oA (fun _ _ e => e))
          clear hok HAL oA hB
          go_wp2
          go_ret2
          rw [unhide HLC]
          exact ⟨rfl, unhide HEND⟩
        · have hke : List.isEmpty key = false := by simp [h0]
          have h0l : 0 < key.length := List.length_pos_iff.2 h0
          by_cases h1 : 100 < key.length
          · have hok : ¬ (⟨key, has, value⟩ : Chg).ok = true := by rw [unhide HOK, if_pos (Or.inr h1)]; simp
            have h1' : (100 : Int) < key.length := by omega
            clear HOK
            rw [if_neg (fun e => hok (unhide HAL e.2))] at HLC
            have HEND := hide ((unhide HM).only.trans oA (fun _ _ e => e))
            clear hok HAL oA hB
            go_wp2
            go_ret2
            rw [unhide HLC]
            exact ⟨rfl, unhide HEND⟩
          · have h1' : ¬ (100 : Int) < key.length := by omega
            rw [if_neg (by omega)] at HOK
            by_cases h2 : 65535 < value.length
            · have hok : ¬ (⟨key, has, value⟩ : Chg).ok = true := fun h => by
                rw [unhide HOK] at h
                split at h <;> (rw [decide_eq_true_eq] at h; omega)
              have h2' : (65535 : Int) < value.length := by omega
              clear HOK
              rw [if_neg (fun e => hok (unhide HAL e.2))] at HLC
              have HEND := hide ((unhide HM).only.trans oA (fun _ _ e => e))
              clear hok HAL oA hB
              go_wp2
              go_ret2
              rw [unhide HLC]
              exact ⟨rfl, unhide HEND⟩
            · have h2' : ¬ (65535 : Int) < value.length := by omega
              cases has with
              | false =>
                by_cases h3 : 0 < value.length
                · have hok : ¬ (⟨key, false, value⟩ : Chg).ok = true := fun h => by
                    rw [unhide HOK, if_neg (by decide), decide_eq_true_eq] at h
                    omega
                  have h3' : (0 : Int) < value.length := by omega
                  clear HOK
                  rw [if_neg (fun e => hok (unhide HAL e.2))] at HLC
                  have HEND := hide ((unhide HM).only.trans oA (fun _ _ e => e))
                  clear hok HAL oA hB
                  go_wp2
                  go_ret2
                  rw [unhide HLC]
                  exact ⟨rfl, unhide HEND⟩
                · have hok : (⟨key, false, value⟩ : Chg).ok = true := by rw [unhide HOK, if_neg (by decide), decide_eq_true_eq]; omega
                  have h3' : ¬ (0 : Int) < value.length := by omega
                  have HL : Hid ((⟨key, false, value⟩ : Chg).lay = sh key ++ be 1 0) := by show _ = _; rw [be_one]; rfl
                  rw [unhide HL] at HFT
                  clear HOK
                  go_wp2_with (refine wpList_tobytes rfl (.tmp 54) rfl key rfl (by unfold maxLen; omega) ?_; intro ao cap w2 hh2 ho2 hb2)
                  have hB2 := ho2.heap hB (fun e => e)
                  have o2 := oA.trans ho2 (fun _ _ e => e)
                  have hsz := oA.size
                  have hlt2 : wr.heap.size < w2.heap.size := lt_of_block hB2
                  obtain ⟨X, hXe⟩ : ∃ X : Nat → Prop, X = fun k => wr.heap.size ≤ k ∧ k < w2.heap.size := ⟨_, rfl⟩
                  have HM2 := hide ((unhide HM).apart o2 X (by rw [hXe]; exact fun k e => e.1))
                  have HXL : Hid (∀ k, X k → k < w2.heap.size) := by show ∀ k, X k → k < w2.heap.size; rw [hXe]; exact fun k e => e.2
                  have HXB : Hid (X wr.heap.size) := by show X wr.heap.size; rw [hXe]; exact ⟨Nat.le_refl _, hlt2⟩
                  have hshl : (sh key).length = 2 + key.length := by simp [sh, be_length]
                  have HSH := hide (WR.mineX_short (unhide HM2) (unhide HXL) _ key hh2 (by omega) (by simp only [List.length_append, be_length] at hbl ⊢; omega) (fun hne j e => Or.inr (by rw [hXe]; exact ⟨by have := hb2 j e; simp at this; omega, hh2.blk_lt hne j e⟩)))
                  clear hB oA ho2 hh2 hb2 hXe
                  refine (unhide HSH).mono ?_
                  rintro e w3 ⟨rfl, hm3, o3⟩
                  have hB3 := o3.heap hB2 (fun e => e.2 (unhide HXB))
                  have HX3 : Hid (∀ k, X k → k < w3.heap.size) := fun k e => Nat.lt_of_lt_of_le (unhide HXL k e) o3.size
                  clear hB2 HSH o2 o3
                  obtain ⟨c0, c1, c2, cf⟩ := cells_3 hB3
                  have HM3 := hide hm3
                  have HB3 := hide hB3
                  clear hm3 hB3
                  have HU := hide (WR.mineX_u8 (unhide HM3) (unhide HX3) 0 (by decide) (by simp only [List.length_append, be_length] at hbl ⊢; omega))
                  rw [show ((0 : Nat) : Int) = 0 from rfl] at HU
                  go_wp2_with fail
                  refine (unhide HU).mono ?_
                  rintro e w4 ⟨rfl, hm4, _⟩
                  have HM4 := hide hm4.mine
                  clear hm4
                  go_wp2
                  go_roundw
                  case rel => exact ⟨k + 1, by omega, by go_num, (unhide HAT).2 hok, by rw [unhide HFT, ← List.append_assoc, ← List.append_assoc]; exact unhide HM4⟩
                  case measure => simp [intOf]; omega
              | true =>
                have hok : (⟨key, true, value⟩ : Chg).ok = true := by rw [unhide HOK, if_pos rfl, decide_eq_true_eq]; omega
                have HL : Hid ((⟨key, true, value⟩ : Chg).lay = sh key ++ (be 1 1 ++ sh value)) := by show _ = _; rw [be_one]; rfl
                rw [unhide HL] at HFT
                clear HOK
                go_wp2_with (refine wpList_tobytes rfl (.tmp 54) rfl key rfl (by unfold maxLen; omega) ?_; intro ao cap w2 hh2 ho2 hb2)
                have hB2 := ho2.heap hB (fun e => e)
                have o2 := oA.trans ho2 (fun _ _ e => e)
                have hsz := oA.size
                have hlt2 : wr.heap.size < w2.heap.size := lt_of_block hB2
                obtain ⟨X, hXe⟩ : ∃ X : Nat → Prop, X = fun k => wr.heap.size ≤ k ∧ k < w2.heap.size := ⟨_, rfl⟩
                have HM2 := hide ((unhide HM).apart o2 X (by rw [hXe]; exact fun k e => e.1))
                have HXL : Hid (∀ k, X k → k < w2.heap.size) := by show ∀ k, X k → k < w2.heap.size; rw [hXe]; exact fun k e => e.2
                have HXB : Hid (X wr.heap.size) := by show X wr.heap.size; rw [hXe]; exact ⟨Nat.le_refl _, hlt2⟩
                have hshl : (sh key).length = 2 + key.length := by simp [sh, be_length]
                have HSH := hide (WR.mineX_short (unhide HM2) (unhide HXL) _ key hh2 (by omega) (by simp only [List.length_append, be_length] at hbl ⊢; omega) (fun hne j e => Or.inr (by rw [hXe]; exact ⟨by have := hb2 j e; simp at this; omega, hh2.blk_lt hne j e⟩)))
                clear hB oA ho2 hh2 hb2 hXe
                refine (unhide HSH).mono ?_
                rintro e w3 ⟨rfl, hm3, o3⟩
                have hB3 := o3.heap hB2 (fun e => e.2 (unhide HXB))
                have HX3 : Hid (∀ k, X k → k < w3.heap.size) := fun k e => Nat.lt_of_lt_of_le (unhide HXL k e) o3.size
                clear hB2 HSH o2 o3
                obtain ⟨c0, c1, c2, cf⟩ := cells_3 hB3
                have HM3 := hide hm3
                have HB3 := hide hB3
                clear hm3 hB3
                have HU := hide (WR.mineX_u8 (unhide HM3) (unhide HX3) 1 (by decide) (by simp only [List.length_append, be_length] at hbl ⊢; omega))
                rw [show ((1 : Nat) : Int) = 1 from rfl] at HU
                go_wp2_with fail
                refine (unhide HU).mono ?_
                rintro e w4 ⟨rfl, hm4, o4⟩
                have hB4 := o4.heap (unhide HB3) (fun e => e.2 (unhide HXB))
                have HX4 : Hid (∀ k, X k → k < w4.heap.size) := fun k e => Nat.lt_of_lt_of_le (unhide HX3 k e) o4.size
                clear o4 c0 c1 c2 cf
                obtain ⟨c0, c1, c2, cf⟩ := cells_3 hB4
                have hx4 := (unhide HXH).only hm4.only (fun _ _ _ e => e)
                have HV := hide (WR.mineX_short hm4 (unhide HX4) _ value hx4 (by omega) (by simp only [List.length_append, be_length] at hbl ⊢; omega) (fun hne j e => Or.inl ((unhide HXH).blk_lt hne j e)))
                clear hm4 hB4 hx4
                go_wp2_with fail
                refine (unhide HV).mono ?_
                rintro e w5 ⟨rfl, hm5, _⟩
                have HM5 := hide hm5.mine
                clear hm5
                go_wp2
                go_roundw
                case rel => exact ⟨k + 1, by omega, by go_num, (unhide HAT).2 hok, by rw [unhide HFT, ← List.append_assoc, ← List.append_assoc, ← List.append_assoc]; exact unhide HM5⟩
                case measure => simp [intOf]; omega
      · obtain rfl : n = k := by omega
        have htk : cs.take n = cs := List.take_of_length_le (by have := unhide HN; omega)
        rw [htk] at HA HM
        rw [if_pos ⟨by omega, unhide HA⟩] at HLC
        obtain ⟨v, hv, hvk⟩ := (unhide HM).at'
        have hcell : wr.cell? ⟨w.heap.size, 0, none⟩ = some v := cell_of_one hv.blk
        obtain ⟨ao, cap, hsh⟩ := ownsRow_shape hv.own
        have HV := hide hv
        have HVK := hide hvk
        obtain ⟨ys, hys⟩ : ∃ ys, ys = be 2 n ++ cs.flatMap Chg.lay := ⟨_, rfl⟩
        have HYS : Hid (layAll cs = ys) := by show layAll cs = ys; rw [hys]; unfold layAll; rw [← unhide HN]
        rw [← hys] at hsh HV
        subst hsh
        have HO : Hid (Owns w.heap.size wr (.slice ao ys.length cap) ys) := by
          have := (unhide HV).own
          refine ⟨this.1, ?_⟩
          rcases this.2 with hq | ⟨g, cap', cur, hv', hg, r⟩
          · exact Or.inl hq
          · exact Or.inr ⟨g, cap', cur, hv', unhide HVK g (by rw [hv']; rfl), r⟩
        clear hv hvk hys
        go_wp2
        go_ret2
        rw [unhide HLC, unhide HYS]
        exact ⟨⟨_, rfl, unhide HO⟩, (unhide HM).only⟩
end St
end Go.Proofs.YtmcobkcnpnfobaaGreat
