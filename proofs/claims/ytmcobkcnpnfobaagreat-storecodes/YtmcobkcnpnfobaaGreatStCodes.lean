/-
  StoreCodes: any changes have their bytes, or are refused, and any bytes are changes, or refused, as the reference says.
-/
import Derived.Test.YtmcobkcnpnfobaaGreatStKnown
import Derived.Test.YtmcobkcnpnfobaaGreatStSame
import Derived.Test.YtmcobkcnpnfobaaGreatStListAll
import Derived.Test.YtmcobkcnpnfobaaGreatStKeepAll
import Derived.Test.YtmcobkcnpnfobaaGreatStRead
import Derived.Test.YtmcobkcnpnfobaaGreatHand
import Derived.Deep.DeepCutAuto
import Derived.Deep.CutBlock
namespace Go.Proofs.YtmcobkcnpnfobaaGreat
open Go.RowKit
set_option linter.unusedSimpArgs false
set_option linter.unusedVariables false
namespace St

theorem ReadAs.form {w w' : World} {e : Ending} {o : Option (List Chg)} (h : ReadAs w w' e o) : ∃ ao cap, e = .returned (.tuple #[.slice ao (o.getD []).length cap, .int .i64 (if o.isSome = true then 0 else 5)]) ∧ HasC (fun _ => True) w' (.slice ao (o.getD []).length cap) (o.getD []) := by
  cases o with
  | none =>
    obtain rfl : e = .returned (.tuple #[.slice none 0 0, .int .i64 5]) := h
    exact ⟨none, 0, rfl, hasC_nil _ _⟩
  | some l =>
    obtain ⟨v, rfl, hr⟩ := (h : ∃ v, e = .returned (.tuple #[v, .int .i64 0]) ∧ RowC _ _ w' v l)
    have hc := (hr.hasC (fun k hk => hk)).mono (R := fun _ => True) (fun _ _ _ => trivial)
    obtain ⟨ao, cap, rfl, _⟩ := hc.shape
    exact ⟨ao, cap, rfl, hc⟩
theorem read_len (b : List UInt8) : ((readChanges b).getD []).length ≤ 1000 := by
  cases h : readChanges b with
  | none => simp
  | some l => exact (lay_parts (lay_read h)).1
theorem laid_len (cs : List Chg) : ((layChanges cs).getD []).length ≤ 100000000000 := by
  cases h : layChanges cs with
  | none => simp
  | some b => have := (lay_parts h).2.2; simp only [Option.getD_some]; omega

/-- the changes that are laid -/
def CutC (w wx : World) (v : Value) : Prop := ∃ ao cap cs, v = .slice ao cs.length cap ∧ HasC (fun _ => True) wx v cs ∧ cs.length ≤ 140737488355328 ∧ Only (fun _ => False) w wx

set_option maxHeartbeats 4000000 in
set_option maxRecDepth 100000 in
theorem storeCodes_any (lv av bv : Value) (m : Nat) (X : Nat → RawV) (acs : List Chg) (which : Bool) (us : List UInt8) (how pos : Int) (y : Nat) (w : World) (hl : Raws w lv m X) (ha : HasC (fun _ => True) w av acs) (hal : acs.length ≤ 140737488355328)
    (hb : Has w bv us) (hbk : ∀ k, blk bv = some k → k < w.heap.size) (hu : us.length ≤ 140737488355328) (hh : -9223372036854775808 ≤ how ∧ how ≤ 9223372036854775807) (hp : -9223372036854775808 ≤ pos ∧ pos ≤ 9223372036854775807) (hy : y < 256) :
    Calls Tryz.prog 3 #[lv, av, .bool which, bv, .int .i64 how, .int .i64 pos, .int .u8 y] w fun e w' => e = .returned (.bool true) ∧ Only (fun _ => False) w w' := by
  have HLI := hide (list_any hl 20 (by decide))
  have HA := hide ha
  have HB := hide hb
  have HBB := hide hbk
  have HHH := hide hh
  obtain ⟨bo, bc, hbs, _⟩ := hb.shape
  obtain ⟨lo, lc, hls, _⟩ := hl.shape
  obtain ⟨ao, ac, has, _⟩ := ha.shape
  subst hbs
  subst hls
  subst has
  clear hb hl ha hbk hh
  go_enter Tryz.func3, Tryz.ntmps3
  go_wp2_with fail
  refine (unhide HLI).mono ?_
  rintro e w1 ⟨uv, cs1, rfl, hrow, hcl, hok, o1⟩
  have hhas := (hrow.hasC (fun k hk => hk)).mono (R := fun _ => True) (fun _ _ _ => trivial)
  have HH := hide hhas
  have HO1 := hide o1
  obtain ⟨uo, uc, hus, _⟩ := hhas.shape
  subst hus
  clear hrow hok hhas o1 HLI
  go_upto_if 27 with fail
  go_cut [15] (fun v wx => CutC w wx v)
  case first =>
    cases which with
    | true =>
      have HAA := hide ((unhide HA).same (unhide HO1))
      go_wp2_with fail
      go_meet
      case rel => exact ⟨ao, ac, acs, rfl, unhide HAA, hal, unhide HO1⟩
    | false =>
      go_wp2_with fail
      go_meet
      case rel => exact ⟨uo, uc, cs1, rfl, unhide HH, by omega, unhide HO1⟩
  case rest =>
    obtain ⟨co, cc, cs, rfl, hC, hcsl, oc⟩ := hcut
    have HC := hide hC
    have HOC := hide oc
    have HLA := hide (layChanges_any _ cs wc hC hcsl)
    have hbl := laid_len cs
    obtain ⟨e1, he1⟩ : ∃ e1, e1 = (if (layChanges cs).isSome = true then (0 : Int) else 1) := ⟨_, rfl⟩
    obtain ⟨bs, hbs⟩ : ∃ bs, bs = (layChanges cs).getD [] := ⟨_, rfl⟩
    rw [← hbs] at hbl
    have HE1 := hide he1
    have HBS := hide hbs
    clear he1 hbs
    clear hC oc HH HO1 hal HA hcl
    go_wp2_with fail
    refine (unhide HLA).mono ?_
    rintro e w2 ⟨hla, o2⟩
    have hfa := hla.form
    rw [← unhide HE1, ← unhide HBS] at hfa
    obtain ⟨xo, xc, rfl, hX, _⟩ := hfa
    have HX2 := hide hX
    have HO2 := hide ((unhide HOC).trans o2 (fun _ _ e => e))
    have HLB := hide (rlayChanges_any _ cs w2 ((unhide HC).same o2) hcsl)
    clear hla hX o2 HLA
    go_wp2_with fail
    refine (unhide HLB).mono ?_
    rintro e w3 ⟨hlb, o3⟩
    have hfb := hlb.form
    rw [← unhide HE1, ← unhide HBS] at hfb
    obtain ⟨yo, yc, rfl, hY, hYB⟩ := hfb
    have HY3 := hide hY
    have HO3 := hide ((unhide HO2).trans o3 (fun _ _ e => e))
    have hcx := str_conv ((unhide HX2).only o3 (fun _ _ _ e => e))
    have hcy := str_conv hY
    clear hlb hY hYB o3 HLB HX2
    by_cases hb0 : bs.length = 0
    · rw [hb0] at hcx hcy
      rw [hb0]
      have HTH : Hid (Has w3 (.slice bo us.length bc) us) := (unhide HB).only (unhide HO3) (fun _ _ _ e => e)
      have HTB : Hid (∀ k, blk (.slice bo us.length bc) = some k → k < w3.heap.size) := fun k hk => Nat.lt_of_lt_of_le (unhide HBB k hk) ((unhide HO3)).size
      have HTO : Hid (Only (fun _ => False) w w3) := (unhide HO3)
      have hul : (us).length ≤ 140737488355328 := by omega
      generalize us = ts at *
      have HR1 := hide (readChanges_any _ ts w3 (unhide HTH) hul)
      have hlen := read_len ts
      obtain ⟨e5, he5⟩ : ∃ e5, e5 = (if (readChanges ts).isSome = true then (0 : Int) else 5) := ⟨_, rfl⟩
      obtain ⟨ll, hll⟩ : ∃ ll, ll = (readChanges ts).getD [] := ⟨_, rfl⟩
      rw [← hll] at hlen
      have HE5 := hide he5
      have HLL := hide hll
      have HLEN := hide hlen
      clear he5 hll hlen
      go_wp2_with fail
      refine (unhide HR1).mono ?_
      rintro e w20 ⟨hra, o20⟩
      have hfa := hra.form
      rw [← unhide HE5, ← unhide HLL] at hfa
      obtain ⟨po, pc, rfl, hP⟩ := hfa
      have HP20 := hide hP
      have HR2 := hide (rreadChanges_any _ ts w20 ((unhide HTH).only o20 (fun _ _ _ e => e)) (fun k hk => Nat.lt_of_lt_of_le (unhide HTB k hk) o20.size) hul)
      have HO20 := hide ((unhide HTO).trans o20 (fun _ _ e => e))
      clear hra hP o20 HR1
      go_wp2_with fail
      refine (unhide HR2).mono ?_
      rintro e w21 ⟨hrb, o21⟩
      have hfb := hrb.form
      rw [← unhide HE5, ← unhide HLL] at hfb
      obtain ⟨qo, qc, rfl, hQ⟩ := hfb
      have HQ21 := hide hQ
      have HP21 := hide ((unhide HP20).same o21)
      have HO21 := hide ((unhide HO20).trans o21 (fun _ _ e => e))
      clear hrb hQ o21 HR2 HP20
      go_wp2_with fail
      refine (known_any w21).mono ?_
      rintro e w22 ⟨rfl, o22⟩
      have HSA := hide (same_any ((unhide HP21).same o22) ((unhide HQ21).same o22) (by have := unhide HLEN; omega))
      have HO22 := hide ((unhide HO21).trans o22 (fun _ _ e => e))
      clear o22
      go_wp2_with fail
      refine (unhide HSA).mono ?_
      rintro e w23 ⟨rfl, o23⟩
      have HO23 := hide ((unhide HO22).trans o23 (fun _ _ e => e))
      clear o23
      go_wp2
      go_ret
      exact ⟨by simp, unhide HO23⟩
    · have hbp : 0 < bs.length := by omega
      have hbi : (0 : Int) < bs.length := by omega
      clear hb0
      by_cases h4 : 0 < how.tmod 4
      · have H4 : Hid (decide (0 < how.tmod 4) = true) := decide_eq_true h4
        clear h4
        go_upto_if 56 with fail
        rw [unhide H4]
        have HFE := hide (few_any _ bs bs.length w3 (unhide HY3) (Or.inl (by omega)))
        rw [List.take_length] at HFE
        go_wp2_with fail
        refine (unhide HFE).mono ?_
        rintro e w4 ⟨zv, rfl, hown, o4⟩
        obtain ⟨g, zc', hzv, hg, hg2⟩ := hown.out.form hbp
        subst hzv
        have HOW := hide hown
        have HZ4 := hide (Has.ofOwns hown.out)
        have hs4 := o4.size
        have hs3 := (unhide HO3).size
        have HO4 := hide ((unhide HO3).trans o4 (fun _ _ e => e))
        clear hown o4 HFE hcx hcy HY3
        have HPI := hide (pick_any how 3 w4 (by decide) (by decide))
        go_wp2_with fail
        refine (unhide HPI).mono ?_
        rintro e w4 ⟨rfl, hw4⟩
        subst hw4
        have hq0 := Int.emod_nonneg how (by decide : (3 : Int) ≠ 0)
        have hq1 := Int.emod_lt_of_pos how (by decide : (0 : Int) < 3)
        have hqs : how % 3 = 0 ∨ how % 3 = 1 ∨ how % 3 = 2 := by omega
        generalize how % 3 = pq at *
        clear hq0 hq1
        rcases hqs with rfl | rfl | rfl
        · have HPP := hide (pick_any pos bs.length w4 (by omega) (by omega))
          go_wp2_with fail
          refine (unhide HPP).mono ?_
          rintro e w4 ⟨rfl, hw4⟩
          subst hw4
          obtain ⟨j, hj, hj2⟩ : ∃ j : Nat, pos % (bs.length : Int) = (j : Int) ∧ j < bs.length := by
            have k1 := Int.emod_nonneg pos (by omega : (bs.length : Int) ≠ 0)
            have k2 := Int.emod_lt_of_pos pos (by omega : (0 : Int) < bs.length)
            exact ⟨(pos % (bs.length : Int)).toNat, by omega, by omega⟩
          rw [hj]
          clear hj
          have hjc : w4.cell? ⟨g, j, none⟩ = some (.int .u8 ((bs[j]'hj2).toNat : Int)) := by
            have := (unhide HOW).out.cellAt j (by omega)
            rw [List.getElem?_map, List.getElem?_eq_getElem hj2] at this
            exact this
          have hjf := (unhide HOW).out.frozenAt j
          have hb1 := (bs[j]'hj2).toNat_lt
          have hx8 : bits .xor .u8 ((bs[j]'hj2).toNat : Int) (y : Int) = (((bs[j]'hj2) ^^^ UInt8.ofNat y).toNat : Int) := by
            rw [u8_xor_nat _ _ (by omega) (by omega), UInt8.toNat_xor]
            simp [Nat.mod_eq_of_lt hy]
          have HS := hide ((unhide HOW).out.stored j (bv ((bs[j]'hj2) ^^^ UInt8.ofNat y)))
          generalize (bs[j]'hj2) ^^^ UInt8.ofNat y = zz at *
          generalize (bs[j]'hj2).toNat = old at *
          obtain ⟨w5, hw5⟩ : ∃ w5, w5 = w4.setCell ⟨g, j, none⟩ (.int .u8 (zz.toNat : Int)) := ⟨_, rfl⟩
          have hst := unhide HS
          have o5 : Only (fun k => k = g) w4 w5 := by rw [hw5]; exact (Only.refl _ _).here _ _
          have H5 : Hid (Has w5 (.slice (some ⟨g, 0, none⟩) bs.length zc') (bs.set j zz)) := by
            show Has _ _ _
            rw [hw5]
            refine Has.ofOwns (base := w3.heap.size) (e := 5) (n := bs.length) ?_
            rw [List.map_set]
            exact hst.1
          have hs5 := o5.size
          have HO5 := hide ((unhide HO4).trans o5 (fun i hi e => by omega))
          have HW5 := hide hw5
          clear hst HS hw5 o5 HOW
          have HTH : Hid (Has w5 (.slice (some ⟨g, 0, none⟩) bs.length zc') (bs.set j zz)) := unhide H5
          have HTB : Hid (∀ k, blk (.slice (some ⟨g, 0, none⟩) bs.length zc') = some k → k < w5.heap.size) := fun k hk => by simp only [blk, Option.map_some, Option.some.injEq] at hk; omega
          have HTO : Hid (Only (fun _ => False) w w5) := unhide HO5
          have hul : ((bs.set j zz)).length ≤ 140737488355328 := by rw [List.length_set]; omega
          generalize (bs.set j zz) = ts at *
          have HR1 := hide (readChanges_any _ ts w5 (unhide HTH) hul)
          have hlen := read_len ts
          obtain ⟨e5, he5⟩ : ∃ e5, e5 = (if (readChanges ts).isSome = true then (0 : Int) else 5) := ⟨_, rfl⟩
          obtain ⟨ll, hll⟩ : ∃ ll, ll = (readChanges ts).getD [] := ⟨_, rfl⟩
          rw [← hll] at hlen
          have HE5 := hide he5
          have HLL := hide hll
          have HLEN := hide hlen
          clear he5 hll hlen
          go_wp2_with fail
          rw [← unhide HW5]
          refine (unhide HR1).mono ?_
          rintro e w20 ⟨hra, o20⟩
          have hfa := hra.form
          rw [← unhide HE5, ← unhide HLL] at hfa
          obtain ⟨po, pc, rfl, hP⟩ := hfa
          have HP20 := hide hP
          have HR2 := hide (rreadChanges_any _ ts w20 ((unhide HTH).only o20 (fun _ _ _ e => e)) (fun k hk => Nat.lt_of_lt_of_le (unhide HTB k hk) o20.size) hul)
          have HO20 := hide ((unhide HTO).trans o20 (fun _ _ e => e))
          clear hra hP o20 HR1
          go_wp2_with fail
          refine (unhide HR2).mono ?_
          rintro e w21 ⟨hrb, o21⟩
          have hfb := hrb.form
          rw [← unhide HE5, ← unhide HLL] at hfb
          obtain ⟨qo, qc, rfl, hQ⟩ := hfb
          have HQ21 := hide hQ
          have HP21 := hide ((unhide HP20).same o21)
          have HO21 := hide ((unhide HO20).trans o21 (fun _ _ e => e))
          clear hrb hQ o21 HR2 HP20
          go_wp2_with fail
          refine (known_any w21).mono ?_
          rintro e w22 ⟨rfl, o22⟩
          have HSA := hide (same_any ((unhide HP21).same o22) ((unhide HQ21).same o22) (by have := unhide HLEN; omega))
          have HO22 := hide ((unhide HO21).trans o22 (fun _ _ e => e))
          clear o22
          go_wp2_with fail
          refine (unhide HSA).mono ?_
          rintro e w23 ⟨rfl, o23⟩
          have HO23 := hide ((unhide HO22).trans o23 (fun _ _ e => e))
          clear o23
          go_wp2
          go_ret
          exact ⟨by simp, unhide HO23⟩
        · have HPP := hide (pick_any pos (bs.length + 1) w4 (by omega) (by omega))
          go_wp2_with fail
          refine (unhide HPP).mono ?_
          rintro e w4 ⟨rfl, hw4⟩
          subst hw4
          obtain ⟨j, hj, hj2⟩ : ∃ j : Nat, pos % ((bs.length : Int) + 1) = (j : Int) ∧ j ≤ bs.length := by
            have k1 := Int.emod_nonneg pos (by omega : ((bs.length : Int) + 1) ≠ 0)
            have k2 := Int.emod_lt_of_pos pos (by omega : (0 : Int) < (bs.length : Int) + 1)
            exact ⟨(pos % ((bs.length : Int) + 1)).toNat, by omega, by omega⟩
          rw [hj]
          clear hj
          have hzcap : bs.length ≤ zc' := by
            obtain ⟨_, _, e, h1, _⟩ := (unhide HZ4).shape
            rw [Value.slice.injEq] at e
            omega
          have hjc : (j : Int) ≤ zc' := by omega
          have HTH : Hid (Has w4 (.slice (some ⟨g, 0, none⟩) j zc') (bs.take j)) := (unhide HZ4).front (by omega)
          have HTB : Hid (∀ k, blk (.slice (some ⟨g, 0, none⟩) j zc') = some k → k < w4.heap.size) := fun k hk => by simp only [blk, Option.map_some, Option.some.injEq] at hk; omega
          have HTO : Hid (Only (fun _ => False) w w4) := unhide HO4
          have hul : ((bs.take j)).length ≤ 140737488355328 := by rw [List.length_take]; omega
          generalize (bs.take j) = ts at *
          have HR1 := hide (readChanges_any _ ts w4 (unhide HTH) hul)
          have hlen := read_len ts
          obtain ⟨e5, he5⟩ : ∃ e5, e5 = (if (readChanges ts).isSome = true then (0 : Int) else 5) := ⟨_, rfl⟩
          obtain ⟨ll, hll⟩ : ∃ ll, ll = (readChanges ts).getD [] := ⟨_, rfl⟩
          rw [← hll] at hlen
          have HE5 := hide he5
          have HLL := hide hll
          have HLEN := hide hlen
          clear he5 hll hlen
          go_wp2_with fail
          refine (unhide HR1).mono ?_
          rintro e w20 ⟨hra, o20⟩
          have hfa := hra.form
          rw [← unhide HE5, ← unhide HLL] at hfa
          obtain ⟨po, pc, rfl, hP⟩ := hfa
          have HP20 := hide hP
          have HR2 := hide (rreadChanges_any _ ts w20 ((unhide HTH).only o20 (fun _ _ _ e => e)) (fun k hk => Nat.lt_of_lt_of_le (unhide HTB k hk) o20.size) hul)
          have HO20 := hide ((unhide HTO).trans o20 (fun _ _ e => e))
          clear hra hP o20 HR1
          go_wp2_with fail
          refine (unhide HR2).mono ?_
          rintro e w21 ⟨hrb, o21⟩
          have hfb := hrb.form
          rw [← unhide HE5, ← unhide HLL] at hfb
          obtain ⟨qo, qc, rfl, hQ⟩ := hfb
          have HQ21 := hide hQ
          have HP21 := hide ((unhide HP20).same o21)
          have HO21 := hide ((unhide HO20).trans o21 (fun _ _ e => e))
          clear hrb hQ o21 HR2 HP20
          go_wp2_with fail
          refine (known_any w21).mono ?_
          rintro e w22 ⟨rfl, o22⟩
          have HSA := hide (same_any ((unhide HP21).same o22) ((unhide HQ21).same o22) (by have := unhide HLEN; omega))
          have HO22 := hide ((unhide HO21).trans o22 (fun _ _ e => e))
          clear o22
          go_wp2_with fail
          refine (unhide HSA).mono ?_
          rintro e w23 ⟨rfl, o23⟩
          have HO23 := hide ((unhide HO22).trans o23 (fun _ _ e => e))
          clear o23
          go_wp2
          go_ret
          exact ⟨by simp, unhide HO23⟩
        ·
          have HTH : Hid (Has w4 (.slice (some ⟨g, 0, none⟩) bs.length zc') bs) := unhide HZ4
          have HTB : Hid (∀ k, blk (.slice (some ⟨g, 0, none⟩) bs.length zc') = some k → k < w4.heap.size) := fun k hk => by simp only [blk, Option.map_some, Option.some.injEq] at hk; omega
          have HTO : Hid (Only (fun _ => False) w w4) := unhide HO4
          have hul : (bs).length ≤ 140737488355328 := by omega
          generalize bs = ts at *
          have HR1 := hide (readChanges_any _ ts w4 (unhide HTH) hul)
          have hlen := read_len ts
          obtain ⟨e5, he5⟩ : ∃ e5, e5 = (if (readChanges ts).isSome = true then (0 : Int) else 5) := ⟨_, rfl⟩
          obtain ⟨ll, hll⟩ : ∃ ll, ll = (readChanges ts).getD [] := ⟨_, rfl⟩
          rw [← hll] at hlen
          have HE5 := hide he5
          have HLL := hide hll
          have HLEN := hide hlen
          clear he5 hll hlen
          go_wp2_with fail
          refine (unhide HR1).mono ?_
          rintro e w20 ⟨hra, o20⟩
          have hfa := hra.form
          rw [← unhide HE5, ← unhide HLL] at hfa
          obtain ⟨po, pc, rfl, hP⟩ := hfa
          have HP20 := hide hP
          have HR2 := hide (rreadChanges_any _ ts w20 ((unhide HTH).only o20 (fun _ _ _ e => e)) (fun k hk => Nat.lt_of_lt_of_le (unhide HTB k hk) o20.size) hul)
          have HO20 := hide ((unhide HTO).trans o20 (fun _ _ e => e))
          clear hra hP o20 HR1
          go_wp2_with fail
          refine (unhide HR2).mono ?_
          rintro e w21 ⟨hrb, o21⟩
          have hfb := hrb.form
          rw [← unhide HE5, ← unhide HLL] at hfb
          obtain ⟨qo, qc, rfl, hQ⟩ := hfb
          have HQ21 := hide hQ
          have HP21 := hide ((unhide HP20).same o21)
          have HO21 := hide ((unhide HO20).trans o21 (fun _ _ e => e))
          clear hrb hQ o21 HR2 HP20
          go_wp2_with fail
          refine (known_any w21).mono ?_
          rintro e w22 ⟨rfl, o22⟩
          have HSA := hide (same_any ((unhide HP21).same o22) ((unhide HQ21).same o22) (by have := unhide HLEN; omega))
          have HO22 := hide ((unhide HO21).trans o22 (fun _ _ e => e))
          clear o22
          go_wp2_with fail
          refine (unhide HSA).mono ?_
          rintro e w23 ⟨rfl, o23⟩
          have HO23 := hide ((unhide HO22).trans o23 (fun _ _ e => e))
          clear o23
          go_wp2
          go_ret
          exact ⟨by simp, unhide HO23⟩
      · have H4 : Hid (decide (0 < how.tmod 4) = false) := decide_eq_false h4
        clear h4
        go_upto_if 56 with fail
        rw [unhide H4]
        have HTH : Hid (Has w3 (.slice bo us.length bc) us) := (unhide HB).only (unhide HO3) (fun _ _ _ e => e)
        have HTB : Hid (∀ k, blk (.slice bo us.length bc) = some k → k < w3.heap.size) := fun k hk => Nat.lt_of_lt_of_le (unhide HBB k hk) ((unhide HO3)).size
        have HTO : Hid (Only (fun _ => False) w w3) := (unhide HO3)
        have hul : (us).length ≤ 140737488355328 := by omega
        generalize us = ts at *
        have HR1 := hide (readChanges_any _ ts w3 (unhide HTH) hul)
        have hlen := read_len ts
        obtain ⟨e5, he5⟩ : ∃ e5, e5 = (if (readChanges ts).isSome = true then (0 : Int) else 5) := ⟨_, rfl⟩
        obtain ⟨ll, hll⟩ : ∃ ll, ll = (readChanges ts).getD [] := ⟨_, rfl⟩
        rw [← hll] at hlen
        have HE5 := hide he5
        have HLL := hide hll
        have HLEN := hide hlen
        clear he5 hll hlen
        go_wp2_with fail
        refine (unhide HR1).mono ?_
        rintro e w20 ⟨hra, o20⟩
        have hfa := hra.form
        rw [← unhide HE5, ← unhide HLL] at hfa
        obtain ⟨po, pc, rfl, hP⟩ := hfa
        have HP20 := hide hP
        have HR2 := hide (rreadChanges_any _ ts w20 ((unhide HTH).only o20 (fun _ _ _ e => e)) (fun k hk => Nat.lt_of_lt_of_le (unhide HTB k hk) o20.size) hul)
        have HO20 := hide ((unhide HTO).trans o20 (fun _ _ e => e))
        clear hra hP o20 HR1
        go_wp2_with fail
        refine (unhide HR2).mono ?_
        rintro e w21 ⟨hrb, o21⟩
        have hfb := hrb.form
        rw [← unhide HE5, ← unhide HLL] at hfb
        obtain ⟨qo, qc, rfl, hQ⟩ := hfb
        have HQ21 := hide hQ
        have HP21 := hide ((unhide HP20).same o21)
        have HO21 := hide ((unhide HO20).trans o21 (fun _ _ e => e))
        clear hrb hQ o21 HR2 HP20
        go_wp2_with fail
        refine (known_any w21).mono ?_
        rintro e w22 ⟨rfl, o22⟩
        have HSA := hide (same_any ((unhide HP21).same o22) ((unhide HQ21).same o22) (by have := unhide HLEN; omega))
        have HO22 := hide ((unhide HO21).trans o22 (fun _ _ e => e))
        clear o22
        go_wp2_with fail
        refine (unhide HSA).mono ?_
        rintro e w23 ⟨rfl, o23⟩
        have HO23 := hide ((unhide HO22).trans o23 (fun _ _ e => e))
        clear o23
        go_wp2
        go_ret
        exact ⟨by simp, unhide HO23⟩
end St
end Go.Proofs.YtmcobkcnpnfobaaGreat
