/-
  locksmithlaw3's DiskFlushed, walked.
-/
import Derived.Test.YtjhcmhdekppplaaDkFlushedSpec
import Derived.Test.YtjhcmhdekppplaaDkKnown
import Derived.Test.YtjhcmhdekppplaaHandPick
import Derived.Deep.RegionHeld
import Derived.Deep.DrawnRows
namespace Go.Proofs.Ytjhcmhdekppplaa
open Go.RowKit
set_option linter.unusedSimpArgs false
set_option linter.unusedVariables false
attribute [local go_sem ↓] Go.wp_at_zero Go.wp_at_succ

theorem writes_none {w : World} {base : Nat} {v : Value} {l : Pends} {A : Nat → Prop} {dvs : List (Nat × Value)} (h : Writes w base v l A dvs) (hl : l = []) : ∃ ao cap, v = .slice ao 0 cap := by
  obtain ⟨ao, cap, e⟩ := ownsRow_shape h.own
  exact ⟨ao, cap, by rw [e, h.len, hl]; rfl⟩

theorem wz_at (k : Nat) (hk : k < 12) : (wz k)[k]? = some [] := by
  unfold wz
  rw [List.getElem?_append_right (by simp), List.length_replicate, Nat.sub_self, List.getElem?_replicate, if_pos (by omega)]

theorem zeros_made (n : Nat) : (madeCells (Value.int IntKind.u8 0).cells (n * 1)).toList = ((List.replicate n 0).map bv) := by
  rw [Nat.mul_one]
  show (madeCells #[Value.int IntKind.u8 0] n).toList = _
  rw [toList_madeCells_one]
  simp [bv]

set_option maxRecDepth 100000 in
set_option maxHeartbeats 8000000 in
theorem diskFlushed_any (lv fv : Value) (m : Nat) (X : Nat → St3) (fs : List Int) (w : World) (hs : Steps3 w lv m X) (hf : HasV w fv (fs.map (.int .i64))) :
    Calls Try.prog 5 #[lv, fv] w fun e w' => e = .returned (.bool true) ∧ Only (fun _ => False) w w' := by
  obtain ⟨i0, hi, hz0, hz1, hz2⟩ := info_parts Try.info5
  obtain ⟨lo, lc, rfl, hlc, hlm, hsc⟩ := hs.shape
  have hm' : m ≤ 9223372036854775807 := by unfold maxLen at hlm; omega
  have HFV := hide hf
  have HST := hide hs
  have HSC := hide hsc
  clear hf hs hsc hlm
  go_enter Try.func5, Try.ntmps5
  go_wp2_with fail
  refine (dks_new 12 (by decide) (by decide) w w (Only.refl _ _)).mono ?_
  rintro e w2 ⟨B, F1, rfl, h1, _, _⟩
  have H1 := hide h1
  clear h1
  go_wp2_with fail
  refine (known_any w2).mono ?_
  rintro e w3 ⟨rfl, ho3⟩
  have H3 : Hid (Dks w w3 F1 B (Dk.new 12)) := hide ((unhide H1).same ho3)
  clear ho3 H1
  go_wp2_with fail
  obtain ⟨Hw, hHw⟩ : ∃ Hw, Hw = w3.heap.size := ⟨_, rfl⟩
  have hA0 : Arr (w3.alloc (.cells ((wz 0).map strV).toArray 53)) Hw 53 ((wz 0).map strV) := by rw [hHw]; exact heap_alloc_new w3 _
  have HA0 := hide hA0
  have H4 := hide ((unhide H3).same ((Only.refl (fun _ => False) w3).alloc (.cells ((wz 0).map strV).toArray 53)))
  have hnF : ¬ F1 Hw := by rw [hHw]; exact (unhide H3).fresh_blk
  have hup : w.heap.size ≤ Hw := by rw [hHw]; exact (unhide H3).only.size
  rw [← hHw]
  clear hHw hA0 H3
  go_loopw [8] (fun i wr => ∃ (k : Nat), k ≤ 12 ∧ i = .int .i64 k ∧ Dks w wr F1 B (Dk.new 12) ∧ Arr wr Hw 53 ((wz k).map strV)) (fun i _ => 12 - (intOf i).toNat)
  case atStart => exact ⟨0, by decide, rfl, unhide H4, unhide HA0⟩
  case round =>
    obtain ⟨k, hk, rfl, hD, hA⟩ := hrel
    by_cases hlt : k < 12
    · have hlt' : (k : Int) < 12 := by omega
      have hwk : ((wz k).map strV)[k]? = some (strV []) := by rw [List.getElem?_map, wz_at k hlt]; rfl
      have HST1 := hide (wz_step k hlt)
      have HD := hide hD
      have HA := hide hA
      clear hD hA
      go_wp2_with (at_make; refine wpList_make_full _ rfl (.const (.int .i64 64)) (.const (.int .i64 64)) 28 rfl wr.heap.size 5 i0 (.int .u8 0) 1 Try.underlying28 hi hz0 hz1 .i64 .i64 64 64 64 rfl rfl rfl rfl (by rw [hz2]; omega) (by unfold maxLen; omega) (Nat.le_refl _) ?_; intro w5 own5 gr5; have ho5 : Only (fun _ => False) wr w5 := (Only.refl _ _).grown gr5 (fun k h => by cases h); rw [zeros_made] at own5; have cv5 := str_conv (Has.ofOwns (bs := z64) own5); have hA5 := (unhide HA).only ho5 (fun h => h); have hc5 := hA5.cell k (strV []) hwk; have hc51 := hc5.1; have hc52 := hc5.2; have HA5 := hide hA5; have HD5 := hide ((unhide HD).same ho5); clear hA5 hc5 own5 gr5)
      have hA6 := (unhide HA5).set k (strV z64)
      rw [← List.map_set, unhide HST1] at hA6
      have HA6 := hide hA6
      have HD6 := hide ((unhide HD5).array hnF hup k (strV z64))
      clear hA6
      go_wp2_with fail
      go_roundw
      case rel => exact ⟨k + 1, by omega, by go_num, unhide HD6, unhide HA6⟩
      case measure => simp [intOf]; omega
    · have hk12 : k = 12 := by omega
      have hk12' : (k : Int) = 12 := by omega
      rw [hk12] at hA
      rw [hk12']
      clear hk12 hk12' hk hlt
      have HD : Hid (Dks w wr F1 B (d1 X 0)) := hide hD
      have HA : Hid (Arr wr Hw 53 ((wants (w1P X 0)).map strV)) := hide hA
      clear hD hA
      go_wp2_with fail
      go_loopw [9] (fun i wr => ∃ (k : Nat) (F : Nat → Prop), k ≤ m ∧ k ≤ 30 ∧ i = .int .i64 k ∧ Dks w wr F B (d1 X k) ∧ Arr wr Hw 53 ((wants (w1P X k)).map strV) ∧ ¬ F Hw) (fun i _ => 30 - (intOf i).toNat)
      case atStart => exact ⟨0, F1, Nat.zero_le _, by decide, rfl, unhide HD, unhide HA, hnF⟩
      case round =>
        obtain ⟨n, F, hn, hn30, rfl, hD, hA, hnF2⟩ := hrel
        by_cases hlt : n < m
        · have hlt' : (n : Int) < (m : Int) := by omega
          by_cases hl30 : n < 30
          · have hl30' : (n : Int) < 30 := by omega
            obtain ⟨bb, off, rfl, hbb, hcs⟩ := unhide HSC (by omega)
            obtain ⟨s0, s1, s2, s3, s4⟩ := hcs n hlt
            have hnm := (unhide HST).nums n hlt
            obtain ⟨⟨p1, p2⟩, ⟨q1, q2⟩⟩ := hnm
            have t1 := hD.only.cell s1 (fun h => h)
            have t2 := hD.only.cell s2 (fun h => h)
            obtain ⟨hwr, hwe⟩ := d1_write X n
            obtain ⟨hmd, hmdi⟩ := mod12 (X n).place
            have hop : (one1 (X n)).1 = ((X n).place % 12).toNat := rfl
            generalize ((X n).place % 12).toNat = kk at hmd hmdi hop
            rw [hmdi] at hwr hwe
            have hmd' : (kk : Int) < 12 := by omega
            have HWR := hide hwr
            have HWE := hide hwe
            have HMI := hide hmdi
            have HD := hide hD
            have HA := hide hA
            have hwp := wants_push (w1P X n) (one1 (X n)) (by rw [hop]; exact hmd)
            rw [← w1P_succ, hop] at hwp
            have HWP := hide hwp
            have hck : ∃ cv, ((wants (w1P X n)).map strV)[kk]? = some cv := ⟨_, List.getElem?_eq_getElem (by rw [List.length_map, wants_len]; exact hmd)⟩
            obtain ⟨oldv, hold⟩ := hck
            have HOLD := hide hold
            have HS2 := hide s2
            clear hD hA hwr hwe hmdi hwp hold hcs s0 s1 s2 s3 s4 hop
            go_wp2_with fail
            refine (pick_any _ 12 _ (by decide) (by decide)).mono ?_
            rintro e w5 ⟨rfl, rfl⟩
            rw [unhide HMI]
            go_wp2_with fail
            refine (sector_any _ _ q1 q2).mono ?_
            rintro e w6 ⟨v6, rfl, hv6, hf6, ho6⟩
            have HD6 := hide ((unhide HD).same ho6)
            have HA6 := hide ((unhide HA).only ho6 (fun h => h))
            have hx6 := (unhide HD).fresh hf6
            go_wp2_with fail
            refine (dks_write (unhide HD6) (by show n ≤ 1000000; omega) _ v6 _ hv6 hx6).mono ?_
            rintro e w7 ⟨rfl, F7, h7⟩
            rw [unhide HWE]
            have HD7 := hide h7.dk
            rw [unhide HWR] at HD7
            obtain ⟨ha7, hn7⟩ := h7.arr (unhide HA6) hnF2
            have HA7 := hide ha7
            have t27 := (unhide HD7).only.cell (unhide HS2) (fun h => h)
            clear h7 hv6 hx6 hf6 ho6 ha7 HD6 HA6 HD HA t1 t2
            go_wp2_with fail
            refine (sector_any _ _ q1 q2).mono ?_
            rintro e w8 ⟨v8, rfl, hv8, hf8, ho8⟩
            have HD8 := hide ((unhide HD7).same ho8)
            have ha8 := (unhide HA7).only ho8 (fun h => h)
            obtain ⟨hc8, hz8⟩ := ha8.cell _ _ (unhide HOLD)
            have HA8 := hide ha8
            have cv8 := str_conv hv8
            clear hv8 hf8 ho8 ha8 HA7 HD7
            have hA9 := (unhide HA8).set kk (strV (S64 (X n).num))
            rw [← List.map_set] at hA9
            rw [show (wants (w1P X n)).set kk (S64 (X n).num) = wants (w1P X (n + 1)) from (unhide HWP).symm] at hA9
            have HA9 := hide hA9
            have HD9 := hide ((unhide HD8).array hn7 hup kk (strV (S64 (X n).num)))
            clear hA9
            go_wp2_with fail
            go_roundw
            case rel => exact ⟨n + 1, F7, by omega, by omega, by go_num, unhide HD9, unhide HA9, hn7⟩
            case measure => simp [intOf]; omega
          · have hl30' : ¬ (n : Int) < 30 := by omega
            obtain ⟨hfl, hfe⟩ := d1_flush X n
            have HFL := hide hfl
            have HFE := hide hfe
            have HD := hide hD
            have HA := hide hA
            clear hD hA hfl hfe
            go_wp2_with fail
            refine (dks_flush (unhide HD) (by show n ≤ 1000000; omega)).mono ?_
            rintro e w5 ⟨rfl, F5, h5⟩
            rw [unhide HFE]
            have HD5 := hide h5.dk
            rw [unhide HFL] at HD5
            obtain ⟨ha5, hn5⟩ := h5.arr (unhide HA) hnF2
            have HA5 := hide ha5
            clear h5 ha5 HD HA
            go_wp2_with fail
            obtain ⟨Ha, hHa⟩ : ∃ Ha, Ha = w5.heap.size := ⟨_, rfl⟩
            have hG0 : Arr (w5.alloc (.cells ((agains (w2P X 0)).map Value.bool).toArray 54)) Ha 54 ((agains (w2P X 0)).map .bool) := by rw [hHa]; exact heap_alloc_new w5 _
            have HG0 := hide hG0
            have H6 := hide ((unhide HD5).same ((Only.refl (fun _ => False) w5).alloc (.cells ((agains (w2P X 0)).map Value.bool).toArray 54)))
            have HA6 := hide ((unhide HA5).only ((Only.refl (fun _ => False) w5).alloc (.cells ((agains (w2P X 0)).map Value.bool).toArray 54)) (fun h => h))
            have hgF : ¬ F5 Ha := by rw [hHa]; exact (unhide HD5).fresh_blk
            have hgup : w.heap.size ≤ Ha := by rw [hHa]; exact (unhide HD5).only.size
            have hne : Ha ≠ Hw := by have := (unhide HA5).lt; omega
            rw [← hHa]
            clear hHa hG0 HD5 HA5
            go_loopw [12] (fun i wr => ∃ (j : Nat) (F : Nat → Prop), j ≤ m ∧ j ≤ 9 ∧ i = .int .i64 j ∧ Dks w wr F B (d2 X n j) ∧ Arr wr Hw 53 ((wants (w1P X n)).map strV) ∧ ¬ F Hw ∧ Arr wr Ha 54 ((agains (w2P X j)).map .bool) ∧ ¬ F Ha) (fun i _ => 9 - (intOf i).toNat)
            case atStart => exact ⟨0, F5, Nat.zero_le _, by decide, rfl, unhide H6, unhide HA6, hn5, unhide HG0, hgF⟩
            case round =>
              obtain ⟨j, F, hj, hj9, rfl, hD, hA, hnA, hG, hnG⟩ := hrel
              by_cases hlt2 : j < m
              · have hlt2' : (j : Int) < (m : Int) := by omega
                by_cases hl9 : j < 9
                · have hl9' : (j : Int) < 9 := by omega
                  obtain ⟨bb, off, rfl, hbb, hcs⟩ := unhide HSC (by omega)
                  obtain ⟨s0, s1, s2, s3, s4⟩ := hcs j hlt2
                  have hnm := (unhide HST).nums j hlt2
                  obtain ⟨⟨p1, p2⟩, ⟨q1, q2⟩⟩ := hnm
                  have t1 := hD.only.cell s1 (fun h => h)
                  have t2 := hD.only.cell s2 (fun h => h)
                  have hwr := d2_write X n j
                  obtain ⟨hmd, hmdi⟩ := mod12 (X j).num
                  have hop : (one2 (X j)).1 = ((X j).num % 12).toNat := rfl
                  generalize ((X j).num % 12).toNat = kk at hmd hmdi hop
                  rw [hmdi] at hwr
                  have hmd' : (kk : Int) < 12 := by omega
                  have HWR := hide hwr
                  have HMI := hide hmdi
                  have HD := hide hD
                  have HA := hide hA
                  have HG := hide hG
                  have hwp := agains_push (w2P X j) (one2 (X j)) (by rw [hop]; exact hmd)
                  rw [← w2P_succ, hop] at hwp
                  have HWP := hide hwp
                  have hck : ∃ cv, ((agains (w2P X j)).map Value.bool)[kk]? = some cv := ⟨_, List.getElem?_eq_getElem (by rw [List.length_map, agains_len]; exact hmd)⟩
                  obtain ⟨oldv, hold⟩ := hck
                  have HOLD := hide hold
                  clear hD hA hG hwr hmdi hwp hold hcs s0 s1 s2 s3 s4 hop
                  go_wp2_with fail
                  refine (pick_any _ 12 _ (by decide) (by decide)).mono ?_
                  rintro e w7 ⟨rfl, rfl⟩
                  rw [unhide HMI]
                  go_wp2_with fail
                  refine (sector_any _ _ p1 p2).mono ?_
                  rintro e w8 ⟨v8, rfl, hv8, hf8, ho8⟩
                  have HD8 := hide ((unhide HD).same ho8)
                  have HA8 := hide ((unhide HA).only ho8 (fun h => h))
                  have HG8 := hide ((unhide HG).only ho8 (fun h => h))
                  have hx8 := (unhide HD).fresh hf8
                  go_wp2_with fail
                  refine (dks_write (unhide HD8) (by show n + 1 + j ≤ 1000000; omega) _ v8 _ hv8 hx8).mono ?_
                  rintro e w9 ⟨rfl, F9, h9⟩
                  have HD9 := hide h9.dk
                  rw [unhide HWR] at HD9
                  obtain ⟨ha9, hnA9⟩ := h9.arr (unhide HA8) hnA
                  obtain ⟨hg9, hnG9⟩ := h9.arr (unhide HG8) hnG
                  obtain ⟨hc9, hz9⟩ := hg9.cell _ _ (unhide HOLD)
                  have hset := (Only.refl (fun k => k = Ha) w9).here kk (.bool true)
                  have hA10 := ha9.only hset (fun e => hne e.symm)
                  have hG10 := hg9.set kk (.bool true)
                  rw [← List.map_set, ← unhide HWP] at hG10
                  have HA10 := hide hA10
                  have HG10 := hide hG10
                  have HD10 := hide ((unhide HD9).array hnG9 hgup kk (.bool true))
                  clear h9 hv8 hx8 hf8 ho8 ha9 hg9 HD8 HA8 HG8 HD HA HG hA10 hG10 HD9 hset t1 t2
                  go_wp2_with fail
                  go_roundw
                  case rel => exact ⟨j + 1, F9, by omega, by omega, by go_num, unhide HD10, unhide HA10, hnA9, unhide HG10, hnG9⟩
                  case measure => simp [intOf]; omega
                · have hl9' : ¬ (j : Int) < 9 := by omega
                  have HD := hide hD
                  have HA := hide hA
                  have HG := hide hG
                  clear hD hA hG
                  go_wp2_with fail
                  refine (dks_crash' (unhide HD) (by show n + 1 + j ≤ 1000000; omega) _ fs ((unhide HFV).only (unhide HD).only (fun _ _ _ h => h)) (fun hne => (unhide HD).old (unhide HFV) (fun e => hne (List.map_eq_nil_iff.1 e)))).mono ?_
                  rintro e w9 ⟨rfl, F9, h9⟩
                  have HD9 := hide h9.dk
                  obtain ⟨ha9, hnA9⟩ := h9.arr (unhide HA) hnA
                  obtain ⟨hg9, hnG9⟩ := h9.arr (unhide HG) hnG
                  have HA9 := hide ha9
                  have HG9 := hide hg9
                  clear h9 ha9 hg9 HD HA HG
                  go_wp2_with fail
                  go_loopw [14] (fun i wr => ∃ (t : Nat), t ≤ 12 ∧ i = .int .i64 t ∧ Dks w wr F9 B ((d2 X n j).crash fs) ∧ Arr wr Hw 53 ((wants (w1P X n)).map strV) ∧ Arr wr Ha 54 ((agains (w2P X j)).map .bool)) (fun i _ => 12 - (intOf i).toNat)
                  case atStart => exact ⟨0, by decide, rfl, unhide HD9, unhide HA9, unhide HG9⟩
                  case round =>
                    obtain ⟨t, ht, rfl, hD, hA, hG⟩ := hrel
                    by_cases hlt3 : t < 12
                    · have hlt3' : (t : Int) < 12 := by omega
                      obtain ⟨ag, hag⟩ : ∃ ag, (agains (w2P X j))[t]? = some ag := ⟨_, List.getElem?_eq_getElem (by rw [agains_len]; exact hlt3)⟩
                      have hgc := fun (w' : World) (h : Arr w' Ha 54 ((agains (w2P X j)).map .bool)) => (h.cell t (.bool ag) (by rw [List.getElem?_map, hag]; rfl)).1
                      obtain ⟨wb, hwb⟩ : ∃ wb, (wants (w1P X n))[t]? = some wb := ⟨_, List.getElem?_eq_getElem (by rw [wants_len]; exact hlt3)⟩
                      have hwc := fun (w' : World) (h : Arr w' Hw 53 ((wants (w1P X n)).map strV)) => (h.cell t (strV wb) (by rw [List.getElem?_map, hwb]; rfl)).1
                      have HGC := hide hgc
                      have HWC := hide hwc
                      clear hgc hwc
                      have HD := hide hD
                      have HA := hide hA
                      have HG := hide hG
                      clear hD hA hG
                      cases ag with
                      | false =>
                        obtain ⟨hre, hrd⟩ := flushed_read X n j fs t hlt3 hag
                        rw [hwb] at hrd
                        have hrd' := Option.some.inj hrd
                        have HRE := hide hre
                        have HRD := hide hrd'
                        have HHAG := hide hag
                        have HHWB := hide hwb
                        clear hre hrd hrd' hag hwb
                        go_wp2_with fail
                        refine (dks_read (unhide HD) (by show n + 1 + j ≤ 1000000; omega) t).mono ?_
                        rintro e w10 ⟨v10, rfl, own10, ho10⟩
                        rw [unhide HRE]
                        rw [← unhide HRD] at own10
                        obtain ⟨wv, hwv⟩ : ∃ wv, wv = strV wb := ⟨_, rfl⟩
                        have cv10 : (convert 28 9 v10).run Try.prog w10.drew = .ok wv w10.drew := by rw [hwv]; exact str_conv (w := w10.drew) ((Has.ofOwns own10.out).only ((Only.refl (fun _ => False) w10).drew) (fun _ _ _ h => h))
                        have hA10 := (unhide HA).only ho10 (fun h => h)
                        have hG10 := (unhide HG).only ho10 (fun h => h)
                        have c10 : w10.drew.cell? ⟨Hw, t, none⟩ = some wv := by rw [hwv]; exact unhide HWC w10 hA10
                        have g10 : w10.drew.cell? ⟨Ha, t, none⟩ = some (.bool false) := unhide HGC w10 hG10
                        obtain ⟨wq, hwq⟩ : ∃ q, wv = .string q := ⟨str wb, hwv⟩
                        have HA10 := hide (hA10.only ((Only.refl (fun _ => False) w10).drew) (fun h => h))
                        have HG10 := hide (hG10.only ((Only.refl (fun _ => False) w10).drew) (fun h => h))
                        have HD10 := hide (((unhide HD).same ho10).same ((Only.refl (fun _ => False) w10).drew))
                        subst hwq
                        clear hA10 hG10 own10 ho10 hwv
                        go_wp2_with fail
                        refine wp_region_held_drew (S := fun w' => w'.cell? ⟨Ha, t, none⟩ = some (.bool false) ∧ w'.cell? ⟨Hw, t, none⟩ = some (.string wq) ∧ (convert 28 9 v10).run Try.prog w' = .ok (.string wq) w') (by kernel_rfl) ⟨g10, c10, cv10⟩ (fun hHeld => ?_)
                        refine wpAnyH_take (i := 0) (v := ?v1) rfl (by kernel_rfl) (by kernel_rfl) (by kernel_rfl) (fun _ _ _ h => h) (Or.inl ⟨by rfl, ?hy1⟩) (by assumption) ?rest1
                        case hy1 =>
                          intro w hSw
                          obtain ⟨hS1, hS2, hS3⟩ := hSw
                          go_simp
                          try with_reducible rfl
                        try simp only [Act.put, List.setIfInBounds_toArray, List.set_cons_zero, List.set_cons_succ, List.getElem_toArray, List.getElem_cons_succ, List.getElem_cons_zero]
                        refine wpAnyH_take (i := 1) (v := ?v2) rfl (by kernel_rfl) (by kernel_rfl) (by kernel_rfl) (fun _ _ _ h => h) (Or.inl ⟨by rfl, ?hy2⟩) (by assumption) ?rest2
                        case hy2 =>
                          intro w hSw
                          obtain ⟨hS1, hS2, hS3⟩ := hSw
                          go_simp
                          try with_reducible rfl
                        try simp only [Act.put, List.setIfInBounds_toArray, List.set_cons_zero, List.set_cons_succ, List.getElem_toArray, List.getElem_cons_succ, List.getElem_cons_zero]
                        refine wpAnyH_take (i := 2) (v := ?v3) rfl (by kernel_rfl) (by kernel_rfl) (by kernel_rfl) (fun _ _ _ h => h) (Or.inl ⟨by rfl, ?hy3⟩) (by assumption) ?rest3
                        case hy3 =>
                          intro w hSw
                          obtain ⟨hS1, hS2, hS3⟩ := hSw
                          go_simp
                          try with_reducible rfl
                        try simp only [Act.put, List.setIfInBounds_toArray, List.set_cons_zero, List.set_cons_succ, List.getElem_toArray, List.getElem_cons_succ, List.getElem_cons_zero]
                        refine wpAnyH_take (i := 3) (v := ?v4) rfl (by kernel_rfl) (by kernel_rfl) (by kernel_rfl) (fun _ _ _ h => h) (Or.inl ⟨by rfl, ?hy4⟩) (by assumption) ?rest4
                        case hy4 =>
                          intro w hSw
                          obtain ⟨hS1, hS2, hS3⟩ := hSw
                          go_simp
                          try with_reducible rfl
                        try simp only [Act.put, List.setIfInBounds_toArray, List.set_cons_zero, List.set_cons_succ, List.getElem_toArray, List.getElem_cons_succ, List.getElem_cons_zero]
                        refine wpAnyH_take (i := 4) (v := ?v5) rfl (by kernel_rfl) (by kernel_rfl) (by kernel_rfl) (fun _ _ _ h => h) (Or.inl ⟨by rfl, ?hy5⟩) (by assumption) ?rest5
                        case hy5 =>
                          intro w hSw
                          obtain ⟨hS1, hS2, hS3⟩ := hSw
                          go_simp
                          try with_reducible rfl
                        try simp only [Act.put, List.setIfInBounds_toArray, List.set_cons_zero, List.set_cons_succ, List.getElem_toArray, List.getElem_cons_succ, List.getElem_cons_zero]
                        refine wpAnyH_take (i := 5) (v := ?v6) rfl (by kernel_rfl) (by kernel_rfl) (by kernel_rfl) (fun _ _ _ h => h) (Or.inl ⟨by rfl, ?hy6⟩) (by assumption) ?rest6
                        case hy6 =>
                          intro w hSw
                          obtain ⟨hS1, hS2, hS3⟩ := hSw
                          go_simp
                          try with_reducible rfl
                        try simp only [Act.put, List.setIfInBounds_toArray, List.set_cons_zero, List.set_cons_succ, List.getElem_toArray, List.getElem_cons_succ, List.getElem_cons_zero]
                        refine wpAnyH_take (i := 6) (v := ?v7) rfl (by kernel_rfl) (by kernel_rfl) (by kernel_rfl) (fun _ _ _ h => h) (Or.inl ⟨by rfl, ?hy7⟩) (by assumption) ?rest7
                        case hy7 =>
                          intro w hSw
                          obtain ⟨hS1, hS2, hS3⟩ := hSw
                          go_simp
                          try with_reducible rfl
                        try simp only [Act.put, List.setIfInBounds_toArray, List.set_cons_zero, List.set_cons_succ, List.getElem_toArray, List.getElem_cons_succ, List.getElem_cons_zero]
                        refine wpAnyH_take (i := 7) (v := ?v8) rfl (by kernel_rfl) (by kernel_rfl) (by kernel_rfl) (fun _ _ _ h => h) (Or.inl ⟨by rfl, ?hy8⟩) (by assumption) ?rest8
                        case hy8 =>
                          intro w hSw
                          obtain ⟨hS1, hS2, hS3⟩ := hSw
                          go_simp
                          try with_reducible rfl
                        try simp only [Act.put, List.setIfInBounds_toArray, List.set_cons_zero, List.set_cons_succ, List.getElem_toArray, List.getElem_cons_succ, List.getElem_cons_zero]
                        refine wpAnyH_take (i := 8) (v := ?v9) rfl (by kernel_rfl) (by kernel_rfl) (by kernel_rfl) (fun _ _ _ h => h) (Or.inl ⟨by rfl, ?hy9⟩) (by assumption) ?rest9
                        case hy9 =>
                          intro w hSw
                          obtain ⟨hS1, hS2, hS3⟩ := hSw
                          go_simp
                          try with_reducible rfl
                        try simp only [Act.put, List.setIfInBounds_toArray, List.set_cons_zero, List.set_cons_succ, List.getElem_toArray, List.getElem_cons_succ, List.getElem_cons_zero]
                        refine wpAnyH_take (i := 9) (v := ?v10) rfl (by kernel_rfl) (by kernel_rfl) (by kernel_rfl) (fun _ _ _ h => h) (Or.inl ⟨by rfl, ?hy10⟩) (by assumption) ?rest10
                        case hy10 =>
                          intro w hSw
                          obtain ⟨hS1, hS2, hS3⟩ := hSw
                          go_simp
                          try with_reducible rfl
                        try simp only [Act.put, List.setIfInBounds_toArray, List.set_cons_zero, List.set_cons_succ, List.getElem_toArray, List.getElem_cons_succ, List.getElem_cons_zero]
                        refine wpAnyH_take (i := 10) (v := ?v11) rfl (by kernel_rfl) (by kernel_rfl) (by kernel_rfl) (fun _ _ _ h => h) (Or.inl ⟨by rfl, ?hy11⟩) (by assumption) ?rest11
                        case hy11 =>
                          intro w hSw
                          obtain ⟨hS1, hS2, hS3⟩ := hSw
                          go_simp
                          try with_reducible rfl
                        try simp only [Act.put, List.setIfInBounds_toArray, List.set_cons_zero, List.set_cons_succ, List.getElem_toArray, List.getElem_cons_succ, List.getElem_cons_zero]
                        refine wpAnyH_take (i := 11) (v := ?v12) rfl (by kernel_rfl) (by kernel_rfl) (by kernel_rfl) (fun _ _ _ h => h) (Or.inl ⟨by rfl, ?hy12⟩) (by assumption) ?rest12
                        case hy12 =>
                          intro w hSw
                          obtain ⟨hS1, hS2, hS3⟩ := hSw
                          go_simp
                          try with_reducible rfl
                        try simp only [Act.put, List.setIfInBounds_toArray, List.set_cons_zero, List.set_cons_succ, List.getElem_toArray, List.getElem_cons_succ, List.getElem_cons_zero]
                        refine wpAnyH_take (i := 12) (v := ?v13) rfl (by kernel_rfl) (by kernel_rfl) (by kernel_rfl) (fun _ _ _ h => h) (Or.inl ⟨by rfl, ?hy13⟩) (by assumption) ?rest13
                        case hy13 =>
                          intro w hSw
                          obtain ⟨hS1, hS2, hS3⟩ := hSw
                          go_simp
                          try with_reducible rfl
                        try simp only [Act.put, List.setIfInBounds_toArray, List.set_cons_zero, List.set_cons_succ, List.getElem_toArray, List.getElem_cons_succ, List.getElem_cons_zero]
                        refine wpAnyH_take (i := 13) (v := ?v14) rfl (by kernel_rfl) (by kernel_rfl) (by kernel_rfl) (fun _ _ _ h => h) (Or.inl ⟨by rfl, ?hy14⟩) (by assumption) ?rest14
                        case hy14 =>
                          intro w hSw
                          obtain ⟨hS1, hS2, hS3⟩ := hSw
                          go_simp
                          try with_reducible rfl
                        try simp only [Act.put, List.setIfInBounds_toArray, List.set_cons_zero, List.set_cons_succ, List.getElem_toArray, List.getElem_cons_succ, List.getElem_cons_zero]
                        refine wpAnyH_take (i := 14) (v := ?v15) rfl (by kernel_rfl) (by kernel_rfl) (by kernel_rfl) (fun _ _ _ h => h) (Or.inl ⟨by rfl, ?hy15⟩) (by assumption) ?rest15
                        case hy15 =>
                          intro w hSw
                          obtain ⟨hS1, hS2, hS3⟩ := hSw
                          go_simp
                          try with_reducible rfl
                        try simp only [Act.put, List.setIfInBounds_toArray, List.set_cons_zero, List.set_cons_succ, List.getElem_toArray, List.getElem_cons_succ, List.getElem_cons_zero]
                        refine wpAnyH_take (i := 15) (v := ?v16) rfl (by kernel_rfl) (by kernel_rfl) (by kernel_rfl) (fun _ _ _ h => h) (Or.inl ⟨by rfl, ?hy16⟩) (by assumption) ?rest16
                        case hy16 =>
                          intro w hSw
                          obtain ⟨hS1, hS2, hS3⟩ := hSw
                          go_simp
                          try with_reducible rfl
                        try simp only [Act.put, List.setIfInBounds_toArray, List.set_cons_zero, List.set_cons_succ, List.getElem_toArray, List.getElem_cons_succ, List.getElem_cons_zero]
                        refine wpAnyH_done (by kernel_rfl) ?_ _
                        go_wp2_with fail
                        go_roundw
                        case rel => exact ⟨t + 1, by omega, by go_num, unhide HD10, unhide HA10, unhide HG10⟩
                        case measure => simp [intOf]; omega
                      | true =>
                        have HHAG := hide hag
                        have HHWB := hide hwb
                        clear hag hwb
                        go_wp2_with fail
                        refine (dks_read (unhide HD) (by show n + 1 + j ≤ 1000000; omega) t).mono ?_
                        rintro e w10 ⟨v10, rfl, own10, ho10⟩
                        have hA10 := (unhide HA).only ho10 (fun h => h)
                        have hG10 := (unhide HG).only ho10 (fun h => h)
                        have g10 : w10.drew.cell? ⟨Ha, t, none⟩ = some (.bool true) := unhide HGC w10 hG10
                        have HA10 := hide (hA10.only ((Only.refl (fun _ => False) w10).drew) (fun h => h))
                        have HG10 := hide (hG10.only ((Only.refl (fun _ => False) w10).drew) (fun h => h))
                        have HD10 := hide (((unhide HD).same ho10).same ((Only.refl (fun _ => False) w10).drew))
                        clear hA10 hG10 own10 ho10
                        go_wp2_with fail
                        refine wp_region_held_drew (S := fun w' => w'.cell? ⟨Ha, t, none⟩ = some (.bool true)) (by kernel_rfl) g10 (fun hHeld => ?_)
                        refine wpAnyH_take (i := 0) (v := ?v17) rfl (by kernel_rfl) (by kernel_rfl) (by kernel_rfl) (fun _ _ _ h => h) (Or.inl ⟨by rfl, ?hy17⟩) (by assumption) ?rest17
                        case hy17 =>
                          intro w hSw
                          go_simp
                          try with_reducible rfl
                        try simp only [Act.put, List.setIfInBounds_toArray, List.set_cons_zero, List.set_cons_succ, List.getElem_toArray, List.getElem_cons_succ, List.getElem_cons_zero]
                        refine wpAnyH_take (i := 1) (v := ?v18) rfl (by kernel_rfl) (by kernel_rfl) (by kernel_rfl) (fun _ _ _ h => h) (Or.inl ⟨by rfl, ?hy18⟩) (by assumption) ?rest18
                        case hy18 =>
                          intro w hSw
                          go_simp
                          try with_reducible rfl
                        try simp only [Act.put, List.setIfInBounds_toArray, List.set_cons_zero, List.set_cons_succ, List.getElem_toArray, List.getElem_cons_succ, List.getElem_cons_zero]
                        refine wpAnyH_take (i := 2) (v := ?v19) rfl (by kernel_rfl) (by kernel_rfl) (by kernel_rfl) (fun _ _ _ h => h) (Or.inl ⟨by rfl, ?hy19⟩) (by assumption) ?rest19
                        case hy19 =>
                          intro w hSw
                          go_simp
                          try with_reducible rfl
                        try simp only [Act.put, List.setIfInBounds_toArray, List.set_cons_zero, List.set_cons_succ, List.getElem_toArray, List.getElem_cons_succ, List.getElem_cons_zero]
                        refine wpAnyH_take (i := 3) (v := ?v20) rfl (by kernel_rfl) (by kernel_rfl) (by kernel_rfl) (fun _ _ _ h => h) (Or.inl ⟨by rfl, ?hy20⟩) (by assumption) ?rest20
                        case hy20 =>
                          intro w hSw
                          go_simp
                          try with_reducible rfl
                        try simp only [Act.put, List.setIfInBounds_toArray, List.set_cons_zero, List.set_cons_succ, List.getElem_toArray, List.getElem_cons_succ, List.getElem_cons_zero]
                        refine wpAnyH_take (i := 4) (v := ?v21) rfl (by kernel_rfl) (by kernel_rfl) (by kernel_rfl) (fun _ _ _ h => h) (Or.inl ⟨by rfl, ?hy21⟩) (by assumption) ?rest21
                        case hy21 =>
                          intro w hSw
                          go_simp
                          try with_reducible rfl
                        try simp only [Act.put, List.setIfInBounds_toArray, List.set_cons_zero, List.set_cons_succ, List.getElem_toArray, List.getElem_cons_succ, List.getElem_cons_zero]
                        refine wpAnyH_take (i := 5) (v := undef) rfl (by kernel_rfl) (by kernel_rfl) (by kernel_rfl) (fun _ _ _ h => h) (Or.inr ⟨by rfl, rfl⟩) (by assumption) ?_
                        try simp only [Act.put, List.setIfInBounds_toArray, List.set_cons_zero, List.set_cons_succ, List.getElem_toArray, List.getElem_cons_succ, List.getElem_cons_zero]
                        refine wpAnyH_take (i := 6) (v := undef) rfl (by kernel_rfl) (by kernel_rfl) (by kernel_rfl) (fun _ _ _ h => h) (Or.inr ⟨by rfl, rfl⟩) (by assumption) ?_
                        try simp only [Act.put, List.setIfInBounds_toArray, List.set_cons_zero, List.set_cons_succ, List.getElem_toArray, List.getElem_cons_succ, List.getElem_cons_zero]
                        refine wpAnyH_take (i := 7) (v := undef) rfl (by kernel_rfl) (by kernel_rfl) (by kernel_rfl) (fun _ _ _ h => h) (Or.inr ⟨by rfl, rfl⟩) (by assumption) ?_
                        try simp only [Act.put, List.setIfInBounds_toArray, List.set_cons_zero, List.set_cons_succ, List.getElem_toArray, List.getElem_cons_succ, List.getElem_cons_zero]
                        refine wpAnyH_take (i := 8) (v := undef) rfl (by kernel_rfl) (by kernel_rfl) (by kernel_rfl) (fun _ _ _ h => h) (Or.inr ⟨by rfl, rfl⟩) (by assumption) ?_
                        try simp only [Act.put, List.setIfInBounds_toArray, List.set_cons_zero, List.set_cons_succ, List.getElem_toArray, List.getElem_cons_succ, List.getElem_cons_zero]
                        refine wpAnyH_take (i := 9) (v := undef) rfl (by kernel_rfl) (by kernel_rfl) (by kernel_rfl) (fun _ _ _ h => h) (Or.inr ⟨by rfl, rfl⟩) (by assumption) ?_
                        try simp only [Act.put, List.setIfInBounds_toArray, List.set_cons_zero, List.set_cons_succ, List.getElem_toArray, List.getElem_cons_succ, List.getElem_cons_zero]
                        refine wpAnyH_take (i := 10) (v := undef) rfl (by kernel_rfl) (by kernel_rfl) (by kernel_rfl) (fun _ _ _ h => h) (Or.inr ⟨by rfl, rfl⟩) (by assumption) ?_
                        try simp only [Act.put, List.setIfInBounds_toArray, List.set_cons_zero, List.set_cons_succ, List.getElem_toArray, List.getElem_cons_succ, List.getElem_cons_zero]
                        refine wpAnyH_take (i := 11) (v := undef) rfl (by kernel_rfl) (by kernel_rfl) (by kernel_rfl) (fun _ _ _ h => h) (Or.inr ⟨by rfl, rfl⟩) (by assumption) ?_
                        try simp only [Act.put, List.setIfInBounds_toArray, List.set_cons_zero, List.set_cons_succ, List.getElem_toArray, List.getElem_cons_succ, List.getElem_cons_zero]
                        refine wpAnyH_take (i := 12) (v := undef) rfl (by kernel_rfl) (by kernel_rfl) (by kernel_rfl) (fun _ _ _ h => h) (Or.inr ⟨by rfl, rfl⟩) (by assumption) ?_
                        try simp only [Act.put, List.setIfInBounds_toArray, List.set_cons_zero, List.set_cons_succ, List.getElem_toArray, List.getElem_cons_succ, List.getElem_cons_zero]
                        refine wpAnyH_take (i := 13) (v := undef) rfl (by kernel_rfl) (by kernel_rfl) (by kernel_rfl) (fun _ _ _ h => h) (Or.inr ⟨by rfl, rfl⟩) (by assumption) ?_
                        try simp only [Act.put, List.setIfInBounds_toArray, List.set_cons_zero, List.set_cons_succ, List.getElem_toArray, List.getElem_cons_succ, List.getElem_cons_zero]
                        refine wpAnyH_take (i := 14) (v := undef) rfl (by kernel_rfl) (by kernel_rfl) (by kernel_rfl) (fun _ _ _ h => h) (Or.inr ⟨by rfl, rfl⟩) (by assumption) ?_
                        try simp only [Act.put, List.setIfInBounds_toArray, List.set_cons_zero, List.set_cons_succ, List.getElem_toArray, List.getElem_cons_succ, List.getElem_cons_zero]
                        refine wpAnyH_take (i := 15) (v := ?v22) rfl (by kernel_rfl) (by kernel_rfl) (by kernel_rfl) (fun _ _ _ h => h) (Or.inl ⟨by rfl, ?hy22⟩) (by assumption) ?rest22
                        case hy22 =>
                          intro w hSw
                          go_simp
                          try with_reducible rfl
                        try simp only [Act.put, List.setIfInBounds_toArray, List.set_cons_zero, List.set_cons_succ, List.getElem_toArray, List.getElem_cons_succ, List.getElem_cons_zero]
                        refine wpAnyH_done (by kernel_rfl) ?_ _
                        go_wp2_with fail
                        go_roundw
                        case rel => exact ⟨t + 1, by omega, by go_num, unhide HD10, unhide HA10, unhide HG10⟩
                        case measure => simp [intOf]; omega
                    · have ht12 : ¬ (t : Int) < 12 := by omega
                      have HD := hide hD
                      clear hD hA hG
                      go_wp2_with fail
                      refine (dks_pending (unhide HD) (by show n + 1 + j ≤ 1000000; omega)).mono ?_
                      rintro e w11 ⟨vp, dvs, rfl, hp11, ho11⟩
                      obtain ⟨ap, cp, rfl⟩ := writes_none hp11 rfl
                      have HD11 := hide ((unhide HD).same ho11)
                      clear hp11 ho11
                      go_wp2_with fail
                      refine (dks_down (unhide HD11)).mono ?_
                      rintro e w12 ⟨rfl, rfl⟩
                      rw [show ((d2 X n j).crash fs).down = false from rfl]
                      go_wp2_with fail
                      go_ret
                      exact ⟨rfl, (unhide HD11).only⟩
              · have hlt2' : ¬ (j : Int) < (m : Int) := by omega
                have HD := hide hD
                have HA := hide hA
                have HG := hide hG
                clear hD hA hG
                go_wp2_with fail
                refine (dks_crash' (unhide HD) (by show n + 1 + j ≤ 1000000; omega) _ fs ((unhide HFV).only (unhide HD).only (fun _ _ _ h => h)) (fun hne => (unhide HD).old (unhide HFV) (fun e => hne (List.map_eq_nil_iff.1 e)))).mono ?_
                rintro e w9 ⟨rfl, F9, h9⟩
                have HD9 := hide h9.dk
                obtain ⟨ha9, hnA9⟩ := h9.arr (unhide HA) hnA
                obtain ⟨hg9, hnG9⟩ := h9.arr (unhide HG) hnG
                have HA9 := hide ha9
                have HG9 := hide hg9
                clear h9 ha9 hg9 HD HA HG
                go_wp2_with fail
                go_loopw [14] (fun i wr => ∃ (t : Nat), t ≤ 12 ∧ i = .int .i64 t ∧ Dks w wr F9 B ((d2 X n j).crash fs) ∧ Arr wr Hw 53 ((wants (w1P X n)).map strV) ∧ Arr wr Ha 54 ((agains (w2P X j)).map .bool)) (fun i _ => 12 - (intOf i).toNat)
                case atStart => exact ⟨0, by decide, rfl, unhide HD9, unhide HA9, unhide HG9⟩
                case round =>
                  obtain ⟨t, ht, rfl, hD, hA, hG⟩ := hrel
                  by_cases hlt3 : t < 12
                  · have hlt3' : (t : Int) < 12 := by omega
                    obtain ⟨ag, hag⟩ : ∃ ag, (agains (w2P X j))[t]? = some ag := ⟨_, List.getElem?_eq_getElem (by rw [agains_len]; exact hlt3)⟩
                    have hgc := fun (w' : World) (h : Arr w' Ha 54 ((agains (w2P X j)).map .bool)) => (h.cell t (.bool ag) (by rw [List.getElem?_map, hag]; rfl)).1
                    obtain ⟨wb, hwb⟩ : ∃ wb, (wants (w1P X n))[t]? = some wb := ⟨_, List.getElem?_eq_getElem (by rw [wants_len]; exact hlt3)⟩
                    have hwc := fun (w' : World) (h : Arr w' Hw 53 ((wants (w1P X n)).map strV)) => (h.cell t (strV wb) (by rw [List.getElem?_map, hwb]; rfl)).1
                    have HGC := hide hgc
                    have HWC := hide hwc
                    clear hgc hwc
                    have HD := hide hD
                    have HA := hide hA
                    have HG := hide hG
                    clear hD hA hG
                    cases ag with
                    | false =>
                      obtain ⟨hre, hrd⟩ := flushed_read X n j fs t hlt3 hag
                      rw [hwb] at hrd
                      have hrd' := Option.some.inj hrd
                      have HRE := hide hre
                      have HRD := hide hrd'
                      have HHAG := hide hag
                      have HHWB := hide hwb
                      clear hre hrd hrd' hag hwb
                      go_wp2_with fail
                      refine (dks_read (unhide HD) (by show n + 1 + j ≤ 1000000; omega) t).mono ?_
                      rintro e w10 ⟨v10, rfl, own10, ho10⟩
                      rw [unhide HRE]
                      rw [← unhide HRD] at own10
                      obtain ⟨wv, hwv⟩ : ∃ wv, wv = strV wb := ⟨_, rfl⟩
                      have cv10 : (convert 28 9 v10).run Try.prog w10.drew = .ok wv w10.drew := by rw [hwv]; exact str_conv (w := w10.drew) ((Has.ofOwns own10.out).only ((Only.refl (fun _ => False) w10).drew) (fun _ _ _ h => h))
                      have hA10 := (unhide HA).only ho10 (fun h => h)
                      have hG10 := (unhide HG).only ho10 (fun h => h)
                      have c10 : w10.drew.cell? ⟨Hw, t, none⟩ = some wv := by rw [hwv]; exact unhide HWC w10 hA10
                      have g10 : w10.drew.cell? ⟨Ha, t, none⟩ = some (.bool false) := unhide HGC w10 hG10
                      obtain ⟨wq, hwq⟩ : ∃ q, wv = .string q := ⟨str wb, hwv⟩
                      have HA10 := hide (hA10.only ((Only.refl (fun _ => False) w10).drew) (fun h => h))
                      have HG10 := hide (hG10.only ((Only.refl (fun _ => False) w10).drew) (fun h => h))
                      have HD10 := hide (((unhide HD).same ho10).same ((Only.refl (fun _ => False) w10).drew))
                      subst hwq
                      clear hA10 hG10 own10 ho10 hwv
                      go_wp2_with fail
                      refine wp_region_held_drew (S := fun w' => w'.cell? ⟨Ha, t, none⟩ = some (.bool false) ∧ w'.cell? ⟨Hw, t, none⟩ = some (.string wq) ∧ (convert 28 9 v10).run Try.prog w' = .ok (.string wq) w') (by kernel_rfl) ⟨g10, c10, cv10⟩ (fun hHeld => ?_)
                      refine wpAnyH_take (i := 0) (v := ?v23) rfl (by kernel_rfl) (by kernel_rfl) (by kernel_rfl) (fun _ _ _ h => h) (Or.inl ⟨by rfl, ?hy23⟩) (by assumption) ?rest23
                      case hy23 =>
                        intro w hSw
                        obtain ⟨hS1, hS2, hS3⟩ := hSw
                        go_simp
                        try with_reducible rfl
                      try simp only [Act.put, List.setIfInBounds_toArray, List.set_cons_zero, List.set_cons_succ, List.getElem_toArray, List.getElem_cons_succ, List.getElem_cons_zero]
                      refine wpAnyH_take (i := 1) (v := ?v24) rfl (by kernel_rfl) (by kernel_rfl) (by kernel_rfl) (fun _ _ _ h => h) (Or.inl ⟨by rfl, ?hy24⟩) (by assumption) ?rest24
                      case hy24 =>
                        intro w hSw
                        obtain ⟨hS1, hS2, hS3⟩ := hSw
                        go_simp
                        try with_reducible rfl
                      try simp only [Act.put, List.setIfInBounds_toArray, List.set_cons_zero, List.set_cons_succ, List.getElem_toArray, List.getElem_cons_succ, List.getElem_cons_zero]
                      refine wpAnyH_take (i := 2) (v := ?v25) rfl (by kernel_rfl) (by kernel_rfl) (by kernel_rfl) (fun _ _ _ h => h) (Or.inl ⟨by rfl, ?hy25⟩) (by assumption) ?rest25
                      case hy25 =>
                        intro w hSw
                        obtain ⟨hS1, hS2, hS3⟩ := hSw
                        go_simp
                        try with_reducible rfl
                      try simp only [Act.put, List.setIfInBounds_toArray, List.set_cons_zero, List.set_cons_succ, List.getElem_toArray, List.getElem_cons_succ, List.getElem_cons_zero]
                      refine wpAnyH_take (i := 3) (v := ?v26) rfl (by kernel_rfl) (by kernel_rfl) (by kernel_rfl) (fun _ _ _ h => h) (Or.inl ⟨by rfl, ?hy26⟩) (by assumption) ?rest26
                      case hy26 =>
                        intro w hSw
                        obtain ⟨hS1, hS2, hS3⟩ := hSw
                        go_simp
                        try with_reducible rfl
                      try simp only [Act.put, List.setIfInBounds_toArray, List.set_cons_zero, List.set_cons_succ, List.getElem_toArray, List.getElem_cons_succ, List.getElem_cons_zero]
                      refine wpAnyH_take (i := 4) (v := ?v27) rfl (by kernel_rfl) (by kernel_rfl) (by kernel_rfl) (fun _ _ _ h => h) (Or.inl ⟨by rfl, ?hy27⟩) (by assumption) ?rest27
                      case hy27 =>
                        intro w hSw
                        obtain ⟨hS1, hS2, hS3⟩ := hSw
                        go_simp
                        try with_reducible rfl
                      try simp only [Act.put, List.setIfInBounds_toArray, List.set_cons_zero, List.set_cons_succ, List.getElem_toArray, List.getElem_cons_succ, List.getElem_cons_zero]
                      refine wpAnyH_take (i := 5) (v := ?v28) rfl (by kernel_rfl) (by kernel_rfl) (by kernel_rfl) (fun _ _ _ h => h) (Or.inl ⟨by rfl, ?hy28⟩) (by assumption) ?rest28
                      case hy28 =>
                        intro w hSw
                        obtain ⟨hS1, hS2, hS3⟩ := hSw
                        go_simp
                        try with_reducible rfl
                      try simp only [Act.put, List.setIfInBounds_toArray, List.set_cons_zero, List.set_cons_succ, List.getElem_toArray, List.getElem_cons_succ, List.getElem_cons_zero]
                      refine wpAnyH_take (i := 6) (v := ?v29) rfl (by kernel_rfl) (by kernel_rfl) (by kernel_rfl) (fun _ _ _ h => h) (Or.inl ⟨by rfl, ?hy29⟩) (by assumption) ?rest29
                      case hy29 =>
                        intro w hSw
                        obtain ⟨hS1, hS2, hS3⟩ := hSw
                        go_simp
                        try with_reducible rfl
                      try simp only [Act.put, List.setIfInBounds_toArray, List.set_cons_zero, List.set_cons_succ, List.getElem_toArray, List.getElem_cons_succ, List.getElem_cons_zero]
                      refine wpAnyH_take (i := 7) (v := ?v30) rfl (by kernel_rfl) (by kernel_rfl) (by kernel_rfl) (fun _ _ _ h => h) (Or.inl ⟨by rfl, ?hy30⟩) (by assumption) ?rest30
                      case hy30 =>
                        intro w hSw
                        obtain ⟨hS1, hS2, hS3⟩ := hSw
                        go_simp
                        try with_reducible rfl
                      try simp only [Act.put, List.setIfInBounds_toArray, List.set_cons_zero, List.set_cons_succ, List.getElem_toArray, List.getElem_cons_succ, List.getElem_cons_zero]
                      refine wpAnyH_take (i := 8) (v := ?v31) rfl (by kernel_rfl) (by kernel_rfl) (by kernel_rfl) (fun _ _ _ h => h) (Or.inl ⟨by rfl, ?hy31⟩) (by assumption) ?rest31
                      case hy31 =>
                        intro w hSw
                        obtain ⟨hS1, hS2, hS3⟩ := hSw
                        go_simp
                        try with_reducible rfl
                      try simp only [Act.put, List.setIfInBounds_toArray, List.set_cons_zero, List.set_cons_succ, List.getElem_toArray, List.getElem_cons_succ, List.getElem_cons_zero]
                      refine wpAnyH_take (i := 9) (v := ?v32) rfl (by kernel_rfl) (by kernel_rfl) (by kernel_rfl) (fun _ _ _ h => h) (Or.inl ⟨by rfl, ?hy32⟩) (by assumption) ?rest32
                      case hy32 =>
                        intro w hSw
                        obtain ⟨hS1, hS2, hS3⟩ := hSw
                        go_simp
                        try with_reducible rfl
                      try simp only [Act.put, List.setIfInBounds_toArray, List.set_cons_zero, List.set_cons_succ, List.getElem_toArray, List.getElem_cons_succ, List.getElem_cons_zero]
                      refine wpAnyH_take (i := 10) (v := ?v33) rfl (by kernel_rfl) (by kernel_rfl) (by kernel_rfl) (fun _ _ _ h => h) (Or.inl ⟨by rfl, ?hy33⟩) (by assumption) ?rest33
                      case hy33 =>
                        intro w hSw
                        obtain ⟨hS1, hS2, hS3⟩ := hSw
                        go_simp
                        try with_reducible rfl
                      try simp only [Act.put, List.setIfInBounds_toArray, List.set_cons_zero, List.set_cons_succ, List.getElem_toArray, List.getElem_cons_succ, List.getElem_cons_zero]
                      refine wpAnyH_take (i := 11) (v := ?v34) rfl (by kernel_rfl) (by kernel_rfl) (by kernel_rfl) (fun _ _ _ h => h) (Or.inl ⟨by rfl, ?hy34⟩) (by assumption) ?rest34
                      case hy34 =>
                        intro w hSw
                        obtain ⟨hS1, hS2, hS3⟩ := hSw
                        go_simp
                        try with_reducible rfl
                      try simp only [Act.put, List.setIfInBounds_toArray, List.set_cons_zero, List.set_cons_succ, List.getElem_toArray, List.getElem_cons_succ, List.getElem_cons_zero]
                      refine wpAnyH_take (i := 12) (v := ?v35) rfl (by kernel_rfl) (by kernel_rfl) (by kernel_rfl) (fun _ _ _ h => h) (Or.inl ⟨by rfl, ?hy35⟩) (by assumption) ?rest35
                      case hy35 =>
                        intro w hSw
                        obtain ⟨hS1, hS2, hS3⟩ := hSw
                        go_simp
                        try with_reducible rfl
                      try simp only [Act.put, List.setIfInBounds_toArray, List.set_cons_zero, List.set_cons_succ, List.getElem_toArray, List.getElem_cons_succ, List.getElem_cons_zero]
                      refine wpAnyH_take (i := 13) (v := ?v36) rfl (by kernel_rfl) (by kernel_rfl) (by kernel_rfl) (fun _ _ _ h => h) (Or.inl ⟨by rfl, ?hy36⟩) (by assumption) ?rest36
                      case hy36 =>
                        intro w hSw
                        obtain ⟨hS1, hS2, hS3⟩ := hSw
                        go_simp
                        try with_reducible rfl
                      try simp only [Act.put, List.setIfInBounds_toArray, List.set_cons_zero, List.set_cons_succ, List.getElem_toArray, List.getElem_cons_succ, List.getElem_cons_zero]
                      refine wpAnyH_take (i := 14) (v := ?v37) rfl (by kernel_rfl) (by kernel_rfl) (by kernel_rfl) (fun _ _ _ h => h) (Or.inl ⟨by rfl, ?hy37⟩) (by assumption) ?rest37
                      case hy37 =>
                        intro w hSw
                        obtain ⟨hS1, hS2, hS3⟩ := hSw
                        go_simp
                        try with_reducible rfl
                      try simp only [Act.put, List.setIfInBounds_toArray, List.set_cons_zero, List.set_cons_succ, List.getElem_toArray, List.getElem_cons_succ, List.getElem_cons_zero]
                      refine wpAnyH_take (i := 15) (v := ?v38) rfl (by kernel_rfl) (by kernel_rfl) (by kernel_rfl) (fun _ _ _ h => h) (Or.inl ⟨by rfl, ?hy38⟩) (by assumption) ?rest38
                      case hy38 =>
                        intro w hSw
                        obtain ⟨hS1, hS2, hS3⟩ := hSw
                        go_simp
                        try with_reducible rfl
                      try simp only [Act.put, List.setIfInBounds_toArray, List.set_cons_zero, List.set_cons_succ, List.getElem_toArray, List.getElem_cons_succ, List.getElem_cons_zero]
                      refine wpAnyH_done (by kernel_rfl) ?_ _
                      go_wp2_with fail
                      go_roundw
                      case rel => exact ⟨t + 1, by omega, by go_num, unhide HD10, unhide HA10, unhide HG10⟩
                      case measure => simp [intOf]; omega
                    | true =>
                      have HHAG := hide hag
                      have HHWB := hide hwb
                      clear hag hwb
                      go_wp2_with fail
                      refine (dks_read (unhide HD) (by show n + 1 + j ≤ 1000000; omega) t).mono ?_
                      rintro e w10 ⟨v10, rfl, own10, ho10⟩
                      have hA10 := (unhide HA).only ho10 (fun h => h)
                      have hG10 := (unhide HG).only ho10 (fun h => h)
                      have g10 : w10.drew.cell? ⟨Ha, t, none⟩ = some (.bool true) := unhide HGC w10 hG10
                      have HA10 := hide (hA10.only ((Only.refl (fun _ => False) w10).drew) (fun h => h))
                      have HG10 := hide (hG10.only ((Only.refl (fun _ => False) w10).drew) (fun h => h))
                      have HD10 := hide (((unhide HD).same ho10).same ((Only.refl (fun _ => False) w10).drew))
                      clear hA10 hG10 own10 ho10
                      go_wp2_with fail
                      refine wp_region_held_drew (S := fun w' => w'.cell? ⟨Ha, t, none⟩ = some (.bool true)) (by kernel_rfl) g10 (fun hHeld => ?_)
                      refine wpAnyH_take (i := 0) (v := ?v39) rfl (by kernel_rfl) (by kernel_rfl) (by kernel_rfl) (fun _ _ _ h => h) (Or.inl ⟨by rfl, ?hy39⟩) (by assumption) ?rest39
                      case hy39 =>
                        intro w hSw
                        go_simp
                        try with_reducible rfl
                      try simp only [Act.put, List.setIfInBounds_toArray, List.set_cons_zero, List.set_cons_succ, List.getElem_toArray, List.getElem_cons_succ, List.getElem_cons_zero]
                      refine wpAnyH_take (i := 1) (v := ?v40) rfl (by kernel_rfl) (by kernel_rfl) (by kernel_rfl) (fun _ _ _ h => h) (Or.inl ⟨by rfl, ?hy40⟩) (by assumption) ?rest40
                      case hy40 =>
                        intro w hSw
                        go_simp
                        try with_reducible rfl
                      try simp only [Act.put, List.setIfInBounds_toArray, List.set_cons_zero, List.set_cons_succ, List.getElem_toArray, List.getElem_cons_succ, List.getElem_cons_zero]
                      refine wpAnyH_take (i := 2) (v := ?v41) rfl (by kernel_rfl) (by kernel_rfl) (by kernel_rfl) (fun _ _ _ h => h) (Or.inl ⟨by rfl, ?hy41⟩) (by assumption) ?rest41
                      case hy41 =>
                        intro w hSw
                        go_simp
                        try with_reducible rfl
                      try simp only [Act.put, List.setIfInBounds_toArray, List.set_cons_zero, List.set_cons_succ, List.getElem_toArray, List.getElem_cons_succ, List.getElem_cons_zero]
                      refine wpAnyH_take (i := 3) (v := ?v42) rfl (by kernel_rfl) (by kernel_rfl) (by kernel_rfl) (fun _ _ _ h => h) (Or.inl ⟨by rfl, ?hy42⟩) (by assumption) ?rest42
                      case hy42 =>
                        intro w hSw
                        go_simp
                        try with_reducible rfl
                      try simp only [Act.put, List.setIfInBounds_toArray, List.set_cons_zero, List.set_cons_succ, List.getElem_toArray, List.getElem_cons_succ, List.getElem_cons_zero]
                      refine wpAnyH_take (i := 4) (v := ?v43) rfl (by kernel_rfl) (by kernel_rfl) (by kernel_rfl) (fun _ _ _ h => h) (Or.inl ⟨by rfl, ?hy43⟩) (by assumption) ?rest43
                      case hy43 =>
                        intro w hSw
                        go_simp
                        try with_reducible rfl
                      try simp only [Act.put, List.setIfInBounds_toArray, List.set_cons_zero, List.set_cons_succ, List.getElem_toArray, List.getElem_cons_succ, List.getElem_cons_zero]
                      refine wpAnyH_take (i := 5) (v := undef) rfl (by kernel_rfl) (by kernel_rfl) (by kernel_rfl) (fun _ _ _ h => h) (Or.inr ⟨by rfl, rfl⟩) (by assumption) ?_
                      try simp only [Act.put, List.setIfInBounds_toArray, List.set_cons_zero, List.set_cons_succ, List.getElem_toArray, List.getElem_cons_succ, List.getElem_cons_zero]
                      refine wpAnyH_take (i := 6) (v := undef) rfl (by kernel_rfl) (by kernel_rfl) (by kernel_rfl) (fun _ _ _ h => h) (Or.inr ⟨by rfl, rfl⟩) (by assumption) ?_
                      try simp only [Act.put, List.setIfInBounds_toArray, List.set_cons_zero, List.set_cons_succ, List.getElem_toArray, List.getElem_cons_succ, List.getElem_cons_zero]
                      refine wpAnyH_take (i := 7) (v := undef) rfl (by kernel_rfl) (by kernel_rfl) (by kernel_rfl) (fun _ _ _ h => h) (Or.inr ⟨by rfl, rfl⟩) (by assumption) ?_
                      try simp only [Act.put, List.setIfInBounds_toArray, List.set_cons_zero, List.set_cons_succ, List.getElem_toArray, List.getElem_cons_succ, List.getElem_cons_zero]
                      refine wpAnyH_take (i := 8) (v := undef) rfl (by kernel_rfl) (by kernel_rfl) (by kernel_rfl) (fun _ _ _ h => h) (Or.inr ⟨by rfl, rfl⟩) (by assumption) ?_
                      try simp only [Act.put, List.setIfInBounds_toArray, List.set_cons_zero, List.set_cons_succ, List.getElem_toArray, List.getElem_cons_succ, List.getElem_cons_zero]
                      refine wpAnyH_take (i := 9) (v := undef) rfl (by kernel_rfl) (by kernel_rfl) (by kernel_rfl) (fun _ _ _ h => h) (Or.inr ⟨by rfl, rfl⟩) (by assumption) ?_
                      try simp only [Act.put, List.setIfInBounds_toArray, List.set_cons_zero, List.set_cons_succ, List.getElem_toArray, List.getElem_cons_succ, List.getElem_cons_zero]
                      refine wpAnyH_take (i := 10) (v := undef) rfl (by kernel_rfl) (by kernel_rfl) (by kernel_rfl) (fun _ _ _ h => h) (Or.inr ⟨by rfl, rfl⟩) (by assumption) ?_
                      try simp only [Act.put, List.setIfInBounds_toArray, List.set_cons_zero, List.set_cons_succ, List.getElem_toArray, List.getElem_cons_succ, List.getElem_cons_zero]
                      refine wpAnyH_take (i := 11) (v := undef) rfl (by kernel_rfl) (by kernel_rfl) (by kernel_rfl) (fun _ _ _ h => h) (Or.inr ⟨by rfl, rfl⟩) (by assumption) ?_
                      try simp only [Act.put, List.setIfInBounds_toArray, List.set_cons_zero, List.set_cons_succ, List.getElem_toArray, List.getElem_cons_succ, List.getElem_cons_zero]
                      refine wpAnyH_take (i := 12) (v := undef) rfl (by kernel_rfl) (by kernel_rfl) (by kernel_rfl) (fun _ _ _ h => h) (Or.inr ⟨by rfl, rfl⟩) (by assumption) ?_
                      try simp only [Act.put, List.setIfInBounds_toArray, List.set_cons_zero, List.set_cons_succ, List.getElem_toArray, List.getElem_cons_succ, List.getElem_cons_zero]
                      refine wpAnyH_take (i := 13) (v := undef) rfl (by kernel_rfl) (by kernel_rfl) (by kernel_rfl) (fun _ _ _ h => h) (Or.inr ⟨by rfl, rfl⟩) (by assumption) ?_
                      try simp only [Act.put, List.setIfInBounds_toArray, List.set_cons_zero, List.set_cons_succ, List.getElem_toArray, List.getElem_cons_succ, List.getElem_cons_zero]
                      refine wpAnyH_take (i := 14) (v := undef) rfl (by kernel_rfl) (by kernel_rfl) (by kernel_rfl) (fun _ _ _ h => h) (Or.inr ⟨by rfl, rfl⟩) (by assumption) ?_
                      try simp only [Act.put, List.setIfInBounds_toArray, List.set_cons_zero, List.set_cons_succ, List.getElem_toArray, List.getElem_cons_succ, List.getElem_cons_zero]
                      refine wpAnyH_take (i := 15) (v := ?v44) rfl (by kernel_rfl) (by kernel_rfl) (by kernel_rfl) (fun _ _ _ h => h) (Or.inl ⟨by rfl, ?hy44⟩) (by assumption) ?rest44
                      case hy44 =>
                        intro w hSw
                        go_simp
                        try with_reducible rfl
                      try simp only [Act.put, List.setIfInBounds_toArray, List.set_cons_zero, List.set_cons_succ, List.getElem_toArray, List.getElem_cons_succ, List.getElem_cons_zero]
                      refine wpAnyH_done (by kernel_rfl) ?_ _
                      go_wp2_with fail
                      go_roundw
                      case rel => exact ⟨t + 1, by omega, by go_num, unhide HD10, unhide HA10, unhide HG10⟩
                      case measure => simp [intOf]; omega
                  · have ht12 : ¬ (t : Int) < 12 := by omega
                    have HD := hide hD
                    clear hD hA hG
                    go_wp2_with fail
                    refine (dks_pending (unhide HD) (by show n + 1 + j ≤ 1000000; omega)).mono ?_
                    rintro e w11 ⟨vp, dvs, rfl, hp11, ho11⟩
                    obtain ⟨ap, cp, rfl⟩ := writes_none hp11 rfl
                    have HD11 := hide ((unhide HD).same ho11)
                    clear hp11 ho11
                    go_wp2_with fail
                    refine (dks_down (unhide HD11)).mono ?_
                    rintro e w12 ⟨rfl, rfl⟩
                    rw [show ((d2 X n j).crash fs).down = false from rfl]
                    go_wp2_with fail
                    go_ret
                    exact ⟨rfl, (unhide HD11).only⟩
        · have hlt' : ¬ (n : Int) < (m : Int) := by omega
          obtain ⟨hfl, hfe⟩ := d1_flush X n
          have HFL := hide hfl
          have HFE := hide hfe
          have HD := hide hD
          have HA := hide hA
          clear hD hA hfl hfe
          go_wp2_with fail
          refine (dks_flush (unhide HD) (by show n ≤ 1000000; omega)).mono ?_
          rintro e w5 ⟨rfl, F5, h5⟩
          rw [unhide HFE]
          have HD5 := hide h5.dk
          rw [unhide HFL] at HD5
          obtain ⟨ha5, hn5⟩ := h5.arr (unhide HA) hnF2
          have HA5 := hide ha5
          clear h5 ha5 HD HA
          go_wp2_with fail
          obtain ⟨Ha, hHa⟩ : ∃ Ha, Ha = w5.heap.size := ⟨_, rfl⟩
          have hG0 : Arr (w5.alloc (.cells ((agains (w2P X 0)).map Value.bool).toArray 54)) Ha 54 ((agains (w2P X 0)).map .bool) := by rw [hHa]; exact heap_alloc_new w5 _
          have HG0 := hide hG0
          have H6 := hide ((unhide HD5).same ((Only.refl (fun _ => False) w5).alloc (.cells ((agains (w2P X 0)).map Value.bool).toArray 54)))
          have HA6 := hide ((unhide HA5).only ((Only.refl (fun _ => False) w5).alloc (.cells ((agains (w2P X 0)).map Value.bool).toArray 54)) (fun h => h))
          have hgF : ¬ F5 Ha := by rw [hHa]; exact (unhide HD5).fresh_blk
          have hgup : w.heap.size ≤ Ha := by rw [hHa]; exact (unhide HD5).only.size
          have hne : Ha ≠ Hw := by have := (unhide HA5).lt; omega
          rw [← hHa]
          clear hHa hG0 HD5 HA5
          go_loopw [12] (fun i wr => ∃ (j : Nat) (F : Nat → Prop), j ≤ m ∧ j ≤ 9 ∧ i = .int .i64 j ∧ Dks w wr F B (d2 X n j) ∧ Arr wr Hw 53 ((wants (w1P X n)).map strV) ∧ ¬ F Hw ∧ Arr wr Ha 54 ((agains (w2P X j)).map .bool) ∧ ¬ F Ha) (fun i _ => 9 - (intOf i).toNat)
          case atStart => exact ⟨0, F5, Nat.zero_le _, by decide, rfl, unhide H6, unhide HA6, hn5, unhide HG0, hgF⟩
          case round =>
            obtain ⟨j, F, hj, hj9, rfl, hD, hA, hnA, hG, hnG⟩ := hrel
            by_cases hlt2 : j < m
            · have hlt2' : (j : Int) < (m : Int) := by omega
              by_cases hl9 : j < 9
              · have hl9' : (j : Int) < 9 := by omega
                obtain ⟨bb, off, rfl, hbb, hcs⟩ := unhide HSC (by omega)
                obtain ⟨s0, s1, s2, s3, s4⟩ := hcs j hlt2
                have hnm := (unhide HST).nums j hlt2
                obtain ⟨⟨p1, p2⟩, ⟨q1, q2⟩⟩ := hnm
                have t1 := hD.only.cell s1 (fun h => h)
                have t2 := hD.only.cell s2 (fun h => h)
                have hwr := d2_write X n j
                obtain ⟨hmd, hmdi⟩ := mod12 (X j).num
                have hop : (one2 (X j)).1 = ((X j).num % 12).toNat := rfl
                generalize ((X j).num % 12).toNat = kk at hmd hmdi hop
                rw [hmdi] at hwr
                have hmd' : (kk : Int) < 12 := by omega
                have HWR := hide hwr
                have HMI := hide hmdi
                have HD := hide hD
                have HA := hide hA
                have HG := hide hG
                have hwp := agains_push (w2P X j) (one2 (X j)) (by rw [hop]; exact hmd)
                rw [← w2P_succ, hop] at hwp
                have HWP := hide hwp
                have hck : ∃ cv, ((agains (w2P X j)).map Value.bool)[kk]? = some cv := ⟨_, List.getElem?_eq_getElem (by rw [List.length_map, agains_len]; exact hmd)⟩
                obtain ⟨oldv, hold⟩ := hck
                have HOLD := hide hold
                clear hD hA hG hwr hmdi hwp hold hcs s0 s1 s2 s3 s4 hop
                go_wp2_with fail
                refine (pick_any _ 12 _ (by decide) (by decide)).mono ?_
                rintro e w7 ⟨rfl, rfl⟩
                rw [unhide HMI]
                go_wp2_with fail
                refine (sector_any _ _ p1 p2).mono ?_
                rintro e w8 ⟨v8, rfl, hv8, hf8, ho8⟩
                have HD8 := hide ((unhide HD).same ho8)
                have HA8 := hide ((unhide HA).only ho8 (fun h => h))
                have HG8 := hide ((unhide HG).only ho8 (fun h => h))
                have hx8 := (unhide HD).fresh hf8
                go_wp2_with fail
                refine (dks_write (unhide HD8) (by show n + 1 + j ≤ 1000000; omega) _ v8 _ hv8 hx8).mono ?_
                rintro e w9 ⟨rfl, F9, h9⟩
                have HD9 := hide h9.dk
                rw [unhide HWR] at HD9
                obtain ⟨ha9, hnA9⟩ := h9.arr (unhide HA8) hnA
                obtain ⟨hg9, hnG9⟩ := h9.arr (unhide HG8) hnG
                obtain ⟨hc9, hz9⟩ := hg9.cell _ _ (unhide HOLD)
                have hset := (Only.refl (fun k => k = Ha) w9).here kk (.bool true)
                have hA10 := ha9.only hset (fun e => hne e.symm)
                have hG10 := hg9.set kk (.bool true)
                rw [← List.map_set, ← unhide HWP] at hG10
                have HA10 := hide hA10
                have HG10 := hide hG10
                have HD10 := hide ((unhide HD9).array hnG9 hgup kk (.bool true))
                clear h9 hv8 hx8 hf8 ho8 ha9 hg9 HD8 HA8 HG8 HD HA HG hA10 hG10 HD9 hset t1 t2
                go_wp2_with fail
                go_roundw
                case rel => exact ⟨j + 1, F9, by omega, by omega, by go_num, unhide HD10, unhide HA10, hnA9, unhide HG10, hnG9⟩
                case measure => simp [intOf]; omega
              · have hl9' : ¬ (j : Int) < 9 := by omega
                have HD := hide hD
                have HA := hide hA
                have HG := hide hG
                clear hD hA hG
                go_wp2_with fail
                refine (dks_crash' (unhide HD) (by show n + 1 + j ≤ 1000000; omega) _ fs ((unhide HFV).only (unhide HD).only (fun _ _ _ h => h)) (fun hne => (unhide HD).old (unhide HFV) (fun e => hne (List.map_eq_nil_iff.1 e)))).mono ?_
                rintro e w9 ⟨rfl, F9, h9⟩
                have HD9 := hide h9.dk
                obtain ⟨ha9, hnA9⟩ := h9.arr (unhide HA) hnA
                obtain ⟨hg9, hnG9⟩ := h9.arr (unhide HG) hnG
                have HA9 := hide ha9
                have HG9 := hide hg9
                clear h9 ha9 hg9 HD HA HG
                go_wp2_with fail
                go_loopw [14] (fun i wr => ∃ (t : Nat), t ≤ 12 ∧ i = .int .i64 t ∧ Dks w wr F9 B ((d2 X n j).crash fs) ∧ Arr wr Hw 53 ((wants (w1P X n)).map strV) ∧ Arr wr Ha 54 ((agains (w2P X j)).map .bool)) (fun i _ => 12 - (intOf i).toNat)
                case atStart => exact ⟨0, by decide, rfl, unhide HD9, unhide HA9, unhide HG9⟩
                case round =>
                  obtain ⟨t, ht, rfl, hD, hA, hG⟩ := hrel
                  by_cases hlt3 : t < 12
                  · have hlt3' : (t : Int) < 12 := by omega
                    obtain ⟨ag, hag⟩ : ∃ ag, (agains (w2P X j))[t]? = some ag := ⟨_, List.getElem?_eq_getElem (by rw [agains_len]; exact hlt3)⟩
                    have hgc := fun (w' : World) (h : Arr w' Ha 54 ((agains (w2P X j)).map .bool)) => (h.cell t (.bool ag) (by rw [List.getElem?_map, hag]; rfl)).1
                    obtain ⟨wb, hwb⟩ : ∃ wb, (wants (w1P X n))[t]? = some wb := ⟨_, List.getElem?_eq_getElem (by rw [wants_len]; exact hlt3)⟩
                    have hwc := fun (w' : World) (h : Arr w' Hw 53 ((wants (w1P X n)).map strV)) => (h.cell t (strV wb) (by rw [List.getElem?_map, hwb]; rfl)).1
                    have HGC := hide hgc
                    have HWC := hide hwc
                    clear hgc hwc
                    have HD := hide hD
                    have HA := hide hA
                    have HG := hide hG
                    clear hD hA hG
                    cases ag with
                    | false =>
                      obtain ⟨hre, hrd⟩ := flushed_read X n j fs t hlt3 hag
                      rw [hwb] at hrd
                      have hrd' := Option.some.inj hrd
                      have HRE := hide hre
                      have HRD := hide hrd'
                      have HHAG := hide hag
                      have HHWB := hide hwb
                      clear hre hrd hrd' hag hwb
                      go_wp2_with fail
                      refine (dks_read (unhide HD) (by show n + 1 + j ≤ 1000000; omega) t).mono ?_
                      rintro e w10 ⟨v10, rfl, own10, ho10⟩
                      rw [unhide HRE]
                      rw [← unhide HRD] at own10
                      obtain ⟨wv, hwv⟩ : ∃ wv, wv = strV wb := ⟨_, rfl⟩
                      have cv10 : (convert 28 9 v10).run Try.prog w10.drew = .ok wv w10.drew := by rw [hwv]; exact str_conv (w := w10.drew) ((Has.ofOwns own10.out).only ((Only.refl (fun _ => False) w10).drew) (fun _ _ _ h => h))
                      have hA10 := (unhide HA).only ho10 (fun h => h)
                      have hG10 := (unhide HG).only ho10 (fun h => h)
                      have c10 : w10.drew.cell? ⟨Hw, t, none⟩ = some wv := by rw [hwv]; exact unhide HWC w10 hA10
                      have g10 : w10.drew.cell? ⟨Ha, t, none⟩ = some (.bool false) := unhide HGC w10 hG10
                      obtain ⟨wq, hwq⟩ : ∃ q, wv = .string q := ⟨str wb, hwv⟩
                      have HA10 := hide (hA10.only ((Only.refl (fun _ => False) w10).drew) (fun h => h))
                      have HG10 := hide (hG10.only ((Only.refl (fun _ => False) w10).drew) (fun h => h))
                      have HD10 := hide (((unhide HD).same ho10).same ((Only.refl (fun _ => False) w10).drew))
                      subst hwq
                      clear hA10 hG10 own10 ho10 hwv
                      go_wp2_with fail
                      refine wp_region_held_drew (S := fun w' => w'.cell? ⟨Ha, t, none⟩ = some (.bool false) ∧ w'.cell? ⟨Hw, t, none⟩ = some (.string wq) ∧ (convert 28 9 v10).run Try.prog w' = .ok (.string wq) w') (by kernel_rfl) ⟨g10, c10, cv10⟩ (fun hHeld => ?_)
                      refine wpAnyH_take (i := 0) (v := ?v45) rfl (by kernel_rfl) (by kernel_rfl) (by kernel_rfl) (fun _ _ _ h => h) (Or.inl ⟨by rfl, ?hy45⟩) (by assumption) ?rest45
                      case hy45 =>
                        intro w hSw
                        obtain ⟨hS1, hS2, hS3⟩ := hSw
                        go_simp
                        try with_reducible rfl
                      try simp only [Act.put, List.setIfInBounds_toArray, List.set_cons_zero, List.set_cons_succ, List.getElem_toArray, List.getElem_cons_succ, List.getElem_cons_zero]
                      refine wpAnyH_take (i := 1) (v := ?v46) rfl (by kernel_rfl) (by kernel_rfl) (by kernel_rfl) (fun _ _ _ h => h) (Or.inl ⟨by rfl, ?hy46⟩) (by assumption) ?rest46
                      case hy46 =>
                        intro w hSw
                        obtain ⟨hS1, hS2, hS3⟩ := hSw
                        go_simp
                        try with_reducible rfl
                      try simp only [Act.put, List.setIfInBounds_toArray, List.set_cons_zero, List.set_cons_succ, List.getElem_toArray, List.getElem_cons_succ, List.getElem_cons_zero]
                      refine wpAnyH_take (i := 2) (v := ?v47) rfl (by kernel_rfl) (by kernel_rfl) (by kernel_rfl) (fun _ _ _ h => h) (Or.inl ⟨by rfl, ?hy47⟩) (by assumption) ?rest47
                      case hy47 =>
                        intro w hSw
                        obtain ⟨hS1, hS2, hS3⟩ := hSw
                        go_simp
                        try with_reducible rfl
                      try simp only [Act.put, List.setIfInBounds_toArray, List.set_cons_zero, List.set_cons_succ, List.getElem_toArray, List.getElem_cons_succ, List.getElem_cons_zero]
                      refine wpAnyH_take (i := 3) (v := ?v48) rfl (by kernel_rfl) (by kernel_rfl) (by kernel_rfl) (fun _ _ _ h => h) (Or.inl ⟨by rfl, ?hy48⟩) (by assumption) ?rest48
                      case hy48 =>
                        intro w hSw
                        obtain ⟨hS1, hS2, hS3⟩ := hSw
                        go_simp
                        try with_reducible rfl
                      try simp only [Act.put, List.setIfInBounds_toArray, List.set_cons_zero, List.set_cons_succ, List.getElem_toArray, List.getElem_cons_succ, List.getElem_cons_zero]
                      refine wpAnyH_take (i := 4) (v := ?v49) rfl (by kernel_rfl) (by kernel_rfl) (by kernel_rfl) (fun _ _ _ h => h) (Or.inl ⟨by rfl, ?hy49⟩) (by assumption) ?rest49
                      case hy49 =>
                        intro w hSw
                        obtain ⟨hS1, hS2, hS3⟩ := hSw
                        go_simp
                        try with_reducible rfl
                      try simp only [Act.put, List.setIfInBounds_toArray, List.set_cons_zero, List.set_cons_succ, List.getElem_toArray, List.getElem_cons_succ, List.getElem_cons_zero]
                      refine wpAnyH_take (i := 5) (v := ?v50) rfl (by kernel_rfl) (by kernel_rfl) (by kernel_rfl) (fun _ _ _ h => h) (Or.inl ⟨by rfl, ?hy50⟩) (by assumption) ?rest50
                      case hy50 =>
                        intro w hSw
                        obtain ⟨hS1, hS2, hS3⟩ := hSw
                        go_simp
                        try with_reducible rfl
                      try simp only [Act.put, List.setIfInBounds_toArray, List.set_cons_zero, List.set_cons_succ, List.getElem_toArray, List.getElem_cons_succ, List.getElem_cons_zero]
                      refine wpAnyH_take (i := 6) (v := ?v51) rfl (by kernel_rfl) (by kernel_rfl) (by kernel_rfl) (fun _ _ _ h => h) (Or.inl ⟨by rfl, ?hy51⟩) (by assumption) ?rest51
                      case hy51 =>
                        intro w hSw
                        obtain ⟨hS1, hS2, hS3⟩ := hSw
                        go_simp
                        try with_reducible rfl
                      try simp only [Act.put, List.setIfInBounds_toArray, List.set_cons_zero, List.set_cons_succ, List.getElem_toArray, List.getElem_cons_succ, List.getElem_cons_zero]
                      refine wpAnyH_take (i := 7) (v := ?v52) rfl (by kernel_rfl) (by kernel_rfl) (by kernel_rfl) (fun _ _ _ h => h) (Or.inl ⟨by rfl, ?hy52⟩) (by assumption) ?rest52
                      case hy52 =>
                        intro w hSw
                        obtain ⟨hS1, hS2, hS3⟩ := hSw
                        go_simp
                        try with_reducible rfl
                      try simp only [Act.put, List.setIfInBounds_toArray, List.set_cons_zero, List.set_cons_succ, List.getElem_toArray, List.getElem_cons_succ, List.getElem_cons_zero]
                      refine wpAnyH_take (i := 8) (v := ?v53) rfl (by kernel_rfl) (by kernel_rfl) (by kernel_rfl) (fun _ _ _ h => h) (Or.inl ⟨by rfl, ?hy53⟩) (by assumption) ?rest53
                      case hy53 =>
                        intro w hSw
                        obtain ⟨hS1, hS2, hS3⟩ := hSw
                        go_simp
                        try with_reducible rfl
                      try simp only [Act.put, List.setIfInBounds_toArray, List.set_cons_zero, List.set_cons_succ, List.getElem_toArray, List.getElem_cons_succ, List.getElem_cons_zero]
                      refine wpAnyH_take (i := 9) (v := ?v54) rfl (by kernel_rfl) (by kernel_rfl) (by kernel_rfl) (fun _ _ _ h => h) (Or.inl ⟨by rfl, ?hy54⟩) (by assumption) ?rest54
                      case hy54 =>
                        intro w hSw
                        obtain ⟨hS1, hS2, hS3⟩ := hSw
                        go_simp
                        try with_reducible rfl
                      try simp only [Act.put, List.setIfInBounds_toArray, List.set_cons_zero, List.set_cons_succ, List.getElem_toArray, List.getElem_cons_succ, List.getElem_cons_zero]
                      refine wpAnyH_take (i := 10) (v := ?v55) rfl (by kernel_rfl) (by kernel_rfl) (by kernel_rfl) (fun _ _ _ h => h) (Or.inl ⟨by rfl, ?hy55⟩) (by assumption) ?rest55
                      case hy55 =>
                        intro w hSw
                        obtain ⟨hS1, hS2, hS3⟩ := hSw
                        go_simp
                        try with_reducible rfl
                      try simp only [Act.put, List.setIfInBounds_toArray, List.set_cons_zero, List.set_cons_succ, List.getElem_toArray, List.getElem_cons_succ, List.getElem_cons_zero]
                      refine wpAnyH_take (i := 11) (v := ?v56) rfl (by kernel_rfl) (by kernel_rfl) (by kernel_rfl) (fun _ _ _ h => h) (Or.inl ⟨by rfl, ?hy56⟩) (by assumption) ?rest56
                      case hy56 =>
                        intro w hSw
                        obtain ⟨hS1, hS2, hS3⟩ := hSw
                        go_simp
                        try with_reducible rfl
                      try simp only [Act.put, List.setIfInBounds_toArray, List.set_cons_zero, List.set_cons_succ, List.getElem_toArray, List.getElem_cons_succ, List.getElem_cons_zero]
                      refine wpAnyH_take (i := 12) (v := ?v57) rfl (by kernel_rfl) (by kernel_rfl) (by kernel_rfl) (fun _ _ _ h => h) (Or.inl ⟨by rfl, ?hy57⟩) (by assumption) ?rest57
                      case hy57 =>
                        intro w hSw
                        obtain ⟨hS1, hS2, hS3⟩ := hSw
                        go_simp
                        try with_reducible rfl
                      try simp only [Act.put, List.setIfInBounds_toArray, List.set_cons_zero, List.set_cons_succ, List.getElem_toArray, List.getElem_cons_succ, List.getElem_cons_zero]
                      refine wpAnyH_take (i := 13) (v := ?v58) rfl (by kernel_rfl) (by kernel_rfl) (by kernel_rfl) (fun _ _ _ h => h) (Or.inl ⟨by rfl, ?hy58⟩) (by assumption) ?rest58
                      case hy58 =>
                        intro w hSw
                        obtain ⟨hS1, hS2, hS3⟩ := hSw
                        go_simp
                        try with_reducible rfl
                      try simp only [Act.put, List.setIfInBounds_toArray, List.set_cons_zero, List.set_cons_succ, List.getElem_toArray, List.getElem_cons_succ, List.getElem_cons_zero]
                      refine wpAnyH_take (i := 14) (v := ?v59) rfl (by kernel_rfl) (by kernel_rfl) (by kernel_rfl) (fun _ _ _ h => h) (Or.inl ⟨by rfl, ?hy59⟩) (by assumption) ?rest59
                      case hy59 =>
                        intro w hSw
                        obtain ⟨hS1, hS2, hS3⟩ := hSw
                        go_simp
                        try with_reducible rfl
                      try simp only [Act.put, List.setIfInBounds_toArray, List.set_cons_zero, List.set_cons_succ, List.getElem_toArray, List.getElem_cons_succ, List.getElem_cons_zero]
                      refine wpAnyH_take (i := 15) (v := ?v60) rfl (by kernel_rfl) (by kernel_rfl) (by kernel_rfl) (fun _ _ _ h => h) (Or.inl ⟨by rfl, ?hy60⟩) (by assumption) ?rest60
                      case hy60 =>
                        intro w hSw
                        obtain ⟨hS1, hS2, hS3⟩ := hSw
                        go_simp
                        try with_reducible rfl
                      try simp only [Act.put, List.setIfInBounds_toArray, List.set_cons_zero, List.set_cons_succ, List.getElem_toArray, List.getElem_cons_succ, List.getElem_cons_zero]
                      refine wpAnyH_done (by kernel_rfl) ?_ _
                      go_wp2_with fail
                      go_roundw
                      case rel => exact ⟨t + 1, by omega, by go_num, unhide HD10, unhide HA10, unhide HG10⟩
                      case measure => simp [intOf]; omega
                    | true =>
                      have HHAG := hide hag
                      have HHWB := hide hwb
                      clear hag hwb
                      go_wp2_with fail
                      refine (dks_read (unhide HD) (by show n + 1 + j ≤ 1000000; omega) t).mono ?_
                      rintro e w10 ⟨v10, rfl, own10, ho10⟩
                      have hA10 := (unhide HA).only ho10 (fun h => h)
                      have hG10 := (unhide HG).only ho10 (fun h => h)
                      have g10 : w10.drew.cell? ⟨Ha, t, none⟩ = some (.bool true) := unhide HGC w10 hG10
                      have HA10 := hide (hA10.only ((Only.refl (fun _ => False) w10).drew) (fun h => h))
                      have HG10 := hide (hG10.only ((Only.refl (fun _ => False) w10).drew) (fun h => h))
                      have HD10 := hide (((unhide HD).same ho10).same ((Only.refl (fun _ => False) w10).drew))
                      clear hA10 hG10 own10 ho10
                      go_wp2_with fail
                      refine wp_region_held_drew (S := fun w' => w'.cell? ⟨Ha, t, none⟩ = some (.bool true)) (by kernel_rfl) g10 (fun hHeld => ?_)
                      refine wpAnyH_take (i := 0) (v := ?v61) rfl (by kernel_rfl) (by kernel_rfl) (by kernel_rfl) (fun _ _ _ h => h) (Or.inl ⟨by rfl, ?hy61⟩) (by assumption) ?rest61
                      case hy61 =>
                        intro w hSw
                        go_simp
                        try with_reducible rfl
                      try simp only [Act.put, List.setIfInBounds_toArray, List.set_cons_zero, List.set_cons_succ, List.getElem_toArray, List.getElem_cons_succ, List.getElem_cons_zero]
                      refine wpAnyH_take (i := 1) (v := ?v62) rfl (by kernel_rfl) (by kernel_rfl) (by kernel_rfl) (fun _ _ _ h => h) (Or.inl ⟨by rfl, ?hy62⟩) (by assumption) ?rest62
                      case hy62 =>
                        intro w hSw
                        go_simp
                        try with_reducible rfl
                      try simp only [Act.put, List.setIfInBounds_toArray, List.set_cons_zero, List.set_cons_succ, List.getElem_toArray, List.getElem_cons_succ, List.getElem_cons_zero]
                      refine wpAnyH_take (i := 2) (v := ?v63) rfl (by kernel_rfl) (by kernel_rfl) (by kernel_rfl) (fun _ _ _ h => h) (Or.inl ⟨by rfl, ?hy63⟩) (by assumption) ?rest63
                      case hy63 =>
                        intro w hSw
                        go_simp
                        try with_reducible rfl
                      try simp only [Act.put, List.setIfInBounds_toArray, List.set_cons_zero, List.set_cons_succ, List.getElem_toArray, List.getElem_cons_succ, List.getElem_cons_zero]
                      refine wpAnyH_take (i := 3) (v := ?v64) rfl (by kernel_rfl) (by kernel_rfl) (by kernel_rfl) (fun _ _ _ h => h) (Or.inl ⟨by rfl, ?hy64⟩) (by assumption) ?rest64
                      case hy64 =>
                        intro w hSw
                        go_simp
                        try with_reducible rfl
                      try simp only [Act.put, List.setIfInBounds_toArray, List.set_cons_zero, List.set_cons_succ, List.getElem_toArray, List.getElem_cons_succ, List.getElem_cons_zero]
                      refine wpAnyH_take (i := 4) (v := ?v65) rfl (by kernel_rfl) (by kernel_rfl) (by kernel_rfl) (fun _ _ _ h => h) (Or.inl ⟨by rfl, ?hy65⟩) (by assumption) ?rest65
                      case hy65 =>
                        intro w hSw
                        go_simp
                        try with_reducible rfl
                      try simp only [Act.put, List.setIfInBounds_toArray, List.set_cons_zero, List.set_cons_succ, List.getElem_toArray, List.getElem_cons_succ, List.getElem_cons_zero]
                      refine wpAnyH_take (i := 5) (v := undef) rfl (by kernel_rfl) (by kernel_rfl) (by kernel_rfl) (fun _ _ _ h => h) (Or.inr ⟨by rfl, rfl⟩) (by assumption) ?_
                      try simp only [Act.put, List.setIfInBounds_toArray, List.set_cons_zero, List.set_cons_succ, List.getElem_toArray, List.getElem_cons_succ, List.getElem_cons_zero]
                      refine wpAnyH_take (i := 6) (v := undef) rfl (by kernel_rfl) (by kernel_rfl) (by kernel_rfl) (fun _ _ _ h => h) (Or.inr ⟨by rfl, rfl⟩) (by assumption) ?_
                      try simp only [Act.put, List.setIfInBounds_toArray, List.set_cons_zero, List.set_cons_succ, List.getElem_toArray, List.getElem_cons_succ, List.getElem_cons_zero]
                      refine wpAnyH_take (i := 7) (v := undef) rfl (by kernel_rfl) (by kernel_rfl) (by kernel_rfl) (fun _ _ _ h => h) (Or.inr ⟨by rfl, rfl⟩) (by assumption) ?_
                      try simp only [Act.put, List.setIfInBounds_toArray, List.set_cons_zero, List.set_cons_succ, List.getElem_toArray, List.getElem_cons_succ, List.getElem_cons_zero]
                      refine wpAnyH_take (i := 8) (v := undef) rfl (by kernel_rfl) (by kernel_rfl) (by kernel_rfl) (fun _ _ _ h => h) (Or.inr ⟨by rfl, rfl⟩) (by assumption) ?_
                      try simp only [Act.put, List.setIfInBounds_toArray, List.set_cons_zero, List.set_cons_succ, List.getElem_toArray, List.getElem_cons_succ, List.getElem_cons_zero]
                      refine wpAnyH_take (i := 9) (v := undef) rfl (by kernel_rfl) (by kernel_rfl) (by kernel_rfl) (fun _ _ _ h => h) (Or.inr ⟨by rfl, rfl⟩) (by assumption) ?_
                      try simp only [Act.put, List.setIfInBounds_toArray, List.set_cons_zero, List.set_cons_succ, List.getElem_toArray, List.getElem_cons_succ, List.getElem_cons_zero]
                      refine wpAnyH_take (i := 10) (v := undef) rfl (by kernel_rfl) (by kernel_rfl) (by kernel_rfl) (fun _ _ _ h => h) (Or.inr ⟨by rfl, rfl⟩) (by assumption) ?_
                      try simp only [Act.put, List.setIfInBounds_toArray, List.set_cons_zero, List.set_cons_succ, List.getElem_toArray, List.getElem_cons_succ, List.getElem_cons_zero]
                      refine wpAnyH_take (i := 11) (v := undef) rfl (by kernel_rfl) (by kernel_rfl) (by kernel_rfl) (fun _ _ _ h => h) (Or.inr ⟨by rfl, rfl⟩) (by assumption) ?_
                      try simp only [Act.put, List.setIfInBounds_toArray, List.set_cons_zero, List.set_cons_succ, List.getElem_toArray, List.getElem_cons_succ, List.getElem_cons_zero]
                      refine wpAnyH_take (i := 12) (v := undef) rfl (by kernel_rfl) (by kernel_rfl) (by kernel_rfl) (fun _ _ _ h => h) (Or.inr ⟨by rfl, rfl⟩) (by assumption) ?_
                      try simp only [Act.put, List.setIfInBounds_toArray, List.set_cons_zero, List.set_cons_succ, List.getElem_toArray, List.getElem_cons_succ, List.getElem_cons_zero]
                      refine wpAnyH_take (i := 13) (v := undef) rfl (by kernel_rfl) (by kernel_rfl) (by kernel_rfl) (fun _ _ _ h => h) (Or.inr ⟨by rfl, rfl⟩) (by assumption) ?_
                      try simp only [Act.put, List.setIfInBounds_toArray, List.set_cons_zero, List.set_cons_succ, List.getElem_toArray, List.getElem_cons_succ, List.getElem_cons_zero]
                      refine wpAnyH_take (i := 14) (v := undef) rfl (by kernel_rfl) (by kernel_rfl) (by kernel_rfl) (fun _ _ _ h => h) (Or.inr ⟨by rfl, rfl⟩) (by assumption) ?_
                      try simp only [Act.put, List.setIfInBounds_toArray, List.set_cons_zero, List.set_cons_succ, List.getElem_toArray, List.getElem_cons_succ, List.getElem_cons_zero]
                      refine wpAnyH_take (i := 15) (v := ?v66) rfl (by kernel_rfl) (by kernel_rfl) (by kernel_rfl) (fun _ _ _ h => h) (Or.inl ⟨by rfl, ?hy66⟩) (by assumption) ?rest66
                      case hy66 =>
                        intro w hSw
                        go_simp
                        try with_reducible rfl
                      try simp only [Act.put, List.setIfInBounds_toArray, List.set_cons_zero, List.set_cons_succ, List.getElem_toArray, List.getElem_cons_succ, List.getElem_cons_zero]
                      refine wpAnyH_done (by kernel_rfl) ?_ _
                      go_wp2_with fail
                      go_roundw
                      case rel => exact ⟨t + 1, by omega, by go_num, unhide HD10, unhide HA10, unhide HG10⟩
                      case measure => simp [intOf]; omega
                  · have ht12 : ¬ (t : Int) < 12 := by omega
                    have HD := hide hD
                    clear hD hA hG
                    go_wp2_with fail
                    refine (dks_pending (unhide HD) (by show n + 1 + j ≤ 1000000; omega)).mono ?_
                    rintro e w11 ⟨vp, dvs, rfl, hp11, ho11⟩
                    obtain ⟨ap, cp, rfl⟩ := writes_none hp11 rfl
                    have HD11 := hide ((unhide HD).same ho11)
                    clear hp11 ho11
                    go_wp2_with fail
                    refine (dks_down (unhide HD11)).mono ?_
                    rintro e w12 ⟨rfl, rfl⟩
                    rw [show ((d2 X n j).crash fs).down = false from rfl]
                    go_wp2_with fail
                    go_ret
                    exact ⟨rfl, (unhide HD11).only⟩
            · have hlt2' : ¬ (j : Int) < (m : Int) := by omega
              have HD := hide hD
              have HA := hide hA
              have HG := hide hG
              clear hD hA hG
              go_wp2_with fail
              refine (dks_crash' (unhide HD) (by show n + 1 + j ≤ 1000000; omega) _ fs ((unhide HFV).only (unhide HD).only (fun _ _ _ h => h)) (fun hne => (unhide HD).old (unhide HFV) (fun e => hne (List.map_eq_nil_iff.1 e)))).mono ?_
              rintro e w9 ⟨rfl, F9, h9⟩
              have HD9 := hide h9.dk
              obtain ⟨ha9, hnA9⟩ := h9.arr (unhide HA) hnA
              obtain ⟨hg9, hnG9⟩ := h9.arr (unhide HG) hnG
              have HA9 := hide ha9
              have HG9 := hide hg9
              clear h9 ha9 hg9 HD HA HG
              go_wp2_with fail
              go_loopw [14] (fun i wr => ∃ (t : Nat), t ≤ 12 ∧ i = .int .i64 t ∧ Dks w wr F9 B ((d2 X n j).crash fs) ∧ Arr wr Hw 53 ((wants (w1P X n)).map strV) ∧ Arr wr Ha 54 ((agains (w2P X j)).map .bool)) (fun i _ => 12 - (intOf i).toNat)
              case atStart => exact ⟨0, by decide, rfl, unhide HD9, unhide HA9, unhide HG9⟩
              case round =>
                obtain ⟨t, ht, rfl, hD, hA, hG⟩ := hrel
                by_cases hlt3 : t < 12
                · have hlt3' : (t : Int) < 12 := by omega
                  obtain ⟨ag, hag⟩ : ∃ ag, (agains (w2P X j))[t]? = some ag := ⟨_, List.getElem?_eq_getElem (by rw [agains_len]; exact hlt3)⟩
                  have hgc := fun (w' : World) (h : Arr w' Ha 54 ((agains (w2P X j)).map .bool)) => (h.cell t (.bool ag) (by rw [List.getElem?_map, hag]; rfl)).1
                  obtain ⟨wb, hwb⟩ : ∃ wb, (wants (w1P X n))[t]? = some wb := ⟨_, List.getElem?_eq_getElem (by rw [wants_len]; exact hlt3)⟩
                  have hwc := fun (w' : World) (h : Arr w' Hw 53 ((wants (w1P X n)).map strV)) => (h.cell t (strV wb) (by rw [List.getElem?_map, hwb]; rfl)).1
                  have HGC := hide hgc
                  have HWC := hide hwc
                  clear hgc hwc
                  have HD := hide hD
                  have HA := hide hA
                  have HG := hide hG
                  clear hD hA hG
                  cases ag with
                  | false =>
                    obtain ⟨hre, hrd⟩ := flushed_read X n j fs t hlt3 hag
                    rw [hwb] at hrd
                    have hrd' := Option.some.inj hrd
                    have HRE := hide hre
                    have HRD := hide hrd'
                    have HHAG := hide hag
                    have HHWB := hide hwb
                    clear hre hrd hrd' hag hwb
                    go_wp2_with fail
                    refine (dks_read (unhide HD) (by show n + 1 + j ≤ 1000000; omega) t).mono ?_
                    rintro e w10 ⟨v10, rfl, own10, ho10⟩
                    rw [unhide HRE]
                    rw [← unhide HRD] at own10
                    obtain ⟨wv, hwv⟩ : ∃ wv, wv = strV wb := ⟨_, rfl⟩
                    have cv10 : (convert 28 9 v10).run Try.prog w10.drew = .ok wv w10.drew := by rw [hwv]; exact str_conv (w := w10.drew) ((Has.ofOwns own10.out).only ((Only.refl (fun _ => False) w10).drew) (fun _ _ _ h => h))
                    have hA10 := (unhide HA).only ho10 (fun h => h)
                    have hG10 := (unhide HG).only ho10 (fun h => h)
                    have c10 : w10.drew.cell? ⟨Hw, t, none⟩ = some wv := by rw [hwv]; exact unhide HWC w10 hA10
                    have g10 : w10.drew.cell? ⟨Ha, t, none⟩ = some (.bool false) := unhide HGC w10 hG10
                    obtain ⟨wq, hwq⟩ : ∃ q, wv = .string q := ⟨str wb, hwv⟩
                    have HA10 := hide (hA10.only ((Only.refl (fun _ => False) w10).drew) (fun h => h))
                    have HG10 := hide (hG10.only ((Only.refl (fun _ => False) w10).drew) (fun h => h))
                    have HD10 := hide (((unhide HD).same ho10).same ((Only.refl (fun _ => False) w10).drew))
                    subst hwq
                    clear hA10 hG10 own10 ho10 hwv
                    go_wp2_with fail
                    refine wp_region_held_drew (S := fun w' => w'.cell? ⟨Ha, t, none⟩ = some (.bool false) ∧ w'.cell? ⟨Hw, t, none⟩ = some (.string wq) ∧ (convert 28 9 v10).run Try.prog w' = .ok (.string wq) w') (by kernel_rfl) ⟨g10, c10, cv10⟩ (fun hHeld => ?_)
                    refine wpAnyH_take (i := 0) (v := ?v67) rfl (by kernel_rfl) (by kernel_rfl) (by kernel_rfl) (fun _ _ _ h => h) (Or.inl ⟨by rfl, ?hy67⟩) (by assumption) ?rest67
                    case hy67 =>
                      intro w hSw
                      obtain ⟨hS1, hS2, hS3⟩ := hSw
                      go_simp
                      try with_reducible rfl
                    try simp only [Act.put, List.setIfInBounds_toArray, List.set_cons_zero, List.set_cons_succ, List.getElem_toArray, List.getElem_cons_succ, List.getElem_cons_zero]
                    refine wpAnyH_take (i := 1) (v := ?v68) rfl (by kernel_rfl) (by kernel_rfl) (by kernel_rfl) (fun _ _ _ h => h) (Or.inl ⟨by rfl, ?hy68⟩) (by assumption) ?rest68
                    case hy68 =>
                      intro w hSw
                      obtain ⟨hS1, hS2, hS3⟩ := hSw
                      go_simp
                      try with_reducible rfl
                    try simp only [Act.put, List.setIfInBounds_toArray, List.set_cons_zero, List.set_cons_succ, List.getElem_toArray, List.getElem_cons_succ, List.getElem_cons_zero]
                    refine wpAnyH_take (i := 2) (v := ?v69) rfl (by kernel_rfl) (by kernel_rfl) (by kernel_rfl) (fun _ _ _ h => h) (Or.inl ⟨by rfl, ?hy69⟩) (by assumption) ?rest69
                    case hy69 =>
                      intro w hSw
                      obtain ⟨hS1, hS2, hS3⟩ := hSw
                      go_simp
                      try with_reducible rfl
                    try simp only [Act.put, List.setIfInBounds_toArray, List.set_cons_zero, List.set_cons_succ, List.getElem_toArray, List.getElem_cons_succ, List.getElem_cons_zero]
                    refine wpAnyH_take (i := 3) (v := ?v70) rfl (by kernel_rfl) (by kernel_rfl) (by kernel_rfl) (fun _ _ _ h => h) (Or.inl ⟨by rfl, ?hy70⟩) (by assumption) ?rest70
                    case hy70 =>
                      intro w hSw
                      obtain ⟨hS1, hS2, hS3⟩ := hSw
                      go_simp
                      try with_reducible rfl
                    try simp only [Act.put, List.setIfInBounds_toArray, List.set_cons_zero, List.set_cons_succ, List.getElem_toArray, List.getElem_cons_succ, List.getElem_cons_zero]
                    refine wpAnyH_take (i := 4) (v := ?v71) rfl (by kernel_rfl) (by kernel_rfl) (by kernel_rfl) (fun _ _ _ h => h) (Or.inl ⟨by rfl, ?hy71⟩) (by assumption) ?rest71
                    case hy71 =>
                      intro w hSw
                      obtain ⟨hS1, hS2, hS3⟩ := hSw
                      go_simp
                      try with_reducible rfl
                    try simp only [Act.put, List.setIfInBounds_toArray, List.set_cons_zero, List.set_cons_succ, List.getElem_toArray, List.getElem_cons_succ, List.getElem_cons_zero]
                    refine wpAnyH_take (i := 5) (v := ?v72) rfl (by kernel_rfl) (by kernel_rfl) (by kernel_rfl) (fun _ _ _ h => h) (Or.inl ⟨by rfl, ?hy72⟩) (by assumption) ?rest72
                    case hy72 =>
                      intro w hSw
                      obtain ⟨hS1, hS2, hS3⟩ := hSw
                      go_simp
                      try with_reducible rfl
                    try simp only [Act.put, List.setIfInBounds_toArray, List.set_cons_zero, List.set_cons_succ, List.getElem_toArray, List.getElem_cons_succ, List.getElem_cons_zero]
                    refine wpAnyH_take (i := 6) (v := ?v73) rfl (by kernel_rfl) (by kernel_rfl) (by kernel_rfl) (fun _ _ _ h => h) (Or.inl ⟨by rfl, ?hy73⟩) (by assumption) ?rest73
                    case hy73 =>
                      intro w hSw
                      obtain ⟨hS1, hS2, hS3⟩ := hSw
                      go_simp
                      try with_reducible rfl
                    try simp only [Act.put, List.setIfInBounds_toArray, List.set_cons_zero, List.set_cons_succ, List.getElem_toArray, List.getElem_cons_succ, List.getElem_cons_zero]
                    refine wpAnyH_take (i := 7) (v := ?v74) rfl (by kernel_rfl) (by kernel_rfl) (by kernel_rfl) (fun _ _ _ h => h) (Or.inl ⟨by rfl, ?hy74⟩) (by assumption) ?rest74
                    case hy74 =>
                      intro w hSw
                      obtain ⟨hS1, hS2, hS3⟩ := hSw
                      go_simp
                      try with_reducible rfl
                    try simp only [Act.put, List.setIfInBounds_toArray, List.set_cons_zero, List.set_cons_succ, List.getElem_toArray, List.getElem_cons_succ, List.getElem_cons_zero]
                    refine wpAnyH_take (i := 8) (v := ?v75) rfl (by kernel_rfl) (by kernel_rfl) (by kernel_rfl) (fun _ _ _ h => h) (Or.inl ⟨by rfl, ?hy75⟩) (by assumption) ?rest75
                    case hy75 =>
                      intro w hSw
                      obtain ⟨hS1, hS2, hS3⟩ := hSw
                      go_simp
                      try with_reducible rfl
                    try simp only [Act.put, List.setIfInBounds_toArray, List.set_cons_zero, List.set_cons_succ, List.getElem_toArray, List.getElem_cons_succ, List.getElem_cons_zero]
                    refine wpAnyH_take (i := 9) (v := ?v76) rfl (by kernel_rfl) (by kernel_rfl) (by kernel_rfl) (fun _ _ _ h => h) (Or.inl ⟨by rfl, ?hy76⟩) (by assumption) ?rest76
                    case hy76 =>
                      intro w hSw
                      obtain ⟨hS1, hS2, hS3⟩ := hSw
                      go_simp
                      try with_reducible rfl
                    try simp only [Act.put, List.setIfInBounds_toArray, List.set_cons_zero, List.set_cons_succ, List.getElem_toArray, List.getElem_cons_succ, List.getElem_cons_zero]
                    refine wpAnyH_take (i := 10) (v := ?v77) rfl (by kernel_rfl) (by kernel_rfl) (by kernel_rfl) (fun _ _ _ h => h) (Or.inl ⟨by rfl, ?hy77⟩) (by assumption) ?rest77
                    case hy77 =>
                      intro w hSw
                      obtain ⟨hS1, hS2, hS3⟩ := hSw
                      go_simp
                      try with_reducible rfl
                    try simp only [Act.put, List.setIfInBounds_toArray, List.set_cons_zero, List.set_cons_succ, List.getElem_toArray, List.getElem_cons_succ, List.getElem_cons_zero]
                    refine wpAnyH_take (i := 11) (v := ?v78) rfl (by kernel_rfl) (by kernel_rfl) (by kernel_rfl) (fun _ _ _ h => h) (Or.inl ⟨by rfl, ?hy78⟩) (by assumption) ?rest78
                    case hy78 =>
                      intro w hSw
                      obtain ⟨hS1, hS2, hS3⟩ := hSw
                      go_simp
                      try with_reducible rfl
                    try simp only [Act.put, List.setIfInBounds_toArray, List.set_cons_zero, List.set_cons_succ, List.getElem_toArray, List.getElem_cons_succ, List.getElem_cons_zero]
                    refine wpAnyH_take (i := 12) (v := ?v79) rfl (by kernel_rfl) (by kernel_rfl) (by kernel_rfl) (fun _ _ _ h => h) (Or.inl ⟨by rfl, ?hy79⟩) (by assumption) ?rest79
                    case hy79 =>
                      intro w hSw
                      obtain ⟨hS1, hS2, hS3⟩ := hSw
                      go_simp
                      try with_reducible rfl
                    try simp only [Act.put, List.setIfInBounds_toArray, List.set_cons_zero, List.set_cons_succ, List.getElem_toArray, List.getElem_cons_succ, List.getElem_cons_zero]
                    refine wpAnyH_take (i := 13) (v := ?v80) rfl (by kernel_rfl) (by kernel_rfl) (by kernel_rfl) (fun _ _ _ h => h) (Or.inl ⟨by rfl, ?hy80⟩) (by assumption) ?rest80
                    case hy80 =>
                      intro w hSw
                      obtain ⟨hS1, hS2, hS3⟩ := hSw
                      go_simp
                      try with_reducible rfl
                    try simp only [Act.put, List.setIfInBounds_toArray, List.set_cons_zero, List.set_cons_succ, List.getElem_toArray, List.getElem_cons_succ, List.getElem_cons_zero]
                    refine wpAnyH_take (i := 14) (v := ?v81) rfl (by kernel_rfl) (by kernel_rfl) (by kernel_rfl) (fun _ _ _ h => h) (Or.inl ⟨by rfl, ?hy81⟩) (by assumption) ?rest81
                    case hy81 =>
                      intro w hSw
                      obtain ⟨hS1, hS2, hS3⟩ := hSw
                      go_simp
                      try with_reducible rfl
                    try simp only [Act.put, List.setIfInBounds_toArray, List.set_cons_zero, List.set_cons_succ, List.getElem_toArray, List.getElem_cons_succ, List.getElem_cons_zero]
                    refine wpAnyH_take (i := 15) (v := ?v82) rfl (by kernel_rfl) (by kernel_rfl) (by kernel_rfl) (fun _ _ _ h => h) (Or.inl ⟨by rfl, ?hy82⟩) (by assumption) ?rest82
                    case hy82 =>
                      intro w hSw
                      obtain ⟨hS1, hS2, hS3⟩ := hSw
                      go_simp
                      try with_reducible rfl
                    try simp only [Act.put, List.setIfInBounds_toArray, List.set_cons_zero, List.set_cons_succ, List.getElem_toArray, List.getElem_cons_succ, List.getElem_cons_zero]
                    refine wpAnyH_done (by kernel_rfl) ?_ _
                    go_wp2_with fail
                    go_roundw
                    case rel => exact ⟨t + 1, by omega, by go_num, unhide HD10, unhide HA10, unhide HG10⟩
                    case measure => simp [intOf]; omega
                  | true =>
                    have HHAG := hide hag
                    have HHWB := hide hwb
                    clear hag hwb
                    go_wp2_with fail
                    refine (dks_read (unhide HD) (by show n + 1 + j ≤ 1000000; omega) t).mono ?_
                    rintro e w10 ⟨v10, rfl, own10, ho10⟩
                    have hA10 := (unhide HA).only ho10 (fun h => h)
                    have hG10 := (unhide HG).only ho10 (fun h => h)
                    have g10 : w10.drew.cell? ⟨Ha, t, none⟩ = some (.bool true) := unhide HGC w10 hG10
                    have HA10 := hide (hA10.only ((Only.refl (fun _ => False) w10).drew) (fun h => h))
                    have HG10 := hide (hG10.only ((Only.refl (fun _ => False) w10).drew) (fun h => h))
                    have HD10 := hide (((unhide HD).same ho10).same ((Only.refl (fun _ => False) w10).drew))
                    clear hA10 hG10 own10 ho10
                    go_wp2_with fail
                    refine wp_region_held_drew (S := fun w' => w'.cell? ⟨Ha, t, none⟩ = some (.bool true)) (by kernel_rfl) g10 (fun hHeld => ?_)
                    refine wpAnyH_take (i := 0) (v := ?v83) rfl (by kernel_rfl) (by kernel_rfl) (by kernel_rfl) (fun _ _ _ h => h) (Or.inl ⟨by rfl, ?hy83⟩) (by assumption) ?rest83
                    case hy83 =>
                      intro w hSw
                      go_simp
                      try with_reducible rfl
                    try simp only [Act.put, List.setIfInBounds_toArray, List.set_cons_zero, List.set_cons_succ, List.getElem_toArray, List.getElem_cons_succ, List.getElem_cons_zero]
                    refine wpAnyH_take (i := 1) (v := ?v84) rfl (by kernel_rfl) (by kernel_rfl) (by kernel_rfl) (fun _ _ _ h => h) (Or.inl ⟨by rfl, ?hy84⟩) (by assumption) ?rest84
                    case hy84 =>
                      intro w hSw
                      go_simp
                      try with_reducible rfl
                    try simp only [Act.put, List.setIfInBounds_toArray, List.set_cons_zero, List.set_cons_succ, List.getElem_toArray, List.getElem_cons_succ, List.getElem_cons_zero]
                    refine wpAnyH_take (i := 2) (v := ?v85) rfl (by kernel_rfl) (by kernel_rfl) (by kernel_rfl) (fun _ _ _ h => h) (Or.inl ⟨by rfl, ?hy85⟩) (by assumption) ?rest85
                    case hy85 =>
                      intro w hSw
                      go_simp
                      try with_reducible rfl
                    try simp only [Act.put, List.setIfInBounds_toArray, List.set_cons_zero, List.set_cons_succ, List.getElem_toArray, List.getElem_cons_succ, List.getElem_cons_zero]
                    refine wpAnyH_take (i := 3) (v := ?v86) rfl (by kernel_rfl) (by kernel_rfl) (by kernel_rfl) (fun _ _ _ h => h) (Or.inl ⟨by rfl, ?hy86⟩) (by assumption) ?rest86
                    case hy86 =>
                      intro w hSw
                      go_simp
                      try with_reducible rfl
                    try simp only [Act.put, List.setIfInBounds_toArray, List.set_cons_zero, List.set_cons_succ, List.getElem_toArray, List.getElem_cons_succ, List.getElem_cons_zero]
                    refine wpAnyH_take (i := 4) (v := ?v87) rfl (by kernel_rfl) (by kernel_rfl) (by kernel_rfl) (fun _ _ _ h => h) (Or.inl ⟨by rfl, ?hy87⟩) (by assumption) ?rest87
                    case hy87 =>
                      intro w hSw
                      go_simp
                      try with_reducible rfl
                    try simp only [Act.put, List.setIfInBounds_toArray, List.set_cons_zero, List.set_cons_succ, List.getElem_toArray, List.getElem_cons_succ, List.getElem_cons_zero]
                    refine wpAnyH_take (i := 5) (v := undef) rfl (by kernel_rfl) (by kernel_rfl) (by kernel_rfl) (fun _ _ _ h => h) (Or.inr ⟨by rfl, rfl⟩) (by assumption) ?_
                    try simp only [Act.put, List.setIfInBounds_toArray, List.set_cons_zero, List.set_cons_succ, List.getElem_toArray, List.getElem_cons_succ, List.getElem_cons_zero]
                    refine wpAnyH_take (i := 6) (v := undef) rfl (by kernel_rfl) (by kernel_rfl) (by kernel_rfl) (fun _ _ _ h => h) (Or.inr ⟨by rfl, rfl⟩) (by assumption) ?_
                    try simp only [Act.put, List.setIfInBounds_toArray, List.set_cons_zero, List.set_cons_succ, List.getElem_toArray, List.getElem_cons_succ, List.getElem_cons_zero]
                    refine wpAnyH_take (i := 7) (v := undef) rfl (by kernel_rfl) (by kernel_rfl) (by kernel_rfl) (fun _ _ _ h => h) (Or.inr ⟨by rfl, rfl⟩) (by assumption) ?_
                    try simp only [Act.put, List.setIfInBounds_toArray, List.set_cons_zero, List.set_cons_succ, List.getElem_toArray, List.getElem_cons_succ, List.getElem_cons_zero]
                    refine wpAnyH_take (i := 8) (v := undef) rfl (by kernel_rfl) (by kernel_rfl) (by kernel_rfl) (fun _ _ _ h => h) (Or.inr ⟨by rfl, rfl⟩) (by assumption) ?_
                    try simp only [Act.put, List.setIfInBounds_toArray, List.set_cons_zero, List.set_cons_succ, List.getElem_toArray, List.getElem_cons_succ, List.getElem_cons_zero]
                    refine wpAnyH_take (i := 9) (v := undef) rfl (by kernel_rfl) (by kernel_rfl) (by kernel_rfl) (fun _ _ _ h => h) (Or.inr ⟨by rfl, rfl⟩) (by assumption) ?_
                    try simp only [Act.put, List.setIfInBounds_toArray, List.set_cons_zero, List.set_cons_succ, List.getElem_toArray, List.getElem_cons_succ, List.getElem_cons_zero]
                    refine wpAnyH_take (i := 10) (v := undef) rfl (by kernel_rfl) (by kernel_rfl) (by kernel_rfl) (fun _ _ _ h => h) (Or.inr ⟨by rfl, rfl⟩) (by assumption) ?_
                    try simp only [Act.put, List.setIfInBounds_toArray, List.set_cons_zero, List.set_cons_succ, List.getElem_toArray, List.getElem_cons_succ, List.getElem_cons_zero]
                    refine wpAnyH_take (i := 11) (v := undef) rfl (by kernel_rfl) (by kernel_rfl) (by kernel_rfl) (fun _ _ _ h => h) (Or.inr ⟨by rfl, rfl⟩) (by assumption) ?_
                    try simp only [Act.put, List.setIfInBounds_toArray, List.set_cons_zero, List.set_cons_succ, List.getElem_toArray, List.getElem_cons_succ, List.getElem_cons_zero]
                    refine wpAnyH_take (i := 12) (v := undef) rfl (by kernel_rfl) (by kernel_rfl) (by kernel_rfl) (fun _ _ _ h => h) (Or.inr ⟨by rfl, rfl⟩) (by assumption) ?_
                    try simp only [Act.put, List.setIfInBounds_toArray, List.set_cons_zero, List.set_cons_succ, List.getElem_toArray, List.getElem_cons_succ, List.getElem_cons_zero]
                    refine wpAnyH_take (i := 13) (v := undef) rfl (by kernel_rfl) (by kernel_rfl) (by kernel_rfl) (fun _ _ _ h => h) (Or.inr ⟨by rfl, rfl⟩) (by assumption) ?_
                    try simp only [Act.put, List.setIfInBounds_toArray, List.set_cons_zero, List.set_cons_succ, List.getElem_toArray, List.getElem_cons_succ, List.getElem_cons_zero]
                    refine wpAnyH_take (i := 14) (v := undef) rfl (by kernel_rfl) (by kernel_rfl) (by kernel_rfl) (fun _ _ _ h => h) (Or.inr ⟨by rfl, rfl⟩) (by assumption) ?_
                    try simp only [Act.put, List.setIfInBounds_toArray, List.set_cons_zero, List.set_cons_succ, List.getElem_toArray, List.getElem_cons_succ, List.getElem_cons_zero]
                    refine wpAnyH_take (i := 15) (v := ?v88) rfl (by kernel_rfl) (by kernel_rfl) (by kernel_rfl) (fun _ _ _ h => h) (Or.inl ⟨by rfl, ?hy88⟩) (by assumption) ?rest88
                    case hy88 =>
                      intro w hSw
                      go_simp
                      try with_reducible rfl
                    try simp only [Act.put, List.setIfInBounds_toArray, List.set_cons_zero, List.set_cons_succ, List.getElem_toArray, List.getElem_cons_succ, List.getElem_cons_zero]
                    refine wpAnyH_done (by kernel_rfl) ?_ _
                    go_wp2_with fail
                    go_roundw
                    case rel => exact ⟨t + 1, by omega, by go_num, unhide HD10, unhide HA10, unhide HG10⟩
                    case measure => simp [intOf]; omega
                · have ht12 : ¬ (t : Int) < 12 := by omega
                  have HD := hide hD
                  clear hD hA hG
                  go_wp2_with fail
                  refine (dks_pending (unhide HD) (by show n + 1 + j ≤ 1000000; omega)).mono ?_
                  rintro e w11 ⟨vp, dvs, rfl, hp11, ho11⟩
                  obtain ⟨ap, cp, rfl⟩ := writes_none hp11 rfl
                  have HD11 := hide ((unhide HD).same ho11)
                  clear hp11 ho11
                  go_wp2_with fail
                  refine (dks_down (unhide HD11)).mono ?_
                  rintro e w12 ⟨rfl, rfl⟩
                  rw [show ((d2 X n j).crash fs).down = false from rfl]
                  go_wp2_with fail
                  go_ret
                  exact ⟨rfl, (unhide HD11).only⟩

end Go.Proofs.Ytjhcmhdekppplaa
