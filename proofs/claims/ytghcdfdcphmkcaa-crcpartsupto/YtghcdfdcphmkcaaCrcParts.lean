/-
  CrcParts and CrcTurns.
-/
import Derived.Test.YtghcdfdcphmkcaaCrcLaws
namespace Go.Proofs.Ytghcdfdcphmkcaa
open Go.RowKit
set_option linter.unusedSimpArgs false
set_option linter.unusedVariables false
namespace Crc

theorem parts_any (av bv' cv : Value) (xs bs cs : List UInt8) (w : World) (ha : Has w av xs) (hb : Has w bv' bs) (hc : Has w cv cs) (hl : xs.length + bs.length + cs.length ≤ 140737488355328) :
    Calls Try.prog 5 #[av, bv', cv] w fun e w' => e = .returned (.bool true) ∧ Only (fun _ => False) w w' := by
  obtain ⟨i0, hi, hz0, hz1, hz2⟩ := info_parts Try.info5
  obtain ⟨ao, ac, hav, hac, ham⟩ := ha.shape
  subst hav
  have HA := hide ha
  have HB := hide hb
  have HC := hide hc
  clear ha hb hc
  go_enter Try.func5, Try.ntmps5
  go_wp2_with fail
  refine (few_any _ xs xs.length _ (unhide HA) (Or.inl (by omega))).mono ?_
  rintro e w1 ⟨v1, rfl, own1, o1⟩
  rw [List.take_length] at own1
  have HO := hide own1
  clear own1
  have HA1 := hide ((unhide HA).only o1 (fun _ _ _ h => h))
  have HB1 := hide ((unhide HB).only o1 (fun _ _ _ h => h))
  have HC1 := hide ((unhide HC).only o1 (fun _ _ _ h => h))
  have hv1 : ∀ k, v1.ownBlock = some k → w.heap.size ≤ k := fun k hk => ((unhide HO).out.lt _ hk).1
  go_wp2_with (first
    | (at_builtin; refine wpList_append_has rfl (.tmp 11) (.tmp 12) 25 rfl w.heap.size 5 i0 Try.underlying25 hi hz0 hz1 hz2 _ xs.length (xs.map bv) rfl (unhide HO) _ bs rfl (unhide HB1) (by omega) o1.size ?_; intro ao2 cap2 w2 own2 gr2 at2; have o2 : Only (fun _ => False) w w2 := o1.grown gr2 (fun k hk hl => by have := hv1 k hk; omega); have HC2 : Hid (Has w2 cv cs) := (unhide HC).only o2 (fun _ _ _ h => h); have OW2 := hide own2; have AT2 := hide at2; clear own2 at2)
    | (at_builtin; refine wpList_append_has rfl (.tmp 13) (.tmp 14) 25 rfl w.heap.size 5 i0 Try.underlying25 hi hz0 hz1 hz2 _ (xs.length + bs.length) (xs.map bv ++ bs.map bv) rfl (unhide OW2) _ cs rfl (unhide HC2) (by omega) o2.size ?_; intro ao3 cap3 w3 own3 gr3 at3; have o3 : Only (fun _ => False) w w3 := o2.grown gr3 (fun k hk hl => by have := ((unhide OW2).lt _ hk).1; omega); have OW3 := hide own3; clear own3 at3))
  have HALL : Hid (Has w3 (.slice ao3 (xs.length + bs.length + cs.length) cap3) (xs ++ bs ++ cs)) := Has.ofOwns (base := w.heap.size) (e := 5) (by simpa using unhide OW3)
  have HA3 := hide ((unhide HA).only o3 (fun _ _ _ h => h))
  have HB3 := hide ((unhide HB).only o3 (fun _ _ _ h => h))
  have HC3 := hide ((unhide HC).only o3 (fun _ _ _ h => h))
  clear OW3 OW2 AT2 HC2 HA HB HC HA1 HB1 HC1 HO gr2 gr3
  refine (known_any _).mono ?_
  rintro e w4 ⟨rfl, o4⟩
  have o4' : Only (fun _ => False) w w4 := o3.trans o4 (fun _ _ h => h)
  have HALL4 := hide ((unhide HALL).only o4 (fun _ _ _ h => h))
  have HA4 := hide ((unhide HA3).only o4 (fun _ _ _ h => h))
  have HB4 := hide ((unhide HB3).only o4 (fun _ _ _ h => h))
  have HC4 := hide ((unhide HC3).only o4 (fun _ _ _ h => h))
  clear HALL HA3 HB3 HC3
  have hsx := more_lt 0 xs (by omega)
  have hsb := more_lt _ bs hsx
  have hsc := more_lt _ cs hsb
  have HE : Hid (more 0 (xs ++ bs ++ cs) = more (more (more 0 xs) bs) cs) := by
    show more 0 (xs ++ bs ++ cs) = _
    rw [more_append, more_append]
  go_wp2_with fail
  refine (sum_any _ _ _ (unhide HALL4)).mono ?_
  rintro e w5 ⟨rfl, rfl⟩
  rw [unhide HE]
  go_wp2_with fail
  refine (sum_any _ _ _ (unhide HA4)).mono ?_
  rintro e w5 ⟨rfl, rfl⟩
  go_wp2_with fail
  refine (more_any _ _ _ _ hsx (unhide HB4)).mono ?_
  rintro e w5 ⟨rfl, rfl⟩
  go_wp2_with fail
  refine (more_any _ _ _ _ hsb (unhide HC4)).mono ?_
  rintro e w5 ⟨rfl, rfl⟩
  go_wp2_with fail
  refine (sum_any _ _ _ (unhide HA4)).mono ?_
  rintro e w5 ⟨rfl, rfl⟩
  go_wp2_with fail
  refine (more_any _ _ [] _ hsx (Or.inl ⟨rfl, rfl⟩)).mono ?_
  rintro e w5 ⟨rfl, rfl⟩
  rw [more_nil]
  go_wp2_with fail
  refine (sum_any _ _ _ (unhide HA4)).mono ?_
  rintro e w5 ⟨rfl, rfl⟩
  go_wp2
  go_ret
  exact ⟨rfl, o4'⟩

theorem xor_ne (b y : UInt8) (hy : y ≠ 0) : b ^^^ y ≠ b := by
  intro h
  have : b ^^^ (b ^^^ y) = b ^^^ b := by rw [h]
  rw [← UInt8.xor_assoc, UInt8.xor_self, UInt8.zero_xor] at this
  exact hy this

theorem turns_no (xv : Value) (xs : List UInt8) (n k : Int) (y : UInt8) (w : World) (h : Has w xv xs) (hl : xs.length ≤ 140737488355328) (h2 : (n.tmod 2 == 0) = false) :
    Calls Try.prog 6 #[xv, .int .i64 n, .int .i64 k, .int .u8 (y.toNat : Int)] w fun e w' => e = .returned (.bool true) ∧ Only (fun _ => False) w w' := by
  obtain ⟨ao, ac, hav, hac, ham⟩ := h.shape
  subst hav
  have HX := hide h
  clear h
  go_enter Try.func6, Try.ntmps6
  go_wp2_with fail
  refine (known_any _).mono ?_
  rintro e w1 ⟨rfl, o1⟩
  have HX1 := hide ((unhide HX).only o1 (fun _ _ _ h => h))
  have HBL : Hid (∀ k, blk (.slice ao xs.length ac) = some k → xs ≠ [] → k < w1.heap.size) := fun k hk hne => (unhide HX1).blk_lt hne k hk
  clear HX
  by_cases h0 : xs = []
  · subst h0
    go_wp2_with fail
    refine (known_any _).mono ?_
    rintro e w2 ⟨rfl, o2⟩
    go_wp2
    go_ret
    exact ⟨rfl, o1.trans o2 (fun _ _ h => h)⟩
  have hpos : 0 < xs.length := by cases xs with | nil => exact absurd rfl h0 | cons _ _ => simp
  have hlen0 : ((xs.length : Int) == 0) = false := by rw [beq_eq_false_iff_ne]; omega
  clear h0
  by_cases hy : y = 0
  · subst hy
    go_wp2_with fail
    refine (known_any _).mono ?_
    rintro e w2 ⟨rfl, o2⟩
    go_wp2
    go_ret
    exact ⟨rfl, o1.trans o2 (fun _ _ h => h)⟩
  have hyb : ((y.toNat : Int) == 0) = false := by
    rw [beq_eq_false_iff_ne]
    intro e
    exact hy (UInt8.toNat_inj.1 (by simpa using e))
  go_wp2_with fail
  refine (few_any _ xs xs.length _ (unhide HX1) (Or.inl (by omega))).mono ?_
  rintro e w2 ⟨v2, rfl, own2, o2⟩
  rw [List.take_length] at own2
  obtain ⟨g, cap, hv2, hg, hg2⟩ := own2.out.form hpos
  subst hv2
  have OW := hide own2
  clear own2
  have HX2 := hide ((unhide HX1).only o2 (fun _ _ _ h => h))
  clear HX1
  go_wp2_with fail
  refine (pick_any k xs.length _ (by omega) (by omega)).mono ?_
  rintro e w2' ⟨rfl, rfl⟩
  obtain ⟨j, hj, hj2⟩ : ∃ j : Nat, k % (xs.length : Int) = (j : Int) ∧ j < xs.length := by
    have k1 := Int.emod_nonneg k (by omega : (xs.length : Int) ≠ 0)
    have k2 := Int.emod_lt_of_pos k (by omega : (0 : Int) < xs.length)
    exact ⟨(k % (xs.length : Int)).toNat, by omega, by omega⟩
  rw [hj]
  clear hj
  have hc : w2'.cell? ⟨g, j, none⟩ = some (.int .u8 ((xs[j]'hj2).toNat : Int)) := by
    have := (unhide OW).out.cellAt j (by omega)
    rw [List.getElem?_map, List.getElem?_eq_getElem hj2] at this
    exact this
  have hf := (unhide OW).out.frozenAt j
  have hb1 := (xs[j]'hj2).toNat_lt
  have hb2 := y.toNat_lt
  have hx8 : bits .xor .u8 ((xs[j]'hj2).toNat : Int) (y.toNat : Int) = (((xs[j]'hj2) ^^^ y).toNat : Int) := by
    rw [u8_xor_nat _ _ (by omega) (by omega), UInt8.toNat_xor]
  have HS := hide ((unhide OW).out.stored j (bv ((xs[j]'hj2) ^^^ y)))
  have HNE := hide (more_set 0 xs j hj2 ((xs[j]'hj2) ^^^ y) (xor_ne _ _ hy) (by omega))
  generalize (xs[j]'hj2) ^^^ y = z at *
  generalize (xs[j]'hj2).toNat = old at *
  clear OW
  go_wp2_with fail
  obtain ⟨w3, hw3⟩ : ∃ w3, w3 = w2'.setCell ⟨g, j, none⟩ (.int .u8 (z.toNat : Int)) := ⟨_, rfl⟩
  have hst := unhide HS
  have o3 : Only (fun k => k = g) w2' w3 := by rw [hw3]; exact (Only.refl _ _).here _ _
  have H3 : Hid (Has w3 (.slice (some ⟨g, 0, none⟩) xs.length cap) (xs.set j z)) := by
    show Has _ _ _
    rw [hw3]
    refine Has.ofOwns (base := w1.heap.size) (e := 5) (n := xs.length) ?_
    rw [List.map_set]
    exact hst.1
  have HX3 : Hid (Has w3 (.slice ao xs.length ac) xs) := (unhide HX2).only o3 (fun hne k hk e => by
    subst e
    have := HBL.out k hk hne
    omega)
  rw [← hw3]
  clear hst HS hw3
  refine (sum_any _ _ _ (unhide H3)).mono ?_
  rintro e w4 ⟨rfl, rfl⟩
  go_wp2_with fail
  refine (sum_any _ _ _ (unhide HX3)).mono ?_
  rintro e w5 ⟨rfl, rfl⟩
  have hne : (((more 0 (xs.set j z) : Nat) : Int) != ((more 0 xs : Nat) : Int)) = true := by
    rw [bne_iff_ne]
    intro e
    exact unhide HNE (by omega)
  generalize more 0 (xs.set j z) = q1 at *
  generalize more 0 xs = q2 at *
  go_wp2
  go_ret
  exact ⟨rfl, o1.trans (o2.trans o3 (fun i hi e => by subst e; omega)) (fun _ _ h => h)⟩

theorem turns_yes (xv : Value) (n k : Int) (y : UInt8) (w : World) (h2 : (n.tmod 2 == 0) = true) (hn1 : -9223372036854775808 ≤ n) (hn2 : n ≤ 9223372036854775807) :
    Calls Try.prog 6 #[xv, .int .i64 n, .int .i64 k, .int .u8 (y.toNat : Int)] w fun e w' => e = .returned (.bool true) ∧ Only (fun _ => False) w w' := by
  go_enter Try.func6, Try.ntmps6
  go_wp2_with fail
  refine (pick_any n 200 _ (by omega) (by omega)).mono ?_
  rintro e w0 ⟨rfl, rfl⟩
  obtain ⟨m, hm, hm2⟩ : ∃ m : Nat, n % 200 = (m : Int) ∧ m < 200 := ⟨(n % 200).toNat, by omega, by omega⟩
  rw [hm]
  clear hm
  go_wp2_with fail
  rw [show (1 + (m : Int)) = ((1 + m : Nat) : Int) by omega]
  refine (handBytes_any (1 + m) n _ (by omega) hn1 hn2).mono ?_
  rintro e w0' ⟨xv, rfl, hmd⟩
  have hl : (rawBytes (1 + m) n).length ≤ 140737488355328 := by rw [rawBytes_length]; omega
  have HX := hide (Has.ofOwns hmd.own)
  have o0 := hmd.only
  clear hmd
  generalize rawBytes (1 + m) n = xs at *
  obtain ⟨ao, ac, hav, hac, ham⟩ := (unhide HX).shape
  subst hav
  go_wp2_with fail
  refine (known_any _).mono ?_
  rintro e w1 ⟨rfl, o01⟩
  have HX1 := hide ((unhide HX).only o01 (fun _ _ _ h => h))
  have HBL : Hid (∀ k, blk (.slice ao xs.length ac) = some k → xs ≠ [] → k < w1.heap.size) := fun k hk hne => (unhide HX1).blk_lt hne k hk
  have o1 := o0.trans o01 (fun _ _ h => h)
  clear HX
  by_cases h0 : xs = []
  · subst h0
    go_wp2_with fail
    refine (known_any _).mono ?_
    rintro e w2 ⟨rfl, o2⟩
    go_wp2
    go_ret
    exact ⟨rfl, o1.trans o2 (fun _ _ h => h)⟩
  have hpos : 0 < xs.length := by cases xs with | nil => exact absurd rfl h0 | cons _ _ => simp
  have hlen0 : ((xs.length : Int) == 0) = false := by rw [beq_eq_false_iff_ne]; omega
  clear h0
  by_cases hy : y = 0
  · subst hy
    go_wp2_with fail
    refine (known_any _).mono ?_
    rintro e w2 ⟨rfl, o2⟩
    go_wp2
    go_ret
    exact ⟨rfl, o1.trans o2 (fun _ _ h => h)⟩
  have hyb : ((y.toNat : Int) == 0) = false := by
    rw [beq_eq_false_iff_ne]
    intro e
    exact hy (UInt8.toNat_inj.1 (by simpa using e))
  go_wp2_with fail
  refine (few_any _ xs xs.length _ (unhide HX1) (Or.inl (by omega))).mono ?_
  rintro e w2 ⟨v2, rfl, own2, o2⟩
  rw [List.take_length] at own2
  obtain ⟨g, cap, hv2, hg, hg2⟩ := own2.out.form hpos
  subst hv2
  have OW := hide own2
  clear own2
  have HX2 := hide ((unhide HX1).only o2 (fun _ _ _ h => h))
  clear HX1
  go_wp2_with fail
  refine (pick_any k xs.length _ (by omega) (by omega)).mono ?_
  rintro e w2' ⟨rfl, rfl⟩
  obtain ⟨j, hj, hj2⟩ : ∃ j : Nat, k % (xs.length : Int) = (j : Int) ∧ j < xs.length := by
    have k1 := Int.emod_nonneg k (by omega : (xs.length : Int) ≠ 0)
    have k2 := Int.emod_lt_of_pos k (by omega : (0 : Int) < xs.length)
    exact ⟨(k % (xs.length : Int)).toNat, by omega, by omega⟩
  rw [hj]
  clear hj
  have hc : w2'.cell? ⟨g, j, none⟩ = some (.int .u8 ((xs[j]'hj2).toNat : Int)) := by
    have := (unhide OW).out.cellAt j (by omega)
    rw [List.getElem?_map, List.getElem?_eq_getElem hj2] at this
    exact this
  have hf := (unhide OW).out.frozenAt j
  have hb1 := (xs[j]'hj2).toNat_lt
  have hb2 := y.toNat_lt
  have hx8 : bits .xor .u8 ((xs[j]'hj2).toNat : Int) (y.toNat : Int) = (((xs[j]'hj2) ^^^ y).toNat : Int) := by
    rw [u8_xor_nat _ _ (by omega) (by omega), UInt8.toNat_xor]
  have HS := hide ((unhide OW).out.stored j (bv ((xs[j]'hj2) ^^^ y)))
  have HNE := hide (more_set 0 xs j hj2 ((xs[j]'hj2) ^^^ y) (xor_ne _ _ hy) (by omega))
  generalize (xs[j]'hj2) ^^^ y = z at *
  generalize (xs[j]'hj2).toNat = old at *
  clear OW
  go_wp2_with fail
  obtain ⟨w3, hw3⟩ : ∃ w3, w3 = w2'.setCell ⟨g, j, none⟩ (.int .u8 (z.toNat : Int)) := ⟨_, rfl⟩
  have hst := unhide HS
  have o3 : Only (fun k => k = g) w2' w3 := by rw [hw3]; exact (Only.refl _ _).here _ _
  have H3 : Hid (Has w3 (.slice (some ⟨g, 0, none⟩) xs.length cap) (xs.set j z)) := by
    show Has _ _ _
    rw [hw3]
    refine Has.ofOwns (base := w1.heap.size) (e := 5) (n := xs.length) ?_
    rw [List.map_set]
    exact hst.1
  have HX3 : Hid (Has w3 (.slice ao xs.length ac) xs) := (unhide HX2).only o3 (fun hne k hk e => by
    subst e
    have := HBL.out k hk hne
    omega)
  rw [← hw3]
  clear hst HS hw3
  refine (sum_any _ _ _ (unhide H3)).mono ?_
  rintro e w4 ⟨rfl, rfl⟩
  go_wp2_with fail
  refine (sum_any _ _ _ (unhide HX3)).mono ?_
  rintro e w5 ⟨rfl, rfl⟩
  have hne : (((more 0 (xs.set j z) : Nat) : Int) != ((more 0 xs : Nat) : Int)) = true := by
    rw [bne_iff_ne]
    intro e
    exact unhide HNE (by omega)
  generalize more 0 (xs.set j z) = q1 at *
  generalize more 0 xs = q2 at *
  go_wp2
  go_ret
  exact ⟨rfl, o1.trans (o2.trans o3 (fun i hi e => by subst e; omega)) (fun _ _ h => h)⟩

end Crc
end Go.Proofs.Ytghcdfdcphmkcaa
