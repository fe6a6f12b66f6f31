/-
  locksmithref8: boxes.
-/
import Derived.Test.YtdmcnblnoiahcaaAeRMix
import Derived.Test.YtdmcnblnoiahcaaAeS4
namespace Go.Proofs.Ytdmcnblnoiahcaa
open Go.RowKit
set_option linter.unusedSimpArgs false
set_option linter.unusedVariables false
namespace Ae
def zero256 : List UInt8 := List.replicate 256 0
theorem Try.size256 : (Try.prog.info? 81).map (·.size) = some 256 := by kernel_rfl
theorem Try.info256 : (Try.prog.info? 81).map (fun i => (i.zero, i.size, i.bytes)) = some (some (.agg (zero256.map bv).toArray), 256, 256) := by kernel_rfl
theorem zv256 (w : World) : (zeroValue 81).run Try.prog w = .ok (.agg (zero256.map bv).toArray) w := by
  obtain ⟨i0, hi, hz0, hz1, hz2⟩ := info_parts Try.info256
  simp [zeroValue, typeInfo, hi, hz0]

/-- the boxes, there and back -/
def tbox : List UInt8 := (List.range 256).map fun i => box (UInt8.ofNat i)
def tback (n : Nat) : List UInt8 := (List.range 256).map fun p => if (unbox (UInt8.ofNat p)).toNat < n then unbox (UInt8.ofNat p) else 0
theorem tbox_len : tbox.length = 256 := by simp [tbox]
theorem tback_len (n : Nat) : (tback n).length = 256 := by simp [tback]
theorem tbox_at (n : Nat) (h : n < 256) : tbox[n]? = some (box (UInt8.ofNat n)) := range_at _ 256 n h
theorem tback_at (m n : Nat) (h : n < 256) : (tback m)[n]? = some (if (unbox (UInt8.ofNat n)).toNat < m then unbox (UInt8.ofNat n) else 0) := range_at _ 256 n h
theorem tback_zero : tback 0 = zero256 := by
  unfold tback zero256
  simp only [Nat.not_lt_zero, if_false]
  rw [List.map_const', List.length_range]
theorem tback_all (b : UInt8) : (tback 256)[b.toNat]? = some (unbox b) := by
  rw [tback_at 256 _ b.toNat_lt, UInt8.ofNat_toNat, if_pos (unbox b).toNat_lt]
theorem tbox_all (b : UInt8) : tbox[b.toNat]? = some (box b) := by
  rw [tbox_at _ b.toNat_lt, UInt8.ofNat_toNat]
theorem tback_step (n : Nat) (h : n < 256) : (tback n).set (box (UInt8.ofNat n)).toNat (UInt8.ofNat n) = tback (n + 1) := by
  have hn : (UInt8.ofNat n).toNat = n := by simp; omega
  apply List.ext_getElem?
  intro p
  rw [List.getElem?_set]
  by_cases hp : p < 256
  · rw [tback_at (n + 1) p hp]
    by_cases e : (box (UInt8.ofNat n)).toNat = p
    · rw [if_pos e, if_pos (by rw [tback_len]; exact (box (UInt8.ofNat n)).toNat_lt)]
      rw [← e, UInt8.ofNat_toNat, unbox_box, hn, if_pos (by omega)]
    · rw [if_neg e, tback_at n p hp]
      have hne : (unbox (UInt8.ofNat p)).toNat ≠ n := by
        intro h2
        apply e
        have h3 : unbox (UInt8.ofNat p) = UInt8.ofNat n := UInt8.toNat_inj.1 (by rw [h2, hn])
        rw [← h3, box_unbox]
        simp; omega
      by_cases h4 : (unbox (UInt8.ofNat p)).toNat < n
      · rw [if_pos h4, if_pos (by omega)]
      · rw [if_neg h4, if_neg (by omega)]
  · have h1 : (box (UInt8.ofNat n)).toNat ≠ p := by have := (box (UInt8.ofNat n)).toNat_lt; omega
    rw [if_neg h1, List.getElem?_eq_none (by rw [tback_len]; omega), List.getElem?_eq_none (by rw [tback_len]; omega)]

theorem results_two {P : Program} {fn : Func} {p q : Tmp} {ty : TypeId} (h : fn.results = #[.cell p ty, .cell q ty]) (tmps : Array Value) (w : World) (g g' : Nat) (t t' : TypeId) (cs ds : Array Value) (d : TypeDesc)
    (hp : tmps.getD p undef = .pointer (some ⟨g, 0, none⟩)) (hq : tmps.getD q undef = .pointer (some ⟨g', 0, none⟩)) (hg : w.heap[g]? = some (.cells cs t (0, 0))) (hg' : w.heap[g']? = some (.cells ds t' (0, 0)))
    (hu : P.underlying ty = some d) (hd : (match d with | .struct _ | .array _ _ => true | _ => false) = true) (hi : (P.info? ty).map (·.size) = some cs.size) (hi' : (P.info? ty).map (·.size) = some ds.size) :
    (results fn tmps).run P w = .ok (.tuple #[.agg cs, .agg ds]) w := by
  have hp' : tmps[p]?.getD undef = .pointer (some ⟨g, 0, none⟩) := by simpa using hp
  have hq' : tmps[q]?.getD undef = .pointer (some ⟨g', 0, none⟩) := by simpa using hq
  simp [results, h, hp', hq', asAddr, run_loadVar_row w g t ty cs (0, 0) d hg hu hd hi, run_loadVar_row w g' t' ty ds (0, 0) d hg' hu hd hi']

structure Pair (s1 s2 : List UInt8) (b1 b2 : Nat) (wr w' : World) : Prop where
  one : Arr w' b1 81 s1
  two : Arr w' b2 81 s2
  only : Only (fun j => j = b1 ∨ j = b2) wr w'
theorem Pair.set1 {s1 s2 : List UInt8} {b1 b2 : Nat} {wr w' : World} (h : Pair s1 s2 b1 b2 wr w') (hn : b1 ≠ b2) : Pair s1 s2 b1 b2 wr (w'.setCells b1 0 (s1.map bv).toArray.toList) :=
  ⟨h.one.stored s1 rfl, h.two.only (Only.setCells (S := fun j => j = b1) (fun _ => rfl) _ _ _ (Only.refl _ _)) (fun e => hn e.symm), Only.setCells (fun _ => Or.inl rfl) _ _ _ h.only⟩
theorem Pair.set2 {s1 s2 : List UInt8} {b1 b2 : Nat} {wr w' : World} (h : Pair s1 s2 b1 b2 wr w') (hn : b1 ≠ b2) : Pair s1 s2 b1 b2 wr (w'.setCells b2 0 (s2.map bv).toArray.toList) :=
  ⟨h.one.only (Only.setCells (S := fun j => j = b2) (fun _ => rfl) _ _ _ (Only.refl _ _)) hn, h.two.stored s2 rfl, Only.setCells (fun _ => Or.inr rfl) _ _ _ h.only⟩
theorem Pair.drew {s1 s2 : List UInt8} {b1 b2 : Nat} {wr w' : World} (h : Pair s1 s2 b1 b2 wr w') : Pair s1 s2 b1 b2 wr w'.drew :=
  ⟨h.one.only ((Only.refl (fun _ => False) _).drew) (fun e => e), h.two.only ((Only.refl (fun _ => False) _).drew) (fun e => e), h.only.drew⟩

set_option maxRecDepth 100000 in
theorem boxes_any (w : World) :
    Calls Try.prog 48 #[] w fun e w' => e = .returned (.tuple #[.agg (tbox.map bv).toArray, .agg ((tback 256).map bv).toArray]) ∧ Only (fun _ => False) w w' := by
  obtain ⟨w2, b1, b2, e2, eb2, eb1, a1, a2, o2, n12, hbb⟩ := two w zero256 zero256 81 81
  have hzv := zv256
  have ZV := hide hzv
  go_enter Try.func48, Try.ntmps48
  go_upto_region 1 with fail
  rw [← e2, ← eb2, ← eb1]
  clear e2 eb2 eb1 hzv
  have A1 := hide a1
  have A2 := hide a2
  have O2 := hide o2
  have HB := hide hbb
  clear a1 a2 o2 hbb
  go_wp2
  go_loopw [2, 3] (fun i _ wr => ∃ n : Nat, n ≤ 256 ∧ i = .int .i64 n ∧ Arr wr b1 81 (mixd tbox zero256 n) ∧ Arr wr b2 81 (tback n) ∧ Only (fun j => j = b1 ∨ j = b2) w2 wr) (fun i _ _ => 256 - (intOf i).toNat)
  case atStart => exact ⟨0, Nat.zero_le _, rfl, by rw [mixd_zero]; exact unhide A1, by rw [tback_zero]; exact unhide A2, Only.refl _ _⟩
  case round =>
    obtain ⟨n, hn, rfl, har, hab, hor⟩ := hrel
    by_cases hlt : n < 256
    · have hm := mixd_at tbox zero256 256 n tbox_len rfl hlt
      rw [show zero256[n]? = some 0 by unfold zero256; rw [List.getElem?_replicate, if_pos hlt]] at hm
      have hc := har.cell n _ hm
      have hf := har.free n
      have h1 := har.set n (box (UInt8.ofNat n))
      rw [mixd_set _ _ 256 n tbox_len rfl hlt _ (tbox_at n hlt)] at h1
      have h2 := hab.other (i := n) (.int .u8 ((box (UInt8.ofNat n)).toNat : Int)) (fun e => n12 e.symm)
      have hp : (box (UInt8.ofNat n)).toNat < 256 := (box (UInt8.ofNat n)).toNat_lt
      have hc2 := h2.cell (box (UInt8.ofNat n)).toNat _ (tback_at n _ hp)
      have hf2 := h2.free (box (UInt8.ofNat n)).toNat
      have h3 := h2.set (box (UInt8.ofNat n)).toNat (UInt8.ofNat n)
      rw [tback_step n hlt] at h3
      have h4 := h1.other (i := (box (UInt8.ofNat n)).toNat) (.int .u8 ((UInt8.ofNat n).toNat : Int)) n12
      have HO := hide ((hor.setCell (p := ⟨b1, n, none⟩) (fun _ => Or.inl rfl) (.int .u8 ((box (UInt8.ofNat n)).toNat : Int))).setCell (p := ⟨b2, (box (UInt8.ofNat n)).toNat, none⟩) (fun _ => Or.inr rfl) (.int .u8 ((UInt8.ofNat n).toNat : Int)))
      have H3 := hide h3
      have H4 := hide h4
      have HR := hide (rbox_any (UInt8.ofNat n))
      have hx : IntKind.u8.wrap (n : Int) = ((UInt8.ofNat n).toNat : Int) := by
        simp [IntKind.wrap, IntKind.signed, IntKind.bits]
      clear hm har hab h1 h2 h3 h4 hor
      generalize box (UInt8.ofNat n) = y at *
      generalize UInt8.ofNat n = x at *
      generalize (if (unbox (UInt8.ofNat y.toNat)).toNat < n then unbox (UInt8.ofNat y.toNat) else 0) = z at *
      have hn15 : (n : Int) < 256 := by omega
      have hy15 : (y.toNat : Int) < 256 := by omega
      clear hn hlt hp
      go_wp2_with fail
      refine (unhide HR _).mono ?_
      rintro e wx ⟨rfl, hwx⟩
      rw [hwx]
      clear hwx wx
      go_wp2
      go_roundw
      case rel => exact ⟨n + 1, by omega, by go_num, unhide H4, unhide H3, unhide HO⟩
      case measure => simp [intOf]; omega
    · obtain rfl : n = 256 := by omega
      rw [mixd_all _ _ 256 tbox_len rfl] at har
      have HA := hide har
      have HBk := hide hab
      have PP := hide (Pair.mk har hab (Only.refl _ wr))
      have HO := hide hor
      clear har hab hor hn hlt
      go_upto_region 7 with fail
      have l1 := tbox_len
      have l2 := tback_len 256
      generalize hT1 : tbox = T1 at *
      have HT1 := hide hT1
      clear hT1
      generalize hT2 : tback 256 = T2 at *
      have HT2 := hide hT2
      clear hT2
      refine wp_region_held_drew (S := (fun w' => Pair T1 T2 b1 b2 wr w')) (by kernel_rfl) ((unhide PP).drew) (fun hHeld => ?_)
      refine wpAnyH_take (i := 0) (v := ?v26) rfl (by kernel_rfl) (by kernel_rfl) (by kernel_rfl) (fun _ _ _ h => h) (Or.inl ⟨by rfl, ?hy26⟩) (by assumption) ?rest26
      case hy26 =>
        intro w hSw
        (refine exec_load_mid 81 (.tmp 0) ?_ b1 0 ?_ (T1.map bv) _ hSw.one.range Try.under256 rfl (by rw [Try.size256]; simp [l1]) <;> rfl)
      try simp only [Act.put, List.setIfInBounds_toArray, List.set_cons_zero, List.set_cons_succ, List.getElem_toArray, List.getElem_cons_succ, List.getElem_cons_zero]
      refine wpAnyH_take (i := 1) (v := ?v27) rfl (by kernel_rfl) (by kernel_rfl) (by kernel_rfl) (fun _ _ _ h => h) (Or.inl ⟨by rfl, ?hy27⟩) (by assumption) ?rest27
      case hy27 =>
        intro w hSw
        (refine exec_load_mid 81 (.tmp 1) ?_ b2 0 ?_ (T2.map bv) _ hSw.two.range Try.under256 rfl (by rw [Try.size256]; simp [l2]) <;> rfl)
      try simp only [Act.put, List.setIfInBounds_toArray, List.set_cons_zero, List.set_cons_succ, List.getElem_toArray, List.getElem_cons_succ, List.getElem_cons_zero]
      refine wpAnyH_ready (rs := [2]) (by kernel_rfl) (by simp) ?_
      refine AllReadyH.cons rfl (fun K hK => ?_) AllReadyH.nil
      refine step_store_mid rfl 81 (.tmp 0) (.tmp 18) rfl b1 0 (T1.map bv).toArray rfl rfl ((unhide PP).drew.one.there _ (by simp)) (by rw [Try.size256]; simp [l1]) (ag_one _) ?_
      refine hK.out _ _ (((unhide PP).drew.set1 n12)) (fun hHeld => ?_)
      clear hK K
      try simp only [Act.put, List.setIfInBounds_toArray, List.set_cons_zero, List.set_cons_succ, List.getElem_toArray, List.getElem_cons_succ, List.getElem_cons_zero]
      have P2 := hide ((unhide PP).drew.set1 n12)
      refine wpAnyH_ready (rs := [3]) (by kernel_rfl) (by simp) ?_
      refine AllReadyH.cons rfl (fun K hK => ?_) AllReadyH.nil
      refine step_store_mid rfl 81 (.tmp 1) (.tmp 19) rfl b2 0 (T2.map bv).toArray rfl rfl ((unhide P2).two.there _ (by simp)) (by rw [Try.size256]; simp [l2]) (ag_one _) ?_
      refine hK.out _ _ (((unhide P2).set2 n12)) (fun hHeld => ?_)
      clear hK K
      try simp only [Act.put, List.setIfInBounds_toArray, List.set_cons_zero, List.set_cons_succ, List.getElem_toArray, List.getElem_cons_succ, List.getElem_cons_zero]
      refine wpAnyH_done (by kernel_rfl) ?_ _
      go_wp2
      have P3 := (unhide P2).set2 n12
      refine bodyPost_ret (results_two rfl _ _ b1 b2 81 81 (T1.map bv).toArray (T2.map bv).toArray _ rfl rfl P3.one.out P3.two.out Try.under256 rfl (by rw [Try.size256]; simp [l1]) (by rw [Try.size256]; simp [l2])) rfl ?_
      exact ⟨by rw [unhide HT1, unhide HT2], (unhide O2).trans ((unhide HO).trans P3.only (fun _ _ e => e)) (fun j hj e => by have := (unhide HB) j hj; omega)⟩
end Ae
end Go.Proofs.Ytdmcnblnoiahcaa
