/-
  locksmithref8: a Cipher in memory; its key.
-/
import Derived.Test.YtdmcnblnoiahcaaAeRBox
import Derived.Test.YtdmcnblnoiahcaaAeBlk2
namespace Go.Proofs.Ytdmcnblnoiahcaa
open Go.RowKit
set_option linter.unusedSimpArgs false
set_option linter.unusedVariables false
namespace Ae

/-- a reference's cipher: its words, the boxes -/
def RCip (w : World) (cb m : Nat) (bs : List UInt8) : Prop := bs.length = 16 * m ∧ ∃ g cap, w.heap[cb]? = some (.cells ([Value.slice (some ⟨g, 0, none⟩) (4 * m) cap] ++ (tbox.map bv ++ (tback 256).map bv)).toArray 83 (0, 0)) ∧
  w.ownsRow 0 86 4 (.slice (some ⟨g, 0, none⟩) (4 * m) cap) (4 * m) (bs.map bv)
theorem RCip.only {S : Nat → Prop} {w w' : World} {cb m : Nat} {bs : List UInt8} (h : RCip w cb m bs) (ho : Only S w w') (hS : ∀ i, i < w.heap.size → ¬ S i) : RCip w' cb m bs := by
  obtain ⟨hl, g, cap, hb, hr⟩ := h
  exact ⟨hl, g, cap, ho.heap hb (hS _ (lt_of_block hb)), ho.owns hr (fun k hk => hS k (hr.lt k hk).2)⟩
theorem RCip.new {w w' : World} {cb m : Nat} {bs : List UInt8} (h : RCip w cb m bs) (ho : Only (fun _ => False) w w') : RCip w' cb m bs := h.only ho (fun _ _ e => e)

theorem rc_zero {w : World} {cb : Nat} {t : TypeId} {v : Value} {l : List Value} (h : w.heap[cb]? = some (.cells ([v] ++ l).toArray t (0, 0))) : w.cell? ⟨cb, 0, none⟩ = some v := by
  rw [cell_of_row w cb 0 _ t _ h]
  simp
theorem rc_there {w : World} {cb : Nat} {t : TypeId} {v : Value} {x y : List UInt8} (h : w.heap[cb]? = some (.cells ([v] ++ (x.map bv ++ y.map bv)).toArray t (0, 0))) (i : Nat) (u : UInt8) (hu : x[i]? = some u) : w.cell? ⟨cb, 1 + i, none⟩ = some (.int .u8 (u.toNat : Int)) := by
  rw [cell_of_row w cb (1 + i) _ t _ h]
  have hi : i < x.length := (List.getElem?_eq_some_iff.1 hu).1
  rw [List.getElem?_toArray, List.getElem?_append_right (by simp), List.getElem?_append_left (by simp; omega), List.getElem?_map]
  rw [show 1 + i - [v].length = i by simp, hu]
  rfl
theorem rc_back {w : World} {cb : Nat} {t : TypeId} {v : Value} {x y : List UInt8} (h : w.heap[cb]? = some (.cells ([v] ++ (x.map bv ++ y.map bv)).toArray t (0, 0))) (hx : x.length = 256) (i : Nat) (u : UInt8) (hu : y[i]? = some u) : w.cell? ⟨cb, 257 + i, none⟩ = some (.int .u8 (u.toNat : Int)) := by
  rw [cell_of_row w cb (257 + i) _ t _ h]
  rw [List.getElem?_toArray, List.getElem?_append_right (by simp; omega), List.getElem?_append_right (by simp; omega), List.getElem?_map]
  rw [show 257 + i - [v].length - (x.map bv).length = i by simp; omega, hu]
  rfl

set_option maxRecDepth 100000 in
set_option maxHeartbeats 2000000 in
theorem rkey_any (cb m rd : Nat) (bs s : List UInt8) (hs : s.length = 16) (hrd : rd < m) (hm : m ≤ 15) (w : World) (hc : RCip w cb m bs) :
    Calls Try.prog 50 #[.pointer (some ⟨cb, 0, none⟩), .agg (s.map bv).toArray, .int .i64 rd] w fun e w' => e = .returned (.agg ((added s (blkOf bs rd)).map bv).toArray) ∧ Only (fun _ => False) w w' := by
  obtain ⟨hbl, g, cap, hcb, hrow⟩ := hc
  have hkl := blkOf_length bs m rd hbl hrd
  have hal := added_length hs hkl
  obtain ⟨w3, b1, b3, e3, eb3, eb1, a1, a3, o3, n13, hb⟩ := two w s zero16 36 36
  go_enter Try.func50, Try.ntmps50
  go_upto_region 1 with fail
  rw [zeros_eq, ← e3, ← eb3, ← eb1]
  clear e3 eb3 eb1
  have A1 := hide a1
  have A3 := hide a3
  have O3 := hide o3
  have HB := hide hb
  have HC0 := hide (rc_zero hcb)
  have HRW := hide hrow
  clear a1 a3 o3 hb hcb hrow
  go_wp2
  go_loopw [7] (fun i wr => ∃ n : Nat, n ≤ 16 ∧ i = .int .i64 n ∧ Arr wr b1 36 (mixd (added s (blkOf bs rd)) s n) ∧ Only (fun j => j = b1) w3 wr) (fun i _ => 16 - (intOf i).toNat)
  case atStart => exact ⟨0, Nat.zero_le _, rfl, by rw [mixd_zero]; exact unhide A1, Only.refl _ _⟩
  case round =>
    obtain ⟨n, hn, rfl, har, hor⟩ := hrel
    by_cases hlt : n < 16
    · have hm0 := mixd_at (added s (blkOf bs rd)) s 16 n hal hs hlt
      rw [gt_some s n (by omega)] at hm0
      have hc := har.cell n _ hm0
      have hf := har.free n
      have hw2 := har.set n (gt s n ^^^ gt (blkOf bs rd) n)
      rw [mixd_set _ _ 16 n hal hs hlt _ (added_at s (blkOf bs rd) n (by omega) (by omega))] at hw2
      have HW := hide hw2
      have HO := hide (hor.here n (.int .u8 ((gt s n ^^^ gt (blkOf bs rd) n).toNat : Int)))
      have hx := xor_bv (gt s n) (gt (blkOf bs rd) n)
      have oo : Only (fun _ => False) w wr := (unhide O3).trans hor (fun j hj e => ((unhide HB) j hj).1 e)
      obtain ⟨a, ha⟩ : ∃ a, a = n / 4 := ⟨_, rfl⟩
      obtain ⟨d, hd⟩ : ∃ d, d = n % 4 := ⟨_, rfl⟩
      obtain ⟨p, hp⟩ : ∃ p, p = 4 * rd := ⟨_, rfl⟩
      obtain ⟨u, hu⟩ : ∃ u, u = p + a := ⟨_, rfl⟩
      obtain ⟨M, hM⟩ : ∃ M, M = 4 * m := ⟨_, rfl⟩
      have hd4 : d < 4 := by omega
      have huM : u < M := by omega
      have hMb : M ≤ 60 := by omega
      have hug : u * 4 + d = 16 * rd + n := by omega
      have M1 : Hid (IntKind.i64.wrap (4 * (rd : Int)) = (p : Int)) := by show _ = _; rw [wrap_small _ (by omega) (by omega)]; omega
      have M2 : Hid (IntKind.i64.wrap ((n : Int) / 4) = (a : Int)) := by show _ = _; rw [wrap_small _ (by omega) (by omega)]; omega
      have M3 : Hid (IntKind.i64.wrap ((p : Int) + (a : Int)) = (u : Int)) := by show _ = _; rw [wrap_small _ (by omega) (by omega)]; omega
      have M4 : Hid ((n : Int).tmod 4 = (d : Int)) := by show _ = _; rw [Int.tmod_eq_emod_of_nonneg (by omega)]; omega
      have M4' : Hid ((n : Int) % 4 = (d : Int)) := by show _ = _; omega
      have hc0 := oo.cell (unhide HC0) (fun e => e)
      rw [← hM] at hc0
      have hcw : w.cell? ⟨g, u * 4 + d, none⟩ = some (.int .u8 ((gt (blkOf bs rd) n).toNat : Int)) := by
        rw [(unhide HRW).cellAt _ (by omega), List.getElem?_map, hug, ← blkOf_at bs rd n hlt, gt_some _ n (by omega)]
        rfl
      have HCW := hide (oo.cell hcw (fun e => e))
      have HC0r := hide hc0
      have HC := hide hc
      clear hm0 hw2 har hor hcw hc0 hc oo hp ha hd hu hug hM hbl hkl hal
      generalize gt s n ^^^ gt (blkOf bs rd) n = z at *
      generalize gt s n = x at *
      generalize gt (blkOf bs rd) n = y at *
      have hn15 : (n : Int) < 16 := by omega
      have hd3 : (d : Int) < 4 := by omega
      have huM2 : (u : Int) < (M : Int) := by omega
      go_wp2
      refine wp_region_last_drew (S := (fun w' => Only (fun _ => False) wr w')) 20 (by kernel_rfl) ((Only.refl _ _).drew) (fun hHeld => ?_)
      refine wpAnyL_take (i := 0) (v := ?v28) rfl (by kernel_rfl) (by kernel_rfl) (by kernel_rfl) (by kernel_rfl) (fun _ _ _ h => h) (Or.inl ⟨by rfl, ?hy28⟩) (by assumption) ?rest28
      case hy28 =>
        intro w hSw
        go_simp
        try with_reducible rfl
      try simp only [Act.put, List.setIfInBounds_toArray, List.set_cons_zero, List.set_cons_succ, List.getElem_toArray, List.getElem_cons_succ, List.getElem_cons_zero]
      refine wpAnyL_take (i := 1) (v := ?v29) rfl (by kernel_rfl) (by kernel_rfl) (by kernel_rfl) (by kernel_rfl) (fun _ _ _ h => h) (Or.inl ⟨by rfl, ?hy29⟩) (by assumption) ?rest29
      case hy29 =>
        intro w hSw
        go_simp
        try with_reducible rfl
      try simp only [Act.put, List.setIfInBounds_toArray, List.set_cons_zero, List.set_cons_succ, List.getElem_toArray, List.getElem_cons_succ, List.getElem_cons_zero]
      refine wpAnyL_take (i := 2) (v := ?v30) rfl (by kernel_rfl) (by kernel_rfl) (by kernel_rfl) (by kernel_rfl) (fun _ _ _ h => h) (Or.inl ⟨by rfl, ?hy30⟩) (by assumption) ?rest30
      case hy30 =>
        intro w hSw
        go_simp
        try with_reducible rfl
      try simp only [Act.put, List.setIfInBounds_toArray, List.set_cons_zero, List.set_cons_succ, List.getElem_toArray, List.getElem_cons_succ, List.getElem_cons_zero]
      refine wpAnyL_take (i := 3) (v := ?v31) rfl (by kernel_rfl) (by kernel_rfl) (by kernel_rfl) (by kernel_rfl) (fun _ _ _ h => h) (Or.inl ⟨by rfl, ?hy31⟩) (by assumption) ?rest31
      case hy31 =>
        intro w hSw
        (have q := hSw.cell (unhide HC) (fun e => e); go_simp; try with_reducible rfl)
      try simp only [Act.put, List.setIfInBounds_toArray, List.set_cons_zero, List.set_cons_succ, List.getElem_toArray, List.getElem_cons_succ, List.getElem_cons_zero]
      refine wpAnyL_take (i := 4) (v := ?v32) rfl (by kernel_rfl) (by kernel_rfl) (by kernel_rfl) (by kernel_rfl) (fun _ _ _ h => h) (Or.inl ⟨by rfl, ?hy32⟩) (by assumption) ?rest32
      case hy32 =>
        intro w hSw
        go_simp
        try with_reducible rfl
      try simp only [Act.put, List.setIfInBounds_toArray, List.set_cons_zero, List.set_cons_succ, List.getElem_toArray, List.getElem_cons_succ, List.getElem_cons_zero]
      refine wpAnyL_take (i := 5) (v := ?v33) rfl (by kernel_rfl) (by kernel_rfl) (by kernel_rfl) (by kernel_rfl) (fun _ _ _ h => h) (Or.inl ⟨by rfl, ?hy33⟩) (by assumption) ?rest33
      case hy33 =>
        intro w hSw
        go_simp
        try with_reducible rfl
      try simp only [Act.put, List.setIfInBounds_toArray, List.set_cons_zero, List.set_cons_succ, List.getElem_toArray, List.getElem_cons_succ, List.getElem_cons_zero]
      refine wpAnyL_take (i := 6) (v := ?v34) rfl (by kernel_rfl) (by kernel_rfl) (by kernel_rfl) (by kernel_rfl) (fun _ _ _ h => h) (Or.inl ⟨by rfl, ?hy34⟩) (by assumption) ?rest34
      case hy34 =>
        intro w hSw
        go_simp
        try with_reducible rfl
      try simp only [Act.put, List.setIfInBounds_toArray, List.set_cons_zero, List.set_cons_succ, List.getElem_toArray, List.getElem_cons_succ, List.getElem_cons_zero]
      refine wpAnyL_take (i := 7) (v := ?v35) rfl (by kernel_rfl) (by kernel_rfl) (by kernel_rfl) (by kernel_rfl) (fun _ _ _ h => h) (Or.inl ⟨by rfl, ?hy35⟩) (by assumption) ?rest35
      case hy35 =>
        intro w hSw
        (have q := hSw.cell (unhide HC0r) (fun e => e); go_simp; try with_reducible rfl)
      try simp only [Act.put, List.setIfInBounds_toArray, List.set_cons_zero, List.set_cons_succ, List.getElem_toArray, List.getElem_cons_succ, List.getElem_cons_zero]
      refine wpAnyL_take (i := 8) (v := ?v36) rfl (by kernel_rfl) (by kernel_rfl) (by kernel_rfl) (by kernel_rfl) (fun _ _ _ h => h) (Or.inl ⟨by rfl, ?hy36⟩) (by assumption) ?rest36
      case hy36 =>
        intro w hSw
        go_simp
        try with_reducible rfl
      try simp only [Act.put, List.setIfInBounds_toArray, List.set_cons_zero, List.set_cons_succ, List.getElem_toArray, List.getElem_cons_succ, List.getElem_cons_zero]
      refine wpAnyL_take (i := 9) (v := ?v37) rfl (by kernel_rfl) (by kernel_rfl) (by kernel_rfl) (by kernel_rfl) (fun _ _ _ h => h) (Or.inl ⟨by rfl, ?hy37⟩) (by assumption) ?rest37
      case hy37 =>
        intro w hSw
        (go_simp; rw [unhide M1]; try with_reducible rfl)
      try simp only [Act.put, List.setIfInBounds_toArray, List.set_cons_zero, List.set_cons_succ, List.getElem_toArray, List.getElem_cons_succ, List.getElem_cons_zero]
      refine wpAnyL_take (i := 10) (v := ?v38) rfl (by kernel_rfl) (by kernel_rfl) (by kernel_rfl) (by kernel_rfl) (fun _ _ _ h => h) (Or.inl ⟨by rfl, ?hy38⟩) (by assumption) ?rest38
      case hy38 =>
        intro w hSw
        go_simp
        try with_reducible rfl
      try simp only [Act.put, List.setIfInBounds_toArray, List.set_cons_zero, List.set_cons_succ, List.getElem_toArray, List.getElem_cons_succ, List.getElem_cons_zero]
      refine wpAnyL_take (i := 11) (v := ?v39) rfl (by kernel_rfl) (by kernel_rfl) (by kernel_rfl) (by kernel_rfl) (fun _ _ _ h => h) (Or.inl ⟨by rfl, ?hy39⟩) (by assumption) ?rest39
      case hy39 =>
        intro w hSw
        (go_simp; rw [unhide M2]; try with_reducible rfl)
      try simp only [Act.put, List.setIfInBounds_toArray, List.set_cons_zero, List.set_cons_succ, List.getElem_toArray, List.getElem_cons_succ, List.getElem_cons_zero]
      refine wpAnyL_take (i := 12) (v := ?v40) rfl (by kernel_rfl) (by kernel_rfl) (by kernel_rfl) (by kernel_rfl) (fun _ _ _ h => h) (Or.inl ⟨by rfl, ?hy40⟩) (by assumption) ?rest40
      case hy40 =>
        intro w hSw
        (go_simp; rw [unhide M3]; try with_reducible rfl)
      try simp only [Act.put, List.setIfInBounds_toArray, List.set_cons_zero, List.set_cons_succ, List.getElem_toArray, List.getElem_cons_succ, List.getElem_cons_zero]
      refine wpAnyL_take (i := 13) (v := ?v41) rfl (by kernel_rfl) (by kernel_rfl) (by kernel_rfl) (by kernel_rfl) (fun _ _ _ h => h) (Or.inl ⟨by rfl, ?hy41⟩) (by assumption) ?rest41
      case hy41 =>
        intro w hSw
        go_simp
        try with_reducible rfl
      try simp only [Act.put, List.setIfInBounds_toArray, List.set_cons_zero, List.set_cons_succ, List.getElem_toArray, List.getElem_cons_succ, List.getElem_cons_zero]
      refine wpAnyL_take (i := 14) (v := ?v42) rfl (by kernel_rfl) (by kernel_rfl) (by kernel_rfl) (by kernel_rfl) (fun _ _ _ h => h) (Or.inl ⟨by rfl, ?hy42⟩) (by assumption) ?rest42
      case hy42 =>
        intro w hSw
        (go_simp; (first | rw [unhide M4] | rw [unhide M4']); try with_reducible rfl)
      try simp only [Act.put, List.setIfInBounds_toArray, List.set_cons_zero, List.set_cons_succ, List.getElem_toArray, List.getElem_cons_succ, List.getElem_cons_zero]
      refine wpAnyL_take (i := 15) (v := ?v43) rfl (by kernel_rfl) (by kernel_rfl) (by kernel_rfl) (by kernel_rfl) (fun _ _ _ h => h) (Or.inl ⟨by rfl, ?hy43⟩) (by assumption) ?rest43
      case hy43 =>
        intro w hSw
        go_simp
        try with_reducible rfl
      try simp only [Act.put, List.setIfInBounds_toArray, List.set_cons_zero, List.set_cons_succ, List.getElem_toArray, List.getElem_cons_succ, List.getElem_cons_zero]
      refine wpAnyL_take (i := 16) (v := ?v44) rfl (by kernel_rfl) (by kernel_rfl) (by kernel_rfl) (by kernel_rfl) (fun _ _ _ h => h) (Or.inl ⟨by rfl, ?hy44⟩) (by assumption) ?rest44
      case hy44 =>
        intro w hSw
        go_simp
        try with_reducible rfl
      try simp only [Act.put, List.setIfInBounds_toArray, List.set_cons_zero, List.set_cons_succ, List.getElem_toArray, List.getElem_cons_succ, List.getElem_cons_zero]
      refine wpAnyL_take (i := 17) (v := ?v45) rfl (by kernel_rfl) (by kernel_rfl) (by kernel_rfl) (by kernel_rfl) (fun _ _ _ h => h) (Or.inl ⟨by rfl, ?hy45⟩) (by assumption) ?rest45
      case hy45 =>
        intro w hSw
        (have q := hSw.cell (unhide HCW) (fun e => e); go_simp; try with_reducible rfl)
      try simp only [Act.put, List.setIfInBounds_toArray, List.set_cons_zero, List.set_cons_succ, List.getElem_toArray, List.getElem_cons_succ, List.getElem_cons_zero]
      refine wpAnyL_take (i := 18) (v := ?v46) rfl (by kernel_rfl) (by kernel_rfl) (by kernel_rfl) (by kernel_rfl) (fun _ _ _ h => h) (Or.inl ⟨by rfl, ?hy46⟩) (by assumption) ?rest46
      case hy46 =>
        intro w hSw
        go_simp
        try with_reducible rfl
      try simp only [Act.put, List.setIfInBounds_toArray, List.set_cons_zero, List.set_cons_succ, List.getElem_toArray, List.getElem_cons_succ, List.getElem_cons_zero]
      refine wpAnyL_take (i := 19) (v := ?v47) rfl (by kernel_rfl) (by kernel_rfl) (by kernel_rfl) (by kernel_rfl) (fun _ _ _ h => h) (Or.inl ⟨by rfl, ?hy47⟩) (by assumption) ?rest47
      case hy47 =>
        intro w hSw
        go_simp
        try with_reducible rfl
      try simp only [Act.put, List.setIfInBounds_toArray, List.set_cons_zero, List.set_cons_succ, List.getElem_toArray, List.getElem_cons_succ, List.getElem_cons_zero]
      have hc4 := unhide HC
      refine wpAnyL_ready (rs := [20]) (by kernel_rfl) (by simp) ?_
      refine AllReadyL.last rfl (fun K hK => ?_)
      go_simp
      refine hK.out _ _ (trivial) (fun hHeld => ?_)
      clear hK K
      try simp only [Act.put, List.setIfInBounds_toArray, List.set_cons_zero, List.set_cons_succ, List.getElem_toArray, List.getElem_cons_succ, List.getElem_cons_zero]
      refine wpAnyL_done (by kernel_rfl) ?_ _
      go_wp2
      go_roundw
      case rel => exact ⟨n + 1, by omega, by go_num, unhide HW, (unhide HO).drew⟩
      case measure => simp [intOf]; omega
    · obtain rfl : n = 16 := by omega
      rw [mixd_all _ _ 16 hal hs] at har
      have hr1 := har.range
      have ht3 := (((unhide A3).only hor (fun e => n13 e.symm))).there 16 rfl
      have HA3 := hide ((unhide A3).only hor (fun e => n13 e.symm))
      have HOR := hide hor
      clear har hor
      generalize hl : added s (blkOf bs rd) = l at *
      have HLE := hide hl
      clear hl
      go_wp2_with (first
        | (refine wpList_load_mid rfl 36 (.tmp 4) rfl b1 0 rfl (l.map bv) _ hr1 Try.under16 rfl (by rw [Try.size16]; simp [hal]) ?_)
        | (refine wpList_store_mid rfl 36 (.tmp 6) (.tmp 32) rfl b3 0 (l.map bv).toArray rfl rfl (by simpa [hal] using ht3) (by rw [Try.size16]; simp [hal]) (ag_one _) ?_))
      refine bodyPost_ret (results_cell_row rfl _ _ b3 36 _ _ _ rfl ((unhide HA3).stored _ (by rw [hal]; rfl)).out Try.under16 rfl (by rw [Try.size16]; simp [hal])) rfl ?_
      exact ⟨by rw [← unhide HLE], done13 (unhide O3) (unhide HOR) (unhide HB)⟩
end Ae
end Go.Proofs.Ytdmcnblnoiahcaa
