/-
  locksmithref8: New, whatever the key; block, xor.
  locksmithref8: block, xor.
-/
import Derived.Test.YtdmcnblnoiahcaaAeRN16
import Derived.Test.YtdmcnblnoiahcaaAeRN24
import Derived.Test.YtdmcnblnoiahcaaAeRN32
import Derived.Test.YtdmcnblnoiahcaaAeROpen
import Derived.Test.YtdmcnblnoiahcaaMdFine
import Derived.Test.YtdmcnblnoiahcaaMdC
import Derived.Test.YtdmcnblnoiahcaaHeldL
import Derived.Test.YtdmcnblnoiahcaaMdB
import Derived.Test.YtdmcnblnoiahcaaAeRSeal
import Derived.Lib.SlBuf
namespace Go.Proofs.Ytdmcnblnoiahcaa
open Go.RowKit
set_option linter.unusedSimpArgs false
set_option linter.unusedVariables false
namespace Md
open Ae (zero16 Arr ag_one range_only after exec_load_mid step_store_mid RCip added added_length added_at mixd mixd_zero mixd_all mixd_at mixd_set gt gt_some xor_bv done13 rnew_16 rnew_24 rnew_32 two)

theorem rnew_fine (key : List UInt8) (h : keyB key) (v : Value) (w : World) (hx : Has w v key) :
    Calls Try.prog 30 #[v] w fun e w' => ∃ cb, e = .returned (.tuple #[.pointer (some ⟨cb, 0, none⟩), .bool true]) ∧ RCip w' cb (mOf key) (kbOf key) ∧ Only (fun _ => False) w w' := by
  obtain ⟨b, o, cap, rfl⟩ := key_shape hx (keyB_pos h)
  unfold mOf kbOf
  rcases h with h | h | h <;> rw [h] at hx ⊢
  · exact rnew_16 b o cap key h w hx
  · exact rnew_24 b o cap key h w hx
  · exact rnew_32 b o cap key h w hx

set_option maxRecDepth 100000 in
set_option maxHeartbeats 1000000 in
theorem rnew_bad (ao : Option Addr) (l cap : Nat) (h1 : l ≠ 16) (h2 : l ≠ 24) (h3 : l ≠ 32) (w : World) :
    Calls Try.prog 30 #[.slice ao l cap] w fun e w' => e = .returned (.tuple #[.pointer none, .bool false]) ∧ w' = w := by
  have h1' : ((l : Int) == 16) = false := by simp; omega
  have h2' : ((l : Int) == 24) = false := by simp; omega
  have h3' : ((l : Int) == 32) = false := by simp; omega
  have g1 : ((l : Int) != 16) = true := by simp; omega
  have g2 : ((l : Int) != 24) = true := by simp; omega
  have g3 : ((l : Int) != 32) = true := by simp; omega
  go_enter Try.func30, Try.ntmps30
  go_wp2
  go_ret2
  exact ⟨rfl, rfl⟩
theorem rnew_not (key : List UInt8) (h : ¬ keyB key) (v : Value) (w : World) (hx : Has w v key) :
    Calls Try.prog 30 #[v] w fun e w' => e = .returned (.tuple #[.pointer none, .bool false]) ∧ w' = w := by
  obtain ⟨ao, cap, rfl, _⟩ := hx.shape
  exact rnew_bad ao key.length cap (fun e => h (Or.inl e)) (fun e => h (Or.inr (Or.inl e))) (fun e => h (Or.inr (Or.inr e))) w

theorem racts_seal (key : List UInt8) (h : keyB key) {w : World} {cb : Nat} (hc : RCip w cb (mOf key) (kbOf key)) : Acts w 32 cb (sealF key) := fun s W hs ho =>
  Ae.rseal_any cb (mOf key) (kbOf key) s hs (by unfold mOf; omega) (by unfold mOf; rcases h with h | h | h <;> omega) W (hc.new ho)
end Md
end Go.Proofs.Ytdmcnblnoiahcaa

namespace Go.Proofs.Ytdmcnblnoiahcaa
open Go.RowKit
set_option linter.unusedSimpArgs false
set_option linter.unusedVariables false
namespace Md
open Ae (zero16 Arr ag_one range_only after exec_load_mid step_store_mid added added_length added_at mixd mixd_zero mixd_all mixd_at mixd_set gt gt_some xor_bv done13 two)

theorem added_comm (a b : List UInt8) : added a b = added b a := by
  unfold added
  rw [List.zipWith_comm]
  congr 1
  funext x y
  exact UInt8.xor_comm _ _

/-- copy(x[:], bytes) into 16 -/
theorem copy16 {x : World} {b : Nat} {t : TypeId} {old bs : List UInt8} {v : Value} (h : Arr x b t old) (ho : old.length = 16) (hv : Has x v bs) :
    ∃ n w', (Builtin.copy_ #[22, 22] 3 #[.slice (some ⟨b, 0, none⟩) 16 16, v]).run Try.prog x = .ok n w' ∧ Arr w' b t ((bs.take 16 ++ old.drop (bs.take 16).length)) ∧ Only (fun j => j = b) x w' := by
  obtain ⟨ao, cap, rfl, _⟩ := hv.shape
  by_cases h0 : bs.length = 0
  · have hr := run_copy_none (P := Try.prog) x 22 22 3 5 (some ⟨b, 0, none⟩) ao 16 16 bs.length cap Try.underlying22 Try.size5 (by rw [h0]; rfl)
    refine ⟨_, x, hr, ?_, Only.refl _ _⟩
    rw [List.eq_nil_of_length_eq_zero h0]
    exact h
  · obtain ⟨sb, so, rfl, _, hc⟩ := hv.at (by omega)
    have hl : (bs.take 16).length = Nat.min bs.length 16 := by rw [List.length_take]; exact Nat.min_comm _ _
    have hr := run_copy_row (P := Try.prog) x 22 22 3 5 b 0 16 16 ⟨sb, so, none⟩ bs.length cap (old.map bv).toArray t ((bs.take 16).map bv) Try.underlying22 Try.size5 h.out
      (by rw [List.length_map, hl]) (fun j u hu => by
        have hj : j < (bs.take 16).length := by have := (List.getElem?_eq_some_iff.1 hu).1; simpa using this
        have hj2 : j < bs.length ∧ j < 16 := by rw [List.length_take] at hj; omega
        rw [addr_add _ rfl, hc j hj2.1]
        rw [List.getElem?_map, List.getElem?_take, if_pos hj2.2, List.getElem?_eq_getElem hj2.1] at hu
        simpa using hu) (by rw [List.length_map, List.size_toArray, List.length_map, ho]; rw [List.length_take]; omega) (fun u hu => by obtain ⟨y, _, rfl⟩ := List.mem_map.1 hu; rfl)
    refine ⟨_, _, hr, ?_, ⟨rfl, rfl, rfl, by simp [World.setRow], fun j _ hj => setRow_other x b j _ hj⟩⟩
    unfold Arr
    rw [setRow_heap x b _ _ _ _ h.out]
    simp [List.map_drop]

theorem two' (w : World) (t1 t3 : TypeId) : ∃ w3 b1 b3, w3 = (w.alloc (.cells (zero16.map bv).toArray t1)).alloc (.cells (zero16.map bv).toArray t3) ∧ b3 = w.heap.size + 1 ∧ b1 = w.heap.size ∧
    Arr w3 b1 t1 zero16 ∧ Arr w3 b3 t3 zero16 ∧ Only (fun _ => False) w w3 ∧ b1 ≠ b3 ∧ (∀ j, j < w.heap.size → j ≠ b1 ∧ j ≠ b3) := two w zero16 zero16 t1 t3

theorem ivS_eq (bs : List UInt8) : bs.take 16 ++ zero16.drop (bs.take 16).length = ivS bs := by
  unfold ivS
  rw [List.take_append, List.take_of_length_le (show (bs.take 16).length ≤ 16 by rw [List.length_take]; omega)]
  congr 1
  unfold zero16
  rw [List.drop_replicate, List.take_replicate]
  congr 1
  omega

set_option maxRecDepth 100000 in
set_option maxHeartbeats 2000000 in
theorem rblock_any (v : Value) (bs : List UInt8) (w : World) (hx : Has w v bs) :
    Calls Try.prog 34 #[v] w fun e w' => e = .returned (.agg ((ivS bs).map bv).toArray) ∧ Only (fun _ => False) w w' := by
  obtain ⟨w3, b1, b3, e3, eb3, eb1, a1, a3, o3, n13, hb⟩ := two' w 36 36
  go_enter Try.func34, Try.ntmps34
  go_upto_region 2 with fail
  rw [Ae.zeros_eq, ← e3, ← eb3, ← eb1]
  clear e3 eb3 eb1
  obtain ⟨nv, w4, hr, a4, o4⟩ := copy16 a3 rfl (hx.only o3 (fun _ _ _ e => e))
  rw [ivS_eq] at a4
  have hil := ivS_length bs
  obtain ⟨I, hI⟩ : ∃ I, I = ivS bs := ⟨_, rfl⟩
  rw [← hI] at a4 hil
  have HI := hide hI
  clear hI
  have A1 := hide (a1.only o4 (fun e => n13 e))
  have O34 := hide o3
  have O4 := hide o4
  have HB := hide hb
  have hr1 := a4.range
  have HT := hide (Ae.there16 (unhide A1) rfl hil)
  have HZ := hide (Ae.size16s hil)
  have HIL := hide hil
  clear a1 a3 a4 o3 o4 hx hb hil
  go_wp2_with (first
    | (at_builtin; refine Lib.wpList_copy_run _ rfl (.tmp 4) (.tmp 5) 22 22 rfl _ _ rfl rfl hr ?_)
    | (refine wpList_load_mid rfl 36 (.tmp 3) rfl b3 0 rfl (I.map bv) _ hr1 Ae.Try.under16 rfl (by rw [Ae.Try.size16]; simp [unhide HIL]) ?_)
    | (refine wpList_store_mid rfl 36 (.tmp 2) (.tmp 7) rfl b1 0 (I.map bv).toArray rfl rfl (unhide HT) (unhide HZ) (ag_one _) ?_))
  refine bodyPost_ret (results_cell_row rfl _ _ b1 36 _ _ _ rfl ((unhide A1).stored I (by rw [unhide HIL]; rfl)).out Ae.Try.under16 rfl (by rw [Ae.Try.size16]; simp [unhide HIL])) rfl ?_
  exact ⟨by rw [← unhide HI], done13 (unhide O34) (unhide O4) (fun j hj => ⟨((unhide HB) j hj).2, ((unhide HB) j hj).1⟩)⟩

set_option maxRecDepth 100000 in
set_option maxHeartbeats 2000000 in
theorem rxor_any (s k : List UInt8) (w : World) (hs : s.length = 16) (hk : k.length = 16) :
    Calls Try.prog 33 #[.agg (s.map bv).toArray, .agg (k.map bv).toArray] w fun e w' => e = .returned (.agg ((added s k).map bv).toArray) ∧ Only (fun _ => False) w w' := by
  have hal := added_length hs hk
  obtain ⟨w3, b1, b2, b3, e3, eb3, eb2, eb1, a1, a2, a3, o3, n12, n13, n23, hb⟩ := Ae.three w s k zero16 36 36 36
  go_enter Try.func33, Try.ntmps33
  go_upto_region 1 with fail
  rw [Ae.zeros_eq, ← e3, ← eb3, ← eb2, ← eb1]
  clear e3 eb3 eb2 eb1
  have A1 := hide a1
  have A2 := hide a2
  have A3 := hide a3
  have O3 := hide o3
  have HB := hide hb
  clear a1 a3 o3 hb a2
  go_wp2
  go_loopw [5] (fun i wr => ∃ n : Nat, n ≤ 16 ∧ i = .int .i64 n ∧ Hid (Arr wr b1 36 (mixd (added s k) s n)) ∧ Hid (Only (fun j => j = b1) w3 wr)) (fun i _ => 16 - (intOf i).toNat)
  case atStart => exact ⟨0, Nat.zero_le _, rfl, by rw [mixd_zero]; exact A1, Only.refl _ _⟩
  case round =>
    rename World => wr
    obtain ⟨n, hn, rfl, har, hor⟩ := hrel
    by_cases hlt : n < 16
    · have hm := mixd_at (added s k) s 16 n hal hs hlt
      rw [gt_some s n (by omega)] at hm
      have HCA := hide ((unhide har).cell n _ hm)
      have hf := (unhide har).free n
      have hw2 := (unhide har).set n (gt s n ^^^ gt k n)
      rw [mixd_set _ _ 16 n hal hs hlt _ (added_at s k n (by omega) (by omega))] at hw2
      have HW := hide hw2
      have HO := hide ((unhide hor).here n (.int .u8 ((gt s n ^^^ gt k n).toNat : Int)))
      have hx := xor_bv (gt s n) (gt k n)
      have HCB := hide ((unhide hor).cell ((unhide A2).cell n _ (gt_some k n (by omega))) (fun e => n12 e.symm))
      clear hm har hor hw2
      generalize gt s n ^^^ gt k n = z at *
      generalize gt s n = x at *
      generalize gt k n = y at *
      have hn15 : (n : Int) < 16 := by omega
      go_wp2_with fail
      refine wp_region_last_drew (S := (fun w' => Only (fun _ => False) wr w')) 9 (by kernel_rfl) ((Only.refl _ _).drew) (fun hHeld => ?_)
      refine wpAnyL_take (i := 0) (v := ?v1) rfl (by kernel_rfl) (by kernel_rfl) (by kernel_rfl) (by kernel_rfl) (fun _ _ _ h => h) (Or.inl ⟨by rfl, ?hy1⟩) (by assumption) ?rest1
      case hy1 =>
        intro w hSw
        go_simp
        try with_reducible rfl
      try simp only [Act.put, List.setIfInBounds_toArray, List.set_cons_zero, List.set_cons_succ, List.getElem_toArray, List.getElem_cons_succ, List.getElem_cons_zero]
      refine wpAnyL_take (i := 1) (v := ?v2) rfl (by kernel_rfl) (by kernel_rfl) (by kernel_rfl) (by kernel_rfl) (fun _ _ _ h => h) (Or.inl ⟨by rfl, ?hy2⟩) (by assumption) ?rest2
      case hy2 =>
        intro w hSw
        go_simp
        try with_reducible rfl
      try simp only [Act.put, List.setIfInBounds_toArray, List.set_cons_zero, List.set_cons_succ, List.getElem_toArray, List.getElem_cons_succ, List.getElem_cons_zero]
      refine wpAnyL_take (i := 2) (v := ?v3) rfl (by kernel_rfl) (by kernel_rfl) (by kernel_rfl) (by kernel_rfl) (fun _ _ _ h => h) (Or.inl ⟨by rfl, ?hy3⟩) (by assumption) ?rest3
      case hy3 =>
        intro w hSw
        go_simp
        try with_reducible rfl
      try simp only [Act.put, List.setIfInBounds_toArray, List.set_cons_zero, List.set_cons_succ, List.getElem_toArray, List.getElem_cons_succ, List.getElem_cons_zero]
      refine wpAnyL_take (i := 3) (v := ?v4) rfl (by kernel_rfl) (by kernel_rfl) (by kernel_rfl) (by kernel_rfl) (fun _ _ _ h => h) (Or.inl ⟨by rfl, ?hy4⟩) (by assumption) ?rest4
      case hy4 =>
        intro w hSw
        (have q := hSw.cell (unhide HCA) (fun e => e); go_simp; try with_reducible rfl)
      try simp only [Act.put, List.setIfInBounds_toArray, List.set_cons_zero, List.set_cons_succ, List.getElem_toArray, List.getElem_cons_succ, List.getElem_cons_zero]
      refine wpAnyL_take (i := 4) (v := ?v5) rfl (by kernel_rfl) (by kernel_rfl) (by kernel_rfl) (by kernel_rfl) (fun _ _ _ h => h) (Or.inl ⟨by rfl, ?hy5⟩) (by assumption) ?rest5
      case hy5 =>
        intro w hSw
        go_simp
        try with_reducible rfl
      try simp only [Act.put, List.setIfInBounds_toArray, List.set_cons_zero, List.set_cons_succ, List.getElem_toArray, List.getElem_cons_succ, List.getElem_cons_zero]
      refine wpAnyL_take (i := 5) (v := ?v6) rfl (by kernel_rfl) (by kernel_rfl) (by kernel_rfl) (by kernel_rfl) (fun _ _ _ h => h) (Or.inl ⟨by rfl, ?hy6⟩) (by assumption) ?rest6
      case hy6 =>
        intro w hSw
        go_simp
        try with_reducible rfl
      try simp only [Act.put, List.setIfInBounds_toArray, List.set_cons_zero, List.set_cons_succ, List.getElem_toArray, List.getElem_cons_succ, List.getElem_cons_zero]
      refine wpAnyL_take (i := 6) (v := ?v7) rfl (by kernel_rfl) (by kernel_rfl) (by kernel_rfl) (by kernel_rfl) (fun _ _ _ h => h) (Or.inl ⟨by rfl, ?hy7⟩) (by assumption) ?rest7
      case hy7 =>
        intro w hSw
        (have q := hSw.cell (unhide HCB) (fun e => e); go_simp; try with_reducible rfl)
      try simp only [Act.put, List.setIfInBounds_toArray, List.set_cons_zero, List.set_cons_succ, List.getElem_toArray, List.getElem_cons_succ, List.getElem_cons_zero]
      refine wpAnyL_take (i := 7) (v := ?v8) rfl (by kernel_rfl) (by kernel_rfl) (by kernel_rfl) (by kernel_rfl) (fun _ _ _ h => h) (Or.inl ⟨by rfl, ?hy8⟩) (by assumption) ?rest8
      case hy8 =>
        intro w hSw
        go_simp
        try with_reducible rfl
      try simp only [Act.put, List.setIfInBounds_toArray, List.set_cons_zero, List.set_cons_succ, List.getElem_toArray, List.getElem_cons_succ, List.getElem_cons_zero]
      refine wpAnyL_take (i := 8) (v := ?v9) rfl (by kernel_rfl) (by kernel_rfl) (by kernel_rfl) (by kernel_rfl) (fun _ _ _ h => h) (Or.inl ⟨by rfl, ?hy9⟩) (by assumption) ?rest9
      case hy9 =>
        intro w hSw
        go_simp
        try with_reducible rfl
      try simp only [Act.put, List.setIfInBounds_toArray, List.set_cons_zero, List.set_cons_succ, List.getElem_toArray, List.getElem_cons_succ, List.getElem_cons_zero]
      have hc8 := unhide HCA
      refine wpAnyL_ready (rs := [9]) (by kernel_rfl) (by simp) ?_
      refine AllReadyL.last rfl (fun K hK => ?_)
      go_simp
      refine hK.out _ _ (trivial) (fun hHeld => ?_)
      clear hK K
      try simp only [Act.put, List.setIfInBounds_toArray, List.set_cons_zero, List.set_cons_succ, List.getElem_toArray, List.getElem_cons_succ, List.getElem_cons_zero]
      refine wpAnyL_done (by kernel_rfl) ?_ _
      go_wp2
      go_roundw
      case rel => exact ⟨n + 1, by omega, by go_num, unhide HW, (unhide HO).drew⟩
      case measure => simp [intOf]; omega
    · obtain rfl : n = 16 := by omega
      have har2 := unhide har
      rw [mixd_all _ _ 16 hal hs] at har2
      have hr1 := har2.range
      have HA3 := hide ((unhide A3).only (unhide hor) (fun e => n13 e.symm))
      have HT := hide (Ae.there16 (unhide HA3) rfl hal)
      have HZ := hide (Ae.size16s hal)
      clear har har2
      go_wp2_with (first
        | (refine wpList_load_mid rfl 36 (.tmp 2) rfl b1 0 rfl ((added s k).map bv) _ hr1 Ae.Try.under16 rfl (by rw [Ae.Try.size16]; simp [hal]) ?_)
        | (refine wpList_store_mid rfl 36 (.tmp 4) (.tmp 19) rfl b3 0 ((added s k).map bv).toArray rfl rfl (unhide HT) (unhide HZ) (ag_one _) ?_))
      refine bodyPost_ret (results_cell_row rfl _ _ b3 36 _ _ _ rfl ((unhide HA3).stored _ (by rw [hal]; rfl)).out Ae.Try.under16 rfl (by rw [Ae.Try.size16]; simp [hal])) rfl ?_
      exact ⟨rfl, done13 (unhide O3) (unhide hor) (fun j hj => ⟨((unhide HB) j hj).1, ((unhide HB) j hj).2.2⟩)⟩

end Md
end Go.Proofs.Ytdmcnblnoiahcaa
