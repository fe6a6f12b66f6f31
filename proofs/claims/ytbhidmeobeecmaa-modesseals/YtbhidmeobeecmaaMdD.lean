/-
  locksmithref8: New, whatever the key; block, xor.
  locksmithref8: block, xor.
  locksmithref8: Seal.
  locksmithref8: Open.
-/
import Derived.Test.YtbhidmeobeecmaaAeRN16
import Derived.Test.YtbhidmeobeecmaaAeRN24
import Derived.Test.YtbhidmeobeecmaaAeRN32
import Derived.Test.YtbhidmeobeecmaaAeROpen
import Derived.Test.YtbhidmeobeecmaaMdFine
import Derived.Test.YtbhidmeobeecmaaMdC
import Derived.Test.YtbhidmeobeecmaaHeldL
import Derived.Test.YtbhidmeobeecmaaMdB
import Derived.Test.YtbhidmeobeecmaaAeRSeal
import Derived.Lib.SlBuf
import Derived.Test.YtbhidmeobeecmaaMdSeal
import Derived.Test.YtbhidmeobeecmaaMdA
import Derived.Test.YtbhidmeobeecmaaMdOpen
namespace Go.Proofs.Ytbhidmeobeecmaa
open Go.RowKit
set_option linter.unusedSimpArgs false
set_option linter.unusedVariables false
namespace Md
open Ae (zero16 Arr ag_one range_only after exec_load_mid step_store_mid RCip added added_length added_at mixd mixd_zero mixd_all mixd_at mixd_set gt gt_some xor_bv done13 rseal_any ropen_any rnew_16 rnew_24 rnew_32 two)

theorem rnew_fine (key : List UInt8) (h : keyB key) (v : Value) (w : World) (hx : Has w v key) :
    Calls Try.prog 39 #[v] w fun e w' => ∃ cb, e = .returned (.tuple #[.pointer (some ⟨cb, 0, none⟩), .bool true]) ∧ RCip w' cb (mOf key) (kbOf key) ∧ Only (fun _ => False) w w' := by
  obtain ⟨b, o, cap, rfl⟩ := key_shape hx (keyB_pos h)
  unfold mOf kbOf
  rcases h with h | h | h <;> rw [h] at hx ⊢
  · exact rnew_16 b o cap key h w hx
  · exact rnew_24 b o cap key h w hx
  · exact rnew_32 b o cap key h w hx

set_option maxRecDepth 100000 in
set_option maxHeartbeats 1000000 in
theorem rnew_bad (ao : Option Addr) (l cap : Nat) (h1 : l ≠ 16) (h2 : l ≠ 24) (h3 : l ≠ 32) (w : World) :
    Calls Try.prog 39 #[.slice ao l cap] w fun e w' => e = .returned (.tuple #[.pointer none, .bool false]) ∧ w' = w := by
  have h1' : ((l : Int) == 16) = false := by simp; omega
  have h2' : ((l : Int) == 24) = false := by simp; omega
  have h3' : ((l : Int) == 32) = false := by simp; omega
  have g1 : ((l : Int) != 16) = true := by simp; omega
  have g2 : ((l : Int) != 24) = true := by simp; omega
  have g3 : ((l : Int) != 32) = true := by simp; omega
  go_enter Try.func39, Try.ntmps39
  go_wp2
  go_ret2
  exact ⟨rfl, rfl⟩
theorem rnew_not (key : List UInt8) (h : ¬ keyB key) (v : Value) (w : World) (hx : Has w v key) :
    Calls Try.prog 39 #[v] w fun e w' => e = .returned (.tuple #[.pointer none, .bool false]) ∧ w' = w := by
  obtain ⟨ao, cap, rfl, _⟩ := hx.shape
  exact rnew_bad ao key.length cap (fun e => h (Or.inl e)) (fun e => h (Or.inr (Or.inl e))) (fun e => h (Or.inr (Or.inr e))) w

theorem racts_seal (key : List UInt8) (h : keyB key) {w : World} {cb : Nat} (hc : RCip w cb (mOf key) (kbOf key)) : Acts w 41 cb (sealF key) := fun s W hs ho =>
  rseal_any cb (mOf key) (kbOf key) s hs (by unfold mOf; omega) (by unfold mOf; rcases h with h | h | h <;> omega) W (hc.new ho)
theorem racts_open (key : List UInt8) (h : keyB key) {w : World} {cb : Nat} (hc : RCip w cb (mOf key) (kbOf key)) : Acts w 43 cb (openF key) := fun s W hs ho =>
  ropen_any cb (mOf key) (kbOf key) s hs (by unfold mOf; omega) (by unfold mOf; rcases h with h | h | h <;> omega) W (hc.new ho)

end Md
end Go.Proofs.Ytbhidmeobeecmaa

namespace Go.Proofs.Ytbhidmeobeecmaa
open Go.RowKit
set_option linter.unusedSimpArgs false
set_option linter.unusedVariables false
namespace Md
open Ae (zero16 Arr ag_one range_only after exec_load_mid step_store_mid added added_length added_at mixd mixd_zero mixd_all mixd_at mixd_set gt gt_some xor_bv done13 two)

theorem added_comm (a b : List UInt8) : added a b = added b a := by
  unfold added
  rw [List.zipWith_comm]
  congr 1
  funext x y
  exact UInt8.xor_comm _ _

/-- copy(x[:], bytes) into 16 -/
theorem copy16 {x : World} {b : Nat} {t : TypeId} {old bs : List UInt8} {v : Value} (h : Arr x b t old) (ho : old.length = 16) (hv : Has x v bs) :
    ∃ n w', (Builtin.copy_ #[22, 22] 3 #[.slice (some ⟨b, 0, none⟩) 16 16, v]).run Try.prog x = .ok n w' ∧ Arr w' b t ((bs.take 16 ++ old.drop (bs.take 16).length)) ∧ Only (fun j => j = b) x w' := by
  obtain ⟨ao, cap, rfl, _⟩ := hv.shape
  by_cases h0 : bs.length = 0
  · have hr := run_copy_none (P := Try.prog) x 22 22 3 5 (some ⟨b, 0, none⟩) ao 16 16 bs.length cap Try.underlying22 Try.size5 (by rw [h0]; rfl)
    refine ⟨_, x, hr, ?_, Only.refl _ _⟩
    rw [List.eq_nil_of_length_eq_zero h0]
    exact h
  · obtain ⟨sb, so, rfl, _, hc⟩ := hv.at (by omega)
    have hl : (bs.take 16).length = Nat.min bs.length 16 := by rw [List.length_take]; exact Nat.min_comm _ _
    have hr := run_copy_row (P := Try.prog) x 22 22 3 5 b 0 16 16 ⟨sb, so, none⟩ bs.length cap (old.map bv).toArray t ((bs.take 16).map bv) Try.underlying22 Try.size5 h.out
      (by rw [List.length_map, hl]) (fun j u hu => by
        have hj : j < (bs.take 16).length := by have := (List.getElem?_eq_some_iff.1 hu).1; simpa using this
        have hj2 : j < bs.length ∧ j < 16 := by rw [List.length_take] at hj; omega
        rw [addr_add _ rfl, hc j hj2.1]
        rw [List.getElem?_map, List.getElem?_take, if_pos hj2.2, List.getElem?_eq_getElem hj2.1] at hu
        simpa using hu) (by rw [List.length_map, List.size_toArray, List.length_map, ho]; rw [List.length_take]; omega) (fun u hu => by obtain ⟨y, _, rfl⟩ := List.mem_map.1 hu; rfl)
    refine ⟨_, _, hr, ?_, ⟨rfl, rfl, rfl, by simp [World.setRow], fun j _ hj => setRow_other x b j _ hj⟩⟩
    unfold Arr
    rw [setRow_heap x b _ _ _ _ h.out]
    simp [List.map_drop]

theorem two' (w : World) (t1 t3 : TypeId) : ∃ w3 b1 b3, w3 = (w.alloc (.cells (zero16.map bv).toArray t1)).alloc (.cells (zero16.map bv).toArray t3) ∧ b3 = w.heap.size + 1 ∧ b1 = w.heap.size ∧
    Arr w3 b1 t1 zero16 ∧ Arr w3 b3 t3 zero16 ∧ Only (fun _ => False) w w3 ∧ b1 ≠ b3 ∧ (∀ j, j < w.heap.size → j ≠ b1 ∧ j ≠ b3) := two w zero16 zero16 t1 t3

theorem ivS_eq (bs : List UInt8) : bs.take 16 ++ zero16.drop (bs.take 16).length = ivS bs := by
  unfold ivS
  rw [List.take_append, List.take_of_length_le (show (bs.take 16).length ≤ 16 by rw [List.length_take]; omega)]
  congr 1
  unfold zero16
  rw [List.drop_replicate, List.take_replicate]
  congr 1
  omega

set_option maxRecDepth 100000 in
set_option maxHeartbeats 2000000 in
theorem rblock_any (v : Value) (bs : List UInt8) (w : World) (hx : Has w v bs) :
    Calls Try.prog 40 #[v] w fun e w' => e = .returned (.agg ((ivS bs).map bv).toArray) ∧ Only (fun _ => False) w w' := by
  obtain ⟨w3, b1, b3, e3, eb3, eb1, a1, a3, o3, n13, hb⟩ := two' w 41 41
  go_enter Try.func40, Try.ntmps40
  go_upto_region 2 with fail
  rw [Ae.zeros_eq, ← e3, ← eb3, ← eb1]
  clear e3 eb3 eb1
  obtain ⟨nv, w4, hr, a4, o4⟩ := copy16 a3 rfl (hx.only o3 (fun _ _ _ e => e))
  rw [ivS_eq] at a4
  have hil := ivS_length bs
  obtain ⟨I, hI⟩ : ∃ I, I = ivS bs := ⟨_, rfl⟩
  rw [← hI] at a4 hil
  have HI := hide hI
  clear hI
  have A1 := hide (a1.only o4 (fun e => n13 e))
  have O34 := hide o3
  have O4 := hide o4
  have HB := hide hb
  have hr1 := a4.range
  have HT := hide (Ae.there16 (unhide A1) rfl hil)
  have HZ := hide (Ae.size16s hil)
  have HIL := hide hil
  clear a1 a3 a4 o3 o4 hx hb hil
  go_wp2_with (first
    | (at_builtin; refine Lib.wpList_copy_run _ rfl (.tmp 4) (.tmp 5) 22 22 rfl _ _ rfl rfl hr ?_)
    | (refine wpList_load_mid rfl 41 (.tmp 3) rfl b3 0 rfl (I.map bv) _ hr1 Ae.Try.under16 rfl (by rw [Ae.Try.size16]; simp [unhide HIL]) ?_)
    | (refine wpList_store_mid rfl 41 (.tmp 2) (.tmp 7) rfl b1 0 (I.map bv).toArray rfl rfl (unhide HT) (unhide HZ) (ag_one _) ?_))
  refine bodyPost_ret (results_cell_row rfl _ _ b1 41 _ _ _ rfl ((unhide A1).stored I (by rw [unhide HIL]; rfl)).out Ae.Try.under16 rfl (by rw [Ae.Try.size16]; simp [unhide HIL])) rfl ?_
  exact ⟨by rw [← unhide HI], done13 (unhide O34) (unhide O4) (fun j hj => ⟨((unhide HB) j hj).2, ((unhide HB) j hj).1⟩)⟩

set_option maxRecDepth 100000 in
set_option maxHeartbeats 2000000 in
theorem rxor_any (s k : List UInt8) (w : World) (hs : s.length = 16) (hk : k.length = 16) :
    Calls Try.prog 42 #[.agg (s.map bv).toArray, .agg (k.map bv).toArray] w fun e w' => e = .returned (.agg ((added s k).map bv).toArray) ∧ Only (fun _ => False) w w' := by
  have hal := added_length hs hk
  obtain ⟨w3, b1, b2, b3, e3, eb3, eb2, eb1, a1, a2, a3, o3, n12, n13, n23, hb⟩ := Ae.three w s k zero16 41 41 41
  go_enter Try.func42, Try.ntmps42
  go_upto_region 1 with fail
  rw [Ae.zeros_eq, ← e3, ← eb3, ← eb2, ← eb1]
  clear e3 eb3 eb2 eb1
  have A1 := hide a1
  have A2 := hide a2
  have A3 := hide a3
  have O3 := hide o3
  have HB := hide hb
  clear a1 a3 o3 hb a2
  go_wp2
  go_loopw [5] (fun i wr => ∃ n : Nat, n ≤ 16 ∧ i = .int .i64 n ∧ Hid (Arr wr b1 41 (mixd (added s k) s n)) ∧ Hid (Only (fun j => j = b1) w3 wr)) (fun i _ => 16 - (intOf i).toNat)
  case atStart => exact ⟨0, Nat.zero_le _, rfl, by rw [mixd_zero]; exact A1, Only.refl _ _⟩
  case round =>
    rename World => wr
    obtain ⟨n, hn, rfl, har, hor⟩ := hrel
    by_cases hlt : n < 16
    · have hm := mixd_at (added s k) s 16 n hal hs hlt
      rw [gt_some s n (by omega)] at hm
      have HCA := hide ((unhide har).cell n _ hm)
      have hf := (unhide har).free n
      have hw2 := (unhide har).set n (gt s n ^^^ gt k n)
      rw [mixd_set _ _ 16 n hal hs hlt _ (added_at s k n (by omega) (by omega))] at hw2
      have HW := hide hw2
      have HO := hide ((unhide hor).here n (.int .u8 ((gt s n ^^^ gt k n).toNat : Int)))
      have hx := xor_bv (gt s n) (gt k n)
      have HCB := hide ((unhide hor).cell ((unhide A2).cell n _ (gt_some k n (by omega))) (fun e => n12 e.symm))
      clear hm har hor hw2
      generalize gt s n ^^^ gt k n = z at *
      generalize gt s n = x at *
      generalize gt k n = y at *
      have hn15 : (n : Int) < 16 := by omega
      go_wp2_with fail
      refine wp_region_last_drew (S := (fun w' => Only (fun _ => False) wr w')) 9 (by kernel_rfl) ((Only.refl _ _).drew) (fun hHeld => ?_)
      refine wpAnyL_take (i := 0) (v := ?v86) rfl (by kernel_rfl) (by kernel_rfl) (by kernel_rfl) (by kernel_rfl) (fun _ _ _ h => h) (Or.inl ⟨by rfl, ?hy86⟩) (by assumption) ?rest86
      case hy86 =>
        intro w hSw
        go_simp
        try with_reducible rfl
      try simp only [Act.put, List.setIfInBounds_toArray, List.set_cons_zero, List.set_cons_succ, List.getElem_toArray, List.getElem_cons_succ, List.getElem_cons_zero]
      refine wpAnyL_take (i := 1) (v := ?v87) rfl (by kernel_rfl) (by kernel_rfl) (by kernel_rfl) (by kernel_rfl) (fun _ _ _ h => h) (Or.inl ⟨by rfl, ?hy87⟩) (by assumption) ?rest87
      case hy87 =>
        intro w hSw
        go_simp
        try with_reducible rfl
      try simp only [Act.put, List.setIfInBounds_toArray, List.set_cons_zero, List.set_cons_succ, List.getElem_toArray, List.getElem_cons_succ, List.getElem_cons_zero]
      refine wpAnyL_take (i := 2) (v := ?v88) rfl (by kernel_rfl) (by kernel_rfl) (by kernel_rfl) (by kernel_rfl) (fun _ _ _ h => h) (Or.inl ⟨by rfl, ?hy88⟩) (by assumption) ?rest88
      case hy88 =>
        intro w hSw
        go_simp
        try with_reducible rfl
      try simp only [Act.put, List.setIfInBounds_toArray, List.set_cons_zero, List.set_cons_succ, List.getElem_toArray, List.getElem_cons_succ, List.getElem_cons_zero]
      refine wpAnyL_take (i := 3) (v := ?v89) rfl (by kernel_rfl) (by kernel_rfl) (by kernel_rfl) (by kernel_rfl) (fun _ _ _ h => h) (Or.inl ⟨by rfl, ?hy89⟩) (by assumption) ?rest89
      case hy89 =>
        intro w hSw
        (have q := hSw.cell (unhide HCA) (fun e => e); go_simp; try with_reducible rfl)
      try simp only [Act.put, List.setIfInBounds_toArray, List.set_cons_zero, List.set_cons_succ, List.getElem_toArray, List.getElem_cons_succ, List.getElem_cons_zero]
      refine wpAnyL_take (i := 4) (v := ?v90) rfl (by kernel_rfl) (by kernel_rfl) (by kernel_rfl) (by kernel_rfl) (fun _ _ _ h => h) (Or.inl ⟨by rfl, ?hy90⟩) (by assumption) ?rest90
      case hy90 =>
        intro w hSw
        go_simp
        try with_reducible rfl
      try simp only [Act.put, List.setIfInBounds_toArray, List.set_cons_zero, List.set_cons_succ, List.getElem_toArray, List.getElem_cons_succ, List.getElem_cons_zero]
      refine wpAnyL_take (i := 5) (v := ?v91) rfl (by kernel_rfl) (by kernel_rfl) (by kernel_rfl) (by kernel_rfl) (fun _ _ _ h => h) (Or.inl ⟨by rfl, ?hy91⟩) (by assumption) ?rest91
      case hy91 =>
        intro w hSw
        go_simp
        try with_reducible rfl
      try simp only [Act.put, List.setIfInBounds_toArray, List.set_cons_zero, List.set_cons_succ, List.getElem_toArray, List.getElem_cons_succ, List.getElem_cons_zero]
      refine wpAnyL_take (i := 6) (v := ?v92) rfl (by kernel_rfl) (by kernel_rfl) (by kernel_rfl) (by kernel_rfl) (fun _ _ _ h => h) (Or.inl ⟨by rfl, ?hy92⟩) (by assumption) ?rest92
      case hy92 =>
        intro w hSw
        (have q := hSw.cell (unhide HCB) (fun e => e); go_simp; try with_reducible rfl)
      try simp only [Act.put, List.setIfInBounds_toArray, List.set_cons_zero, List.set_cons_succ, List.getElem_toArray, List.getElem_cons_succ, List.getElem_cons_zero]
      refine wpAnyL_take (i := 7) (v := ?v93) rfl (by kernel_rfl) (by kernel_rfl) (by kernel_rfl) (by kernel_rfl) (fun _ _ _ h => h) (Or.inl ⟨by rfl, ?hy93⟩) (by assumption) ?rest93
      case hy93 =>
        intro w hSw
        go_simp
        try with_reducible rfl
      try simp only [Act.put, List.setIfInBounds_toArray, List.set_cons_zero, List.set_cons_succ, List.getElem_toArray, List.getElem_cons_succ, List.getElem_cons_zero]
      refine wpAnyL_take (i := 8) (v := ?v94) rfl (by kernel_rfl) (by kernel_rfl) (by kernel_rfl) (by kernel_rfl) (fun _ _ _ h => h) (Or.inl ⟨by rfl, ?hy94⟩) (by assumption) ?rest94
      case hy94 =>
        intro w hSw
        go_simp
        try with_reducible rfl
      try simp only [Act.put, List.setIfInBounds_toArray, List.set_cons_zero, List.set_cons_succ, List.getElem_toArray, List.getElem_cons_succ, List.getElem_cons_zero]
      have hc8 := unhide HCA
      refine wpAnyL_ready (rs := [9]) (by kernel_rfl) (by simp) ?_
      refine AllReadyL.last rfl (fun K hK => ?_)
      go_simp
      refine hK.out _ _ (trivial) (fun hHeld => ?_)
      clear hK K
      try simp only [Act.put, List.setIfInBounds_toArray, List.set_cons_zero, List.set_cons_succ, List.getElem_toArray, List.getElem_cons_succ, List.getElem_cons_zero]
      refine wpAnyL_done (by kernel_rfl) ?_ _
      go_wp2
      go_roundw
      case rel => exact ⟨n + 1, by omega, by go_num, unhide HW, (unhide HO).drew⟩
      case measure => simp [intOf]; omega
    · obtain rfl : n = 16 := by omega
      have har2 := unhide har
      rw [mixd_all _ _ 16 hal hs] at har2
      have hr1 := har2.range
      have HA3 := hide ((unhide A3).only (unhide hor) (fun e => n13 e.symm))
      have HT := hide (Ae.there16 (unhide HA3) rfl hal)
      have HZ := hide (Ae.size16s hal)
      clear har har2
      go_wp2_with (first
        | (refine wpList_load_mid rfl 41 (.tmp 2) rfl b1 0 rfl ((added s k).map bv) _ hr1 Ae.Try.under16 rfl (by rw [Ae.Try.size16]; simp [hal]) ?_)
        | (refine wpList_store_mid rfl 41 (.tmp 4) (.tmp 19) rfl b3 0 ((added s k).map bv).toArray rfl rfl (unhide HT) (unhide HZ) (ag_one _) ?_))
      refine bodyPost_ret (results_cell_row rfl _ _ b3 41 _ _ _ rfl ((unhide HA3).stored _ (by rw [hal]; rfl)).out Ae.Try.under16 rfl (by rw [Ae.Try.size16]; simp [hal])) rfl ?_
      exact ⟨rfl, done13 (unhide O3) (unhide hor) (fun j hj => ⟨((unhide HB) j hj).1, ((unhide HB) j hj).2.2⟩)⟩

end Md
end Go.Proofs.Ytbhidmeobeecmaa

namespace Go.Proofs.Ytbhidmeobeecmaa
open Go.RowKit
set_option linter.unusedSimpArgs false
set_option linter.unusedVariables false
namespace Md
open Ae (zero16 Arr ag_one range_only after exec_load_mid step_store_mid RCip added added_length blkOf blkOf_length)

theorem fresh16 (x : World) (s : List UInt8) (hs : s.length = 16) : ∃ wy b, wy = (x.alloc (.cells (zero16.map bv).toArray 41)).setCells x.heap.size 0 (s.map bv).toArray.toList ∧ b = x.heap.size ∧ Arr wy b 41 s ∧ Only (fun _ => False) x wy := Ae.made16 x s hs

set_option maxRecDepth 100000 in
set_option maxHeartbeats 4000000 in
theorem rsealM_fine (key iv t : List UInt8) (h : keyB key) (hi : iv.length = 16) (hl : t.length ≤ 140737488351232) (kv vv tv : Value) (w : World) (hk : Has w kv key) (hv : Has w vv iv) (ht : Has w tv t) :
    Calls Try.prog 20 #[kv, vv, tv] w fun e w' => ∃ v, e = .returned (.tuple #[v, .int .i64 0]) ∧ Owns w.heap.size w' v (boxT key iv t) ∧ Only (fun _ => False) w w' := by
  obtain ⟨i0, hi0, hz0, hz1, hz2⟩ := info_parts Try.info5
  obtain ⟨ia, ic, hvs, _⟩ := hv.shape
  subst hvs
  rw [hi] at hv ⊢
  have HN := hide (rnew_fine key h kv w hk)
  have HT := hide ht
  have HV := hide hv
  have hml : mT t ≤ 8796093022208 := by unfold mT; omega
  have hmt : (padT t).length = 16 * mT t := padT_length t
  have HBX : Hid (boxT key iv t = chT (sealF key) iv (padT t) (mT t)) := rfl
  have HML := hide hml
  have HMT := hide hmt
  have hf : ∀ s, s.length = 16 → (sealF key s).length = 16 := fun s hs => sealF_length key h s hs
  have HF := hide hf
  clear hk hv ht hml hmt
  generalize mT t = m at *
  go_enter Try.func20, Try.ntmps20
  go_wp2_with fail
  refine (unhide HN).mono ?_
  rintro e w1 ⟨cb, rfl, hc, o1⟩
  have HAC := hide (racts_seal key h hc)
  have O1 := hide o1
  have HT1 := hide ((unhide HT).only o1 (fun _ _ _ e => e))
  have HV1 := hide ((unhide HV).only o1 (fun _ _ _ e => e))
  clear hc o1 HN HT HV
  generalize sealF key = f at *
  go_wp2_with fail
  refine (rpad_any _ t w1 (unhide HT1) hl).mono ?_
  rintro e w2 ⟨pv, rfl, hp, o2⟩
  rw [show Owns w1.heap.size w2 pv (padT t) = w2.ownsRow w1.heap.size 5 1 pv (padT t).length ((padT t).map bv) from rfl, unhide HMT] at hp
  obtain ⟨pg, pc, rfl⟩ : ∃ pg pc, pv = .slice (some ⟨pg, 0, none⟩) (16 * m) pc := by
    have hm1 : 0 < m := by have := unhide HMT; unfold padT pd at this; rw [List.length_append, List.length_replicate] at this; omega
    rw [show 16 * m = (16 * m - 1) + 1 by omega] at hp ⊢
    exact ownsRow_succ hp
  have hpc : 16 * m ≤ pc := by
    rcases hp.2 with ⟨e, _⟩ | ⟨g', c2, cur, e, _, _, hc, _⟩
    · simp at e
    · simp only [Value.slice.injEq] at e
      omega
  have hph : Has w2 (.slice (some ⟨pg, 0, none⟩) (16 * m) pc) (padT t) := Has.ofOwns hp
  have HP := hide hph
  have O2 := hide ((unhide O1).trans o2 (fun _ _ e => e))
  have O12 := hide o2
  have HV2 := hide ((unhide HV1).only o2 (fun _ _ _ e => e))
  clear hp hph o2 HT1 HV1
  go_wp2_with fail
  refine (rblock_any _ iv w2 (unhide HV2)).mono ?_
  rintro e w3 ⟨rfl, o3⟩
  rw [ivS_self iv hi]
  obtain ⟨wy, b11, ey, eb, a11, oy⟩ := fresh16 w3 iv hi
  have HT2 := hide (Ae.there16 (Arr.new w3 41 zero16 _ rfl) rfl hi)
  have HZ2 := hide (Ae.size16s hi)
  have O3 := hide ((unhide O2).trans o3 (fun _ _ e => e))
  have O23 := hide o3
  have hsz3 := (unhide O3).size
  clear o3
  go_upto_region 6 with (refine wpList_store_mid rfl 41 (.tmp 11) (.tmp 29) rfl w3.heap.size 0 (iv.map bv).toArray rfl rfl (unhide HT2) (unhide HZ2) (ag_one _) ?_)
  rw [Ae.zeros_eq, ← ey, ← eb]
  have A11 := hide a11
  have OY := hide ((unhide O3).trans oy (fun _ _ e => e))
  have HPY := hide (((unhide HP).only (unhide O23) (fun _ _ _ e => e)).only oy (fun _ _ _ e => e))
  have HAY := hide (((unhide HAC).new (unhide O12)).new (unhide O23))
  have HB11 : Hid (w3.heap.size ≤ b11) := by show _ ≤ _; omega
  have HW3 := hide hsz3
  have O3Y := hide oy
  have hpg3 : pg < w3.heap.size := Nat.lt_of_lt_of_le ((unhide HP).blk_lt (by intro e; have := unhide HMT; rw [e] at this; unfold padT pd at e; have h2 := congrArg List.length e; rw [List.length_append, List.length_replicate] at h2; simp at h2; omega) pg rfl) (unhide O23).size
  have HPG := hide hpg3
  clear ey eb a11 oy HT2 HZ2 HAC hsz3 hpg3
  obtain ⟨B2, hB2⟩ : ∃ B2, B2 = wy.heap.size := ⟨_, rfl⟩
  have hb11y : b11 < wy.heap.size := (unhide A11).lt
  have HBY := hide hb11y
  have HB2 := hide hB2
  clear hB2 hb11y
  go_wp2
  go_loopw [12, 13] (fun s i wr => ∃ k : Nat, k ≤ m ∧ i = .int .i64 (16 * (k : Int)) ∧ Hid (wr.ownsRow B2 5 1 s (16 * k) ((chT f iv (padT t) k).map bv)) ∧ Hid (Arr wr b11 41 (ch f iv (padT t) k)) ∧ Hid (Only (fun j => j = b11) wy wr)) (fun _ i _ => 16 * m - (intOf i).toNat)
  case atStart => exact ⟨0, Nat.zero_le _, rfl, World.ownsRow_nil _ _ _ _, A11, Only.refl _ _⟩
  case round =>
    rename World => wr
    obtain ⟨k, hkm, rfl, hrow, har, hor⟩ := hrel
    by_cases hlt : k < m
    · obtain ⟨C, hC⟩ : ∃ C, C = ch f iv (padT t) k := ⟨_, rfl⟩
      have hCl : C.length = 16 := by rw [hC]; exact ch_length f (unhide HF) iv (padT t) hi m (unhide HMT) k hkm
      obtain ⟨B, hB⟩ : ∃ B, B = blkOf (padT t) k := ⟨_, rfl⟩
      have hBl : B.length = 16 := by rw [hB]; exact blkOf_length (padT t) m k (unhide HMT) hlt
      rw [← hC] at har
      have hN1 : Hid (ch f iv (padT t) (k + 1) = f (added C B)) := by rw [hB, hC, added_comm]; rfl
      have hN2 : Hid (chT f iv (padT t) (k + 1) = chT f iv (padT t) k ++ ch f iv (padT t) (k + 1)) := rfl
      have hal := added_length hCl hBl
      have hfl := unhide HF _ hal
      obtain ⟨p, hp⟩ : ∃ p, p = 16 * k := ⟨_, rfl⟩
      obtain ⟨q, hq⟩ : ∃ q, q = p + 16 := ⟨_, rfl⟩
      have hmb := unhide HML
      have M2 : Hid (IntKind.i64.wrap ((p : Int) + 16) = (q : Int)) := by show _ = _; rw [wrap_small _ (by omega) (by omega)]; omega
      have M1 : Hid ((16 * (k : Int)) = (p : Int)) := by show _ = _; omega
      have hpr : Has wr (.slice (some ⟨pg, 0, none⟩) (16 * m) pc) (padT t) := (unhide HPY).only (unhide hor) (fun _ j hj e => by
        have hj' : some pg = some j := hj
        have h1 := unhide HPG
        have h2 := unhide HB11
        simp at hj'
        omega)
      have hmid : Has wr (.slice (some ⟨pg, p, none⟩) 16 (pc - p)) B := by
        have h1 := Has.mid hpr (n := 16) p (by rw [unhide HMT]; omega) (by decide)
        rw [Nat.zero_add] at h1
        rw [hB, hp]
        rw [hp] at h1
        exact h1
      have HMID := hide hmid
      have O1R : Hid (Only (fun _ => False) w3 wr) := (unhide O3Y).trans (unhide hor) (fun j hj e => by have := unhide HB11; omega)
      have hsub : q - p = 16 := by omega
      have hpq : p ≤ q := by omega
      have hqk : (q : Int) ≤ (pc : Int) := by omega
      have hnep : ¬ pc = p := by omega
      have hkI : 16 * (k : Int) < 16 * (m : Int) := by omega
      have HCL := hide hCl
      have HBL := hide hBl
      have HAL := hide hal
      have HFL := hide hfl
      clear hC hB hCl hBl hal hfl hpr hmid
      rw [unhide M1]
      have hp16 : (p : Int) < 16 * (m : Int) := by omega
      have hpb : p ≤ 140737488355328 := by omega
      have HPK := hide hp
      have HQK := hide hq
      clear hp hq
      go_wp2_with fail
      refine wp_region_last_drew (S := (fun w' => Only (fun _ => False) wr w')) 10 (by kernel_rfl) ((Only.refl _ _).drew) (fun hHeld => ?_)
      refine wpAnyL_take (i := 0) (v := ?v95) rfl (by kernel_rfl) (by kernel_rfl) (by kernel_rfl) (by kernel_rfl) (fun _ _ _ h => h) (Or.inl ⟨by rfl, ?hy95⟩) (by assumption) ?rest95
      case hy95 =>
        intro w hSw
        go_simp
        try with_reducible rfl
      try simp only [Act.put, List.setIfInBounds_toArray, List.set_cons_zero, List.set_cons_succ, List.getElem_toArray, List.getElem_cons_succ, List.getElem_cons_zero]
      refine wpAnyL_take (i := 1) (v := ?v96) rfl (by kernel_rfl) (by kernel_rfl) (by kernel_rfl) (by kernel_rfl) (fun _ _ _ h => h) (Or.inl ⟨by rfl, ?hy96⟩) (by assumption) ?rest96
      case hy96 =>
        intro w hSw
        (refine exec_load_mid 41 (.tmp 11) ?_ b11 0 ?_ (C.map bv) _ (range_only (unhide har).range hSw (fun e => e)) Ae.Try.under16 rfl (by rw [Ae.Try.size16]; simp [unhide HCL]) <;> rfl)
      try simp only [Act.put, List.setIfInBounds_toArray, List.set_cons_zero, List.set_cons_succ, List.getElem_toArray, List.getElem_cons_succ, List.getElem_cons_zero]
      refine wpAnyL_take (i := 2) (v := ?v97) rfl (by kernel_rfl) (by kernel_rfl) (by kernel_rfl) (by kernel_rfl) (fun _ _ _ h => h) (Or.inl ⟨by rfl, ?hy97⟩) (by assumption) ?rest97
      case hy97 =>
        intro w hSw
        go_simp
        try with_reducible rfl
      try simp only [Act.put, List.setIfInBounds_toArray, List.set_cons_zero, List.set_cons_succ, List.getElem_toArray, List.getElem_cons_succ, List.getElem_cons_zero]
      refine wpAnyL_take (i := 3) (v := ?v98) rfl (by kernel_rfl) (by kernel_rfl) (by kernel_rfl) (by kernel_rfl) (fun _ _ _ h => h) (Or.inl ⟨by rfl, ?hy98⟩) (by assumption) ?rest98
      case hy98 =>
        intro w hSw
        go_simp
        try with_reducible rfl
      try simp only [Act.put, List.setIfInBounds_toArray, List.set_cons_zero, List.set_cons_succ, List.getElem_toArray, List.getElem_cons_succ, List.getElem_cons_zero]
      refine wpAnyL_take (i := 4) (v := ?v99) rfl (by kernel_rfl) (by kernel_rfl) (by kernel_rfl) (by kernel_rfl) (fun _ _ _ h => h) (Or.inl ⟨by rfl, ?hy99⟩) (by assumption) ?rest99
      case hy99 =>
        intro w hSw
        go_simp
        try with_reducible rfl
      try simp only [Act.put, List.setIfInBounds_toArray, List.set_cons_zero, List.set_cons_succ, List.getElem_toArray, List.getElem_cons_succ, List.getElem_cons_zero]
      refine wpAnyL_take (i := 5) (v := ?v100) rfl (by kernel_rfl) (by kernel_rfl) (by kernel_rfl) (by kernel_rfl) (fun _ _ _ h => h) (Or.inl ⟨by rfl, ?hy100⟩) (by assumption) ?rest100
      case hy100 =>
        intro w hSw
        (go_simp; rw [unhide M2]; try with_reducible rfl)
      try simp only [Act.put, List.setIfInBounds_toArray, List.set_cons_zero, List.set_cons_succ, List.getElem_toArray, List.getElem_cons_succ, List.getElem_cons_zero]
      refine wpAnyL_take (i := 6) (v := ?v101) rfl (by kernel_rfl) (by kernel_rfl) (by kernel_rfl) (by kernel_rfl) (fun _ _ _ h => h) (Or.inl ⟨by rfl, ?hy101⟩) (by assumption) ?rest101
      case hy101 =>
        intro w hSw
        go_simp
        try with_reducible rfl
      try simp only [Act.put, List.setIfInBounds_toArray, List.set_cons_zero, List.set_cons_succ, List.getElem_toArray, List.getElem_cons_succ, List.getElem_cons_zero]
      refine wpAnyL_ready (rs := [7]) (by kernel_rfl) (by simp) ?_
      refine AllReadyL.cons rfl (fun K hK => ?_) AllReadyL.nil
      go_simp
      go_wp2_with fail; refine (rblock_any _ B _ ((unhide HMID).only ((Only.refl (fun _ => False) wr).drew) (fun _ _ _ e => e))).mono ?_; rintro e x1 ⟨rfl, y1⟩; have Q1 : Hid (Only (fun _ => False) wr x1) := ((Only.refl (fun _ => False) wr).drew).trans y1 (fun _ _ e => e); clear y1; rw [ivS_self B (unhide HBL)]
      refine hK.out _ _ ((unhide Q1)) (fun hHeld => ?_)
      clear hK K
      try simp only [Act.put, List.setIfInBounds_toArray, List.set_cons_zero, List.set_cons_succ, List.getElem_toArray, List.getElem_cons_succ, List.getElem_cons_zero]
      refine wpAnyL_ready (rs := [8]) (by kernel_rfl) (by simp) ?_
      refine AllReadyL.cons rfl (fun K hK => ?_) AllReadyL.nil
      go_simp
      go_wp2_with fail; refine (rxor_any C B x1 (unhide HCL) (unhide HBL)).mono ?_; rintro e x2 ⟨rfl, y2⟩; have Q2 : Hid (Only (fun _ => False) wr x2) := (unhide Q1).trans y2 (fun _ _ e => e); clear y2
      refine hK.out _ _ ((unhide Q2)) (fun hHeld => ?_)
      clear hK K
      try simp only [Act.put, List.setIfInBounds_toArray, List.set_cons_zero, List.set_cons_succ, List.getElem_toArray, List.getElem_cons_succ, List.getElem_cons_zero]
      refine wpAnyL_ready (rs := [9]) (by kernel_rfl) (by simp) ?_
      refine AllReadyL.cons rfl (fun K hK => ?_) AllReadyL.nil
      go_simp
      go_wp2_with fail; refine (unhide HAY (added C B) x2 (unhide HAL) ((unhide O1R).trans (unhide Q2) (fun _ _ e => e))).mono ?_; rintro e x3 ⟨rfl, y3⟩; have Q3 : Hid (Only (fun _ => False) wr x3) := (unhide Q2).trans y3 (fun _ _ e => e); clear y3
      refine hK.out _ _ ((unhide Q3)) (fun hHeld => ?_)
      clear hK K
      try simp only [Act.put, List.setIfInBounds_toArray, List.set_cons_zero, List.set_cons_succ, List.getElem_toArray, List.getElem_cons_succ, List.getElem_cons_zero]
      have A3x := hide ((unhide har).only (unhide Q3) (fun e => e))
      have HT3 := hide (Ae.there16 (unhide A3x) (unhide HCL) (unhide HFL))
      have HZ3 := hide (Ae.size16s (unhide HFL))
      refine wpAnyL_ready (rs := [10]) (by kernel_rfl) (by simp) ?_
      refine AllReadyL.last rfl (fun K hK => ?_)
      refine step_store_mid rfl 41 (.tmp 11) (.tmp 45) rfl b11 0 ((f (added C B)).map bv).toArray rfl rfl (unhide HT3) (unhide HZ3) (ag_one _) ?_
      refine hK.out _ _ (trivial) (fun hHeld => ?_)
      clear hK K
      try simp only [Act.put, List.setIfInBounds_toArray, List.set_cons_zero, List.set_cons_succ, List.getElem_toArray, List.getElem_cons_succ, List.getElem_cons_zero]
      refine wpAnyL_done (by kernel_rfl) ?_ _
      obtain ⟨wz, ez, az, oz⟩ := Ae.restored x3 b11 C (f (added C B)) (unhide A3x) (by rw [unhide HFL, unhide HCL])
      first
        | rw [← ez]
        | (simp only [List.toList_toArray]; rw [← ez])
      obtain ⟨L, hL⟩ : ∃ L, L = ch f iv (padT t) (k + 1) := ⟨_, rfl⟩
      rw [← unhide hN1, ← hL] at az HFL
      rw [← hL] at hN2
      have HLL := hide hL
      have hh : Has wz (.slice (some ⟨b11, 0, none⟩) 16 16) L := by
        have h := has_lit az.out (by rw [unhide HFL]; unfold maxLen; omega)
        rw [unhide HFL] at h
        exact h
      have HH := hide hh
      have AZ := hide az
      have OZ : Hid (Only (fun j => j = b11) wr wz) := (unhide Q3 |>.mono (fun _ _ e => e.elim)).trans oz (fun _ _ e => e)
      have hrl := (unhide hrow).lt
      have hrow2 := hide ((unhide OZ).owns (unhide hrow) (fun j hj e => by have h1 := (hrl j hj).1; have h2 := unhide HB2; have h3 := unhide HBY; omega))
      have OZ2 : Hid (Only (fun j => j = b11) wy wz) := (unhide hor).trans (unhide OZ) (fun _ _ e => e)
      have HSZ : Hid (B2 ≤ wz.heap.size) := by have h1 := (unhide OZ2).size; have h2 := unhide HB2; show _ ≤ _; omega
      have hLl := unhide HFL
      have h47 : 16 * k + L.length ≤ 140737488355328 := by omega
      clear ez az oz hL hh hN1 A3x HT3 HZ3 hrow har hor Q1 Q2 Q3 hrl
      go_wp2_with (at_builtin; refine wpList_append_has rfl (.tmp 46) (.tmp 47) 22 rfl B2 5 i0 Try.underlying22 hi0 hz0 hz1 hz2 _ (16 * k) _ rfl (unhide hrow2) _ L rfl (unhide HH) h47 (unhide HSZ) ?_; intro ao2 cap2 w5 own5 gr5 at5)
      rw [hLl] at own5
      go_roundw
      case rel =>
        refine ⟨k + 1, by omega, ?_, ?_, ?_, ?_⟩
        · have h1 := unhide HPK
          congr 1
          omega
        · show _
          rw [unhide hN2, List.map_append]
          exact own5
        · rw [← unhide HLL]
          exact (unhide AZ).only ((Only.refl (fun j => ∃ x, (Value.ownBlock u12 = some x) ∧ j = x) wz).grown gr5 (fun j hj hlt => ⟨j, hj, rfl⟩)) (fun e => by obtain ⟨x, hx, e2⟩ := e; have h1 := ((unhide hrow2).lt x hx).1; have h2 := unhide HB2; have h3 := unhide HBY; omega)
        · exact (unhide OZ2).grown gr5 (fun j hj hlt => by have h1 := ((unhide hrow2).lt j hj).1; have h2 := unhide HB2; omega)
      case measure => have h1 := unhide HPK; simp [intOf]; omega
    · obtain rfl : k = m := by omega
      have OW : Hid (Only (fun _ => False) w wr) := (unhide OY).trans (unhide hor) (fun j hj e => by have h1 := unhide HB11; have h2 := unhide HW3; omega)
      go_wp2
      go_ret2
      refine ⟨_, rfl, ?_, unhide OW⟩
      rw [unhide HBX]
      unfold Owns
      rw [chT_length f (unhide HF) iv (padT t) hi k (unhide HMT) k (Nat.le_refl _)]
      exact ownsRow_base (unhide hrow) (by have h1 := (unhide OY).size; have h2 := unhide HB2; omega)

set_option maxRecDepth 100000 in
set_option maxHeartbeats 2000000 in
theorem rsealM_not (key iv : List UInt8) (h : ¬ (keyB key ∧ iv.length = 16)) (kv vv tv : Value) (w : World) (hk : Has w kv key) (hv : Has w vv iv) :
    Calls Try.prog 20 #[kv, vv, tv] w fun e w' => e = .returned (.tuple #[.slice none 0 0, .int .i64 1]) ∧ Only (fun _ => False) w w' := by
  by_cases hkb : keyB key
  · obtain ⟨ia, ic, rfl, _⟩ := hv.shape
    have hi : iv.length ≠ 16 := fun e => h ⟨hkb, e⟩
    have h16 : ((iv.length : Int) == 16) = false := by simp; omega
    have g16 : ((iv.length : Int) != 16) = true := by simp; omega
    have HN := hide (rnew_fine key hkb kv w hk)
    clear hk hv h hi
    generalize iv.length = il at *
    go_enter Try.func20, Try.ntmps20
    go_wp2_with fail
    refine (unhide HN).mono ?_
    rintro e w1 ⟨cb, rfl, hc, o1⟩
    have O1 := hide o1
    clear hc o1
    go_wp2
    go_ret2
    exact ⟨rfl, unhide O1⟩
  · have HN := hide (rnew_not key hkb kv w hk)
    clear hk hv h
    go_enter Try.func20, Try.ntmps20
    go_wp2_with fail
    refine (unhide HN).mono ?_
    rintro e w1 ⟨rfl, hw⟩
    rw [hw]
    clear hw w1
    go_wp2
    go_ret2
    exact ⟨rfl, Only.refl _ _⟩

end Md
end Go.Proofs.Ytbhidmeobeecmaa

namespace Go.Proofs.Ytbhidmeobeecmaa
open Go.RowKit
set_option linter.unusedSimpArgs false
set_option linter.unusedVariables false
namespace Md
open Ae (zero16 Arr ag_one range_only after exec_load_mid step_store_mid RCip added added_length blkOf blkOf_length)

set_option maxRecDepth 100000 in
set_option maxHeartbeats 4000000 in
theorem ropenM_fine (key iv box : List UInt8) (h : keyB key) (hi : iv.length = 16) (hl : box.length ≤ 140737488355328) (kv vv tv : Value) (w : World) (hk : Has w kv key) (hv : Has w vv iv) (ht : Has w tv box) :
    Calls Try.prog 21 #[kv, vv, tv] w fun e w' => ∃ v, e = .returned (.tuple #[v, .int .i64 (openE key iv box)]) ∧ Has w' v (openU key iv box) ∧ Only (fun _ => False) w w' := by
  obtain ⟨i0, hi0, hz0, hz1, hz2⟩ := info_parts Try.info5
  obtain ⟨ia, ic, hvs, _⟩ := hv.shape
  subst hvs
  rw [hi] at hv ⊢
  obtain ⟨ba, bc, hts, hbc, _⟩ := ht.shape
  subst hts
  have HN := hide (rnew_fine key h kv w hk)
  have HT := hide ht
  have HV := hide hv
  have HOE : Hid (openE key iv box = if fillsB box then unpadE (opT (openF key) iv box (box.length / 16)) else 11) := rfl
  have HOU : Hid (openU key iv box = if fillsB box then unpadU (opT (openF key) iv box (box.length / 16)) else []) := rfl
  have hm1 : (box.length : Int).tmod 16 = ((box.length % 16 : Nat) : Int) := by rw [Int.tmod_eq_emod_of_nonneg (by omega)]; omega
  have hm2 : (box.length : Int) % 16 = ((box.length % 16 : Nat) : Int) := by omega
  have hf : ∀ s, s.length = 16 → (openF key s).length = 16 := fun s hs => openF_length key h s hs
  have HF := hide hf
  clear hk hv ht hf
  go_enter Try.func21, Try.ntmps21
  go_wp2_with fail
  refine (unhide HN).mono ?_
  rintro e w1 ⟨cb, rfl, hc, o1⟩
  have HAC := hide (racts_open key h hc)
  have O1 := hide o1
  have HT1 := hide ((unhide HT).only o1 (fun _ _ _ e => e))
  have HV1 := hide ((unhide HV).only o1 (fun _ _ _ e => e))
  clear hc o1 HN HT HV
  by_cases h0 : box.length = 0
  · have hfb : fillsB box = false := by unfold fillsB; rw [h0]; rfl
    have HE2 : Hid (openE key iv box = 11) := by show _ = _; rw [unhide HOE, hfb]; rfl
    have HU2 : Hid (openU key iv box = []) := by show _ = _; rw [unhide HOU, hfb]; rfl
    have h0b : ((box.length : Int) == 0) = true := by rw [h0]; rfl
    clear hfb HOE HOU hm1 hm2 h0
    generalize box.length = bl at *
    go_wp2
    go_ret2
    exact ⟨.slice none 0 0, (by rw [unhide HE2]; rfl), (by rw [unhide HU2]; exact Or.inl ⟨rfl, rfl⟩), unhide O1⟩
  by_cases h16 : box.length % 16 = 0
  case neg =>
    have hfb : fillsB box = false := by unfold fillsB; rw [show decide (box.length % 16 = 0) = false by simpa using h16]; simp
    have HE2 : Hid (openE key iv box = 11) := by show _ = _; rw [unhide HOE, hfb]; rfl
    have HU2 : Hid (openU key iv box = []) := by show _ = _; rw [unhide HOU, hfb]; rfl
    have h0b : ((box.length : Int) == 0) = false := by rw [beq_eq_false_iff_ne]; omega
    have hr0 : 0 < box.length % 16 := Nat.pos_of_ne_zero h16
    have hr' : (0 : Int) < ((box.length % 16 : Nat) : Int) := Int.natCast_pos.2 hr0
    have hr15 : box.length % 16 < 16 := Nat.mod_lt _ (by decide)
    clear hfb HOE HOU h0 h16
    generalize box.length % 16 = r at *
    generalize box.length = bl at *
    go_wp2
    go_ret2
    exact ⟨.slice none 0 0, (by rw [unhide HE2]; rfl), (by rw [unhide HU2]; exact Or.inl ⟨rfl, rfl⟩), unhide O1⟩
  case pos =>
    have hfb : fillsB box = true := by unfold fillsB; simp; omega
    have HE2 : Hid (openE key iv box = unpadE (opT (openF key) iv box (box.length / 16))) := by show _ = _; rw [unhide HOE, hfb, if_pos rfl]
    have HU2 : Hid (openU key iv box = unpadU (opT (openF key) iv box (box.length / 16))) := by show _ = _; rw [unhide HOU, hfb, if_pos rfl]
    have h0b : ((box.length : Int) == 0) = false := by rw [beq_eq_false_iff_ne]; omega
    have hmt : box.length = 16 * (box.length / 16) := by omega
    have hml : box.length / 16 ≤ 8796093022208 := by omega
    have hm0 : 0 < box.length / 16 := by omega
    rw [h16] at hm1 hm2
    clear hfb HOE HOU h16 h0
    have HML := hide hml
    have HMT := hide hmt
    generalize box.length / 16 = m at *
    generalize openF key = f at *
    obtain ⟨pg, po, rfl, _, _⟩ := (unhide HT1).at (by omega)
    have hpc : 16 * m ≤ bc := by omega
    clear hmt hml
    go_wp2_with fail
    refine (rblock_any _ iv w1 (unhide HV1)).mono ?_
    rintro e w3 ⟨rfl, o3⟩
    rw [ivS_self iv hi]
    obtain ⟨wy, b10, ey, eb, a10, oy⟩ := fresh16 w3 iv hi
    have HT2 := hide (Ae.there16 (Arr.new w3 41 zero16 _ rfl) rfl hi)
    have HZ2 := hide (Ae.size16s hi)
    have O3 := hide ((unhide O1).trans o3 (fun _ _ e => e))
    have O13 := hide o3
    have hsz3 := (unhide O3).size
    have hpg3 : pg < w3.heap.size := Nat.lt_of_lt_of_le ((unhide HT1).blk_lt (by intro e; have := unhide HMT; rw [e] at this; simp at this; omega) pg rfl) o3.size
    clear o3
    go_upto_region 7 with (refine wpList_store_mid rfl 41 (.tmp 10) (.tmp 37) rfl w3.heap.size 0 (iv.map bv).toArray rfl rfl (unhide HT2) (unhide HZ2) (ag_one _) ?_)
    rw [Ae.zeros_eq, ← ey, ← eb]
    have A10 := hide a10
    have OY := hide ((unhide O3).trans oy (fun _ _ e => e))
    have HPY := hide (((unhide HT1).only (unhide O13) (fun _ _ _ e => e)).only oy (fun _ _ _ e => e))
    have HAY := hide ((unhide HAC).new (unhide O13))
    have HB10 : Hid (w3.heap.size ≤ b10) := by show _ ≤ _; omega
    have HW3 := hide hsz3
    have O3Y := hide oy
    have HPG := hide hpg3
    clear ey eb a10 oy HT2 HZ2 HAC hsz3 hpg3 HT1 HV1
    obtain ⟨B2, hB2⟩ : ∃ B2, B2 = wy.heap.size := ⟨_, rfl⟩
    have hb10y : b10 < wy.heap.size := (unhide A10).lt
    have HBY := hide hb10y
    have HB2 := hide hB2
    clear hB2 hb10y
    have HMT2 := unhide HMT
    have hbl2 : box.length = 16 * m := HMT2
    rw [hbl2]
    have hbi : (box.length : Int) = 16 * (m : Int) := by omega
    clear HMT2 hbl2
    go_wp2
    go_loopw [11, 12, 13, 14] (fun s i _ _ wr => ∃ k : Nat, k ≤ m ∧ i = .int .i64 (16 * (k : Int)) ∧ Hid (wr.ownsRow B2 5 1 s (16 * k) ((opT f iv box k).map bv)) ∧ Hid (Arr wr b10 41 (ah iv box k)) ∧ Hid (Only (fun j => j = b10) wy wr)) (fun _ i _ _ _ => 16 * m - (intOf i).toNat)
    case atStart => exact ⟨0, Nat.zero_le _, rfl, World.ownsRow_nil _ _ _ _, A10, Only.refl _ _⟩
    case round =>
      rename World => wr
      obtain ⟨k, hkm, rfl, hrow, har, hor⟩ := hrel
      by_cases hlt : k < m
      · obtain ⟨C, hC⟩ : ∃ C, C = ah iv box k := ⟨_, rfl⟩
        have hCl : C.length = 16 := by rw [hC]; exact ah_length iv box hi m (unhide HMT) k hkm
        obtain ⟨B, hB⟩ : ∃ B, B = blkOf box k := ⟨_, rfl⟩
        have hBl : B.length = 16 := by rw [hB]; exact blkOf_length box m k (unhide HMT) hlt
        rw [← hC] at har
        have hN1 : Hid (ah iv box (k + 1) = B) := by show _ = _; rw [hB]; unfold ah; rw [if_neg (by omega)]; rfl
        have hN2 : Hid (opT f iv box (k + 1) = opT f iv box k ++ added C (f B)) := by rw [hB, hC, added_comm]; rfl
        have hfl := unhide HF B hBl
        have hal := added_length hCl hfl
        obtain ⟨p, hp⟩ : ∃ p, p = 16 * k := ⟨_, rfl⟩
        obtain ⟨q, hq⟩ : ∃ q, q = p + 16 := ⟨_, rfl⟩
        have hmb := unhide HML
        have M2 : Hid (IntKind.i64.wrap ((p : Int) + 16) = (q : Int)) := by show _ = _; rw [wrap_small _ (by omega) (by omega)]; omega
        have hq2 : (p : Int) + 16 = (q : Int) := by omega
        have M1 : Hid ((16 * (k : Int)) = (p : Int)) := by show _ = _; omega
        have hpr : Has wr (.slice (some ⟨pg, po, none⟩) box.length bc) box := (unhide HPY).only (unhide hor) (fun _ j hj e => by
          have hj' : some pg = some j := hj
          have h1 := unhide HPG
          have h2 := unhide HB10
          simp at hj'
          omega)
        have hmid : Has wr (.slice (some ⟨pg, po + p, none⟩) 16 (bc - p)) B := by
          have h1 := Has.mid hpr (n := 16) p (by rw [unhide HMT]; omega) (by decide)
          rw [hB]
          rw [hp] at h1 ⊢
          exact h1
        have HMID := hide hmid
        have O1R : Hid (Only (fun _ => False) w3 wr) := (unhide O3Y).trans (unhide hor) (fun j hj e => by have := unhide HB10; omega)
        have hsub : q - p = 16 := by omega
        have hpq : p ≤ q := by omega
        have hqk : (q : Int) ≤ (bc : Int) := by omega
        have hnep : ¬ bc = p := by omega
        have hkI : 16 * (k : Int) < 16 * (m : Int) := by omega
        have hp16 : (p : Int) < 16 * (m : Int) := by omega
        have hpb : p ≤ 140737488355328 := by omega
        have HCL := hide hCl
        have HBL := hide hBl
        have HAL := hide hal
        have HFL := hide hfl
        have HPK := hide hp
        clear hC hB hCl hBl hal hfl hpr hmid hp hq
        rw [unhide M1]
        go_wp2_with fail
        refine (rblock_any _ B _ (unhide HMID)).mono ?_
        rintro e x1 ⟨rfl, y1⟩
        rw [ivS_self B (unhide HBL)]
        obtain ⟨wq, b13, eq, eb13, a13, oq⟩ := fresh16 x1 B (unhide HBL)
        have HT3 := hide (Ae.there16 (Arr.new x1 41 zero16 _ rfl) rfl (unhide HBL))
        have HZ3 := hide (Ae.size16s (unhide HBL))
        have Y1 := hide y1
        clear y1
        go_upto_region 12 with (refine wpList_store_mid rfl 41 (.tmp 13) (.tmp 49) rfl x1.heap.size 0 (B.map bv).toArray rfl rfl (unhide HT3) (unhide HZ3) (ag_one _) ?_)
        rw [Ae.zeros_eq, ← eq, ← eb13]
        have HB13 : Hid (wr.heap.size ≤ b13) := by have h1 := (unhide Y1).size; show _ ≤ _; omega
        have A13 := hide a13
        have hY1s := (unhide Y1).size
        have ORQ := hide ((unhide Y1).trans oq (fun _ _ e => e))
        have O1Q : Hid (Only (fun _ => False) w3 wq) := (unhide O1R).trans (unhide ORQ) (fun _ _ e => e)
        have A10q := hide ((unhide har).only (unhide ORQ) (fun e => e))
        clear eq eb13 a13 oq HT3 HZ3
        go_wp2_with fail
        refine wp_region_last_drew (S := (fun w' => Only (fun _ => False) wq w')) 6 (by kernel_rfl) ((Only.refl _ _).drew) (fun hHeld => ?_)
        refine wpAnyL_take (i := 0) (v := ?v102) rfl (by kernel_rfl) (by kernel_rfl) (by kernel_rfl) (by kernel_rfl) (fun _ _ _ h => h) (Or.inl ⟨by rfl, ?hy102⟩) (by assumption) ?rest102
        case hy102 =>
          intro w hSw
          (refine exec_load_mid 41 (.tmp 10) ?_ b10 0 ?_ (C.map bv) _ (range_only (unhide A10q).range hSw (fun e => e)) Ae.Try.under16 rfl (by rw [Ae.Try.size16]; simp [unhide HCL]) <;> rfl)
        try simp only [Act.put, List.setIfInBounds_toArray, List.set_cons_zero, List.set_cons_succ, List.getElem_toArray, List.getElem_cons_succ, List.getElem_cons_zero]
        refine wpAnyL_take (i := 1) (v := ?v103) rfl (by kernel_rfl) (by kernel_rfl) (by kernel_rfl) (by kernel_rfl) (fun _ _ _ h => h) (Or.inl ⟨by rfl, ?hy103⟩) (by assumption) ?rest103
        case hy103 =>
          intro w hSw
          go_simp
          try with_reducible rfl
        try simp only [Act.put, List.setIfInBounds_toArray, List.set_cons_zero, List.set_cons_succ, List.getElem_toArray, List.getElem_cons_succ, List.getElem_cons_zero]
        refine wpAnyL_take (i := 2) (v := ?v104) rfl (by kernel_rfl) (by kernel_rfl) (by kernel_rfl) (by kernel_rfl) (fun _ _ _ h => h) (Or.inl ⟨by rfl, ?hy104⟩) (by assumption) ?rest104
        case hy104 =>
          intro w hSw
          (refine exec_load_mid 41 (.tmp 13) ?_ b13 0 ?_ (B.map bv) _ (range_only (unhide A13).range hSw (fun e => e)) Ae.Try.under16 rfl (by rw [Ae.Try.size16]; simp [unhide HBL]) <;> rfl)
        try simp only [Act.put, List.setIfInBounds_toArray, List.set_cons_zero, List.set_cons_succ, List.getElem_toArray, List.getElem_cons_succ, List.getElem_cons_zero]
        refine wpAnyL_ready (rs := [3, 5]) (by kernel_rfl) (by simp) ?_
        refine (AllReadyL.cons rfl (fun K hK => ?_) (AllReadyL.cons rfl (fun K hK => ?_) AllReadyL.nil))
        · skip
          go_simp
          go_wp2_with fail; refine (unhide HAY B _ (unhide HBL) ((unhide O1Q).drew)).mono ?_; rintro e x3 ⟨rfl, y3⟩; have Q3 : Hid (Only (fun _ => False) wq x3) := ((Only.refl (fun _ => False) wq).drew).trans y3 (fun _ _ e => e); clear y3
          refine hK.out _ _ ((unhide Q3)) (fun hHeld => ?_)
          clear hK K
          try simp only [Act.put, List.setIfInBounds_toArray, List.set_cons_zero, List.set_cons_succ, List.getElem_toArray, List.getElem_cons_succ, List.getElem_cons_zero]
          refine wpAnyL_ready (rs := [4, 5]) (by kernel_rfl) (by simp) ?_
          refine (AllReadyL.cons rfl (fun K hK => ?_) (AllReadyL.cons rfl (fun K hK => ?_) AllReadyL.nil))
          · skip
            go_simp
            go_wp2_with fail; refine (rxor_any C (f B) _ (unhide HCL) (unhide HFL)).mono ?_; rintro e x4 ⟨rfl, y4⟩; have Q4 : Hid (Only (fun _ => False) wq x4) := (unhide Q3).trans y4 (fun _ _ e => e); clear y4
            refine hK.out _ _ ((unhide Q4)) (fun hHeld => ?_)
            clear hK K
            try simp only [Act.put, List.setIfInBounds_toArray, List.set_cons_zero, List.set_cons_succ, List.getElem_toArray, List.getElem_cons_succ, List.getElem_cons_zero]
            obtain ⟨b14, hb14⟩ : ∃ b14, b14 = x4.heap.size := ⟨_, rfl⟩
            have A14 : Hid (Arr (x4.alloc (.cells #[Value.int IntKind.u8 0, Value.int IntKind.u8 0, Value.int IntKind.u8 0, Value.int IntKind.u8 0, Value.int IntKind.u8 0, Value.int IntKind.u8 0, Value.int IntKind.u8 0, Value.int IntKind.u8 0, Value.int IntKind.u8 0, Value.int IntKind.u8 0, Value.int IntKind.u8 0, Value.int IntKind.u8 0, Value.int IntKind.u8 0, Value.int IntKind.u8 0, Value.int IntKind.u8 0, Value.int IntKind.u8 0] 41)) b14 41 zero16) := by rw [hb14]; exact Arr.new x4 _ zero16 _ rfl
            have HB14 : Hid (wr.heap.size ≤ b14) := by have h1 := (unhide ORQ).size; have h2 := (unhide Q4).size; show _ ≤ _; omega
            have HB14q : Hid (wq.heap.size ≤ b14) := by have h2 := (unhide Q4).size; show _ ≤ _; omega
            refine wpAnyL_ready (rs := [5]) (by kernel_rfl) (by simp) ?_
            refine AllReadyL.cons rfl (fun K hK => ?_) AllReadyL.nil
            go_simp
            refine hK.out _ _ ((((unhide Q4)).alloc _)) (fun hHeld => ?_)
            clear hK K
            try simp only [Act.put, List.setIfInBounds_toArray, List.set_cons_zero, List.set_cons_succ, List.getElem_toArray, List.getElem_cons_succ, List.getElem_cons_zero]
            rw [← hb14]
            have QX := hide ((unhide Q4).alloc (.cells #[Value.int IntKind.u8 0, Value.int IntKind.u8 0, Value.int IntKind.u8 0, Value.int IntKind.u8 0, Value.int IntKind.u8 0, Value.int IntKind.u8 0, Value.int IntKind.u8 0, Value.int IntKind.u8 0, Value.int IntKind.u8 0, Value.int IntKind.u8 0, Value.int IntKind.u8 0, Value.int IntKind.u8 0, Value.int IntKind.u8 0, Value.int IntKind.u8 0, Value.int IntKind.u8 0, Value.int IntKind.u8 0] 41))
            clear hb14
            generalize x4.alloc _ = xx at *
            have HT4 := hide (Ae.there16 (unhide A14) rfl (unhide HAL))
            have HZ4 := hide (Ae.size16s (unhide HAL))
            refine wpAnyL_ready (rs := [6]) (by kernel_rfl) (by simp) ?_
            refine AllReadyL.last rfl (fun K hK => ?_)
            refine step_store_mid rfl 41 (.tmp 14) (.tmp 54) rfl b14 0 ((added C (f B)).map bv).toArray rfl rfl (unhide HT4) (unhide HZ4) (ag_one _) ?_
            refine hK.out _ _ (trivial) (fun hHeld => ?_)
            clear hK K
            try simp only [Act.put, List.setIfInBounds_toArray, List.set_cons_zero, List.set_cons_succ, List.getElem_toArray, List.getElem_cons_succ, List.getElem_cons_zero]
            refine wpAnyL_done (by kernel_rfl) ?_ _
            obtain ⟨wz, ez, az, oz⟩ := Ae.restored xx b14 zero16 (added C (f B)) (unhide A14) (by rw [unhide HAL]; rfl)
            first
              | rw [← ez]
              | (simp only [List.toList_toArray]; rw [← ez])
            obtain ⟨L, hL⟩ : ∃ L, L = added C (f B) := ⟨_, rfl⟩
            rw [← hL] at az HAL hN2
            have hh : Has wz (.slice (some ⟨b14, 0, none⟩) 16 16) L := by
              have h := has_lit az.out (by rw [unhide HAL]; unfold maxLen; omega)
              rw [unhide HAL] at h
              exact h
            have HH := hide hh
            have ORZ : Hid (Only (fun _ => False) wr wz) := ((unhide ORQ).trans (unhide QX) (fun _ _ e => e)).trans oz (fun j hj e => by have h1 := unhide HB14; omega)
            have A13z := hide ((unhide A13).only ((unhide QX).trans oz (fun j hj e => show False by have h1 := unhide HB14q; omega)) (fun e => e))
            have A10z := hide ((unhide har).only (unhide ORZ) (fun e => e))
            have hrow2 := hide ((unhide ORZ).owns (unhide hrow) (fun _ _ e => e))
            have OZ2 : Hid (Only (fun j => j = b10) wy wz) := (unhide hor).trans (unhide ORZ) (fun _ _ e => e.elim)
            have HSZ : Hid (B2 ≤ wz.heap.size) := by have h1 := (unhide OZ2).size; have h2 := unhide HB2; show _ ≤ _; omega
            have hLl := unhide HAL
            have h47 : 16 * k + L.length ≤ 140737488355328 := by omega
            have hrl := (unhide hrow).lt
            have HRL := hide hrl
            have hz13 := hide az
            clear ez az oz hL hh HT4 HZ4 hrl
            go_upto_region 14 with (at_builtin; refine wpList_append_has rfl (.tmp 55) (.tmp 56) 22 rfl B2 5 i0 Try.underlying22 hi0 hz0 hz1 hz2 _ (16 * k) _ rfl (unhide hrow2) _ L rfl (unhide HH) h47 (unhide HSZ) ?_; intro ao2 cap2 w5 own5 gr5 at5)
            rw [hLl] at own5
            have OG : Hid (Only (fun j => Value.ownBlock u11 = some j) wz w5) := (Only.refl (fun j => Value.ownBlock u11 = some j) wz).grown gr5 (fun j hj hlt => hj)
            have A13g := hide ((unhide A13z).only (unhide OG) (fun e => by have h1 := (unhide HRL b13 e).2; have h2 := unhide HB13; omega))
            have A10g := hide ((unhide A10z).only (unhide OG) (fun e => by have h1 := (unhide HRL b10 e).1; have h2 := unhide HB2; have h3 := unhide HBY; omega))
            have HT5 := hide (Ae.there16 (unhide A10g) (unhide HCL) (unhide HBL))
            have HZ5 := hide (Ae.size16s (unhide HBL))
            obtain ⟨wv, ev, av, ov⟩ := Ae.restored w5 b10 C B (unhide A10g) (by rw [unhide HBL, unhide HCL])
            have OWN5 : Hid (w5.ownsRow B2 5 1 (.slice ao2 (16 * k + 16) cap2) (16 * (k + 1)) ((opT f iv box (k + 1)).map bv)) := by
              rw [unhide hN2, List.map_append]
              exact own5
            have OWNV := hide (ov.owns (unhide OWN5) (fun j hj e => by have h1 := ((unhide OWN5).lt j hj).1; have h2 := unhide HB2; have h3 := unhide HBY; omega))
            have OV : Hid (Only (fun j => j = b10) wy wv) := ((unhide OZ2).trans (unhide OG) (fun j hj e => by have h1 := (unhide HRL j e).1; have h2 := unhide HB2; omega)).trans ov (fun _ _ e => e)
            have AV := hide av
            clear own5 gr5 at5 av ov
            have hmm := unhide HML
            go_upto_region 10 with (first | (refine wpList_load_mid rfl 41 (.tmp 13) rfl b13 0 rfl (B.map bv) _ (unhide A13g).range Ae.Try.under16 rfl (by rw [Ae.Try.size16]; simp [unhide HBL]) ?_) | (refine wpList_store_mid rfl 41 (.tmp 10) (.tmp 58) rfl b10 0 (B.map bv).toArray rfl rfl (unhide HT5) (unhide HZ5) (ag_one _) ?_))
            first
              | rw [← ev]
              | (simp only [List.toList_toArray]; rw [← ev])
            clear ev
            go_wp2
            go_roundw
            case rel =>
              refine ⟨k + 1, by omega, ?_, ?_, by rw [unhide hN1]; exact AV, OV⟩
              · have h1 := unhide HPK
                congr 1
                omega
              · exact OWNV
            case measure => have h1 := unhide HPK; simp [intOf]; omega
          · skip
            obtain ⟨b14, hb14⟩ : ∃ b14, b14 = x3.heap.size := ⟨_, rfl⟩
            have A14a : Hid (Arr (x3.alloc (.cells #[Value.int IntKind.u8 0, Value.int IntKind.u8 0, Value.int IntKind.u8 0, Value.int IntKind.u8 0, Value.int IntKind.u8 0, Value.int IntKind.u8 0, Value.int IntKind.u8 0, Value.int IntKind.u8 0, Value.int IntKind.u8 0, Value.int IntKind.u8 0, Value.int IntKind.u8 0, Value.int IntKind.u8 0, Value.int IntKind.u8 0, Value.int IntKind.u8 0, Value.int IntKind.u8 0, Value.int IntKind.u8 0] 41)) b14 41 zero16) := by rw [hb14]; exact Arr.new x3 _ zero16 _ rfl
            have HB14 : Hid (wr.heap.size ≤ b14) := by have h1 := (unhide ORQ).size; have h2 : wq.heap.size ≤ x3.heap.size := (unhide Q3).size; show _ ≤ _; omega
            have HB14q : Hid (wq.heap.size ≤ b14) := by have h2 : wq.heap.size ≤ x3.heap.size := (unhide Q3).size; show _ ≤ _; omega
            have QA := hide ((unhide Q3).alloc (.cells #[Value.int IntKind.u8 0, Value.int IntKind.u8 0, Value.int IntKind.u8 0, Value.int IntKind.u8 0, Value.int IntKind.u8 0, Value.int IntKind.u8 0, Value.int IntKind.u8 0, Value.int IntKind.u8 0, Value.int IntKind.u8 0, Value.int IntKind.u8 0, Value.int IntKind.u8 0, Value.int IntKind.u8 0, Value.int IntKind.u8 0, Value.int IntKind.u8 0, Value.int IntKind.u8 0, Value.int IntKind.u8 0] 41))
            go_simp
            refine hK.out _ _ (((unhide Q3).alloc _)) (fun hHeld => ?_)
            clear hK K
            try simp only [Act.put, List.setIfInBounds_toArray, List.set_cons_zero, List.set_cons_succ, List.getElem_toArray, List.getElem_cons_succ, List.getElem_cons_zero]
            rw [← hb14]
            clear hb14
            generalize x3.alloc _ = xa at *
            refine wpAnyL_ready (rs := [4]) (by kernel_rfl) (by simp) ?_
            refine AllReadyL.cons rfl (fun K hK => ?_) AllReadyL.nil
            go_simp
            go_wp2_with fail; refine (rxor_any C (f B) _ (unhide HCL) (unhide HFL)).mono ?_; rintro e x4 ⟨rfl, y4⟩; have Q4 : Hid (Only (fun _ => False) wq x4) := (unhide QA).trans y4 (fun _ _ e => e); have A14 : Hid (Arr x4 b14 41 zero16) := (unhide A14a).only y4 (fun e => e); have QX := Q4; clear y4
            refine hK.out _ _ ((unhide Q4)) (fun hHeld => ?_)
            clear hK K
            try simp only [Act.put, List.setIfInBounds_toArray, List.set_cons_zero, List.set_cons_succ, List.getElem_toArray, List.getElem_cons_succ, List.getElem_cons_zero]
            obtain ⟨xx, hxx⟩ : ∃ xx, xx = x4 := ⟨_, rfl⟩
            rw [← hxx] at A14 QX Q4 ⊢
            clear hxx
            have HT4 := hide (Ae.there16 (unhide A14) rfl (unhide HAL))
            have HZ4 := hide (Ae.size16s (unhide HAL))
            refine wpAnyL_ready (rs := [6]) (by kernel_rfl) (by simp) ?_
            refine AllReadyL.last rfl (fun K hK => ?_)
            refine step_store_mid rfl 41 (.tmp 14) (.tmp 54) rfl b14 0 ((added C (f B)).map bv).toArray rfl rfl (unhide HT4) (unhide HZ4) (ag_one _) ?_
            refine hK.out _ _ (trivial) (fun hHeld => ?_)
            clear hK K
            try simp only [Act.put, List.setIfInBounds_toArray, List.set_cons_zero, List.set_cons_succ, List.getElem_toArray, List.getElem_cons_succ, List.getElem_cons_zero]
            refine wpAnyL_done (by kernel_rfl) ?_ _
            obtain ⟨wz, ez, az, oz⟩ := Ae.restored xx b14 zero16 (added C (f B)) (unhide A14) (by rw [unhide HAL]; rfl)
            first
              | rw [← ez]
              | (simp only [List.toList_toArray]; rw [← ez])
            obtain ⟨L, hL⟩ : ∃ L, L = added C (f B) := ⟨_, rfl⟩
            rw [← hL] at az HAL hN2
            have hh : Has wz (.slice (some ⟨b14, 0, none⟩) 16 16) L := by
              have h := has_lit az.out (by rw [unhide HAL]; unfold maxLen; omega)
              rw [unhide HAL] at h
              exact h
            have HH := hide hh
            have ORZ : Hid (Only (fun _ => False) wr wz) := ((unhide ORQ).trans (unhide QX) (fun _ _ e => e)).trans oz (fun j hj e => by have h1 := unhide HB14; omega)
            have A13z := hide ((unhide A13).only ((unhide QX).trans oz (fun j hj e => show False by have h1 := unhide HB14q; omega)) (fun e => e))
            have A10z := hide ((unhide har).only (unhide ORZ) (fun e => e))
            have hrow2 := hide ((unhide ORZ).owns (unhide hrow) (fun _ _ e => e))
            have OZ2 : Hid (Only (fun j => j = b10) wy wz) := (unhide hor).trans (unhide ORZ) (fun _ _ e => e.elim)
            have HSZ : Hid (B2 ≤ wz.heap.size) := by have h1 := (unhide OZ2).size; have h2 := unhide HB2; show _ ≤ _; omega
            have hLl := unhide HAL
            have h47 : 16 * k + L.length ≤ 140737488355328 := by omega
            have hrl := (unhide hrow).lt
            have HRL := hide hrl
            have hz13 := hide az
            clear ez az oz hL hh HT4 HZ4 hrl
            go_upto_region 14 with (at_builtin; refine wpList_append_has rfl (.tmp 55) (.tmp 56) 22 rfl B2 5 i0 Try.underlying22 hi0 hz0 hz1 hz2 _ (16 * k) _ rfl (unhide hrow2) _ L rfl (unhide HH) h47 (unhide HSZ) ?_; intro ao2 cap2 w5 own5 gr5 at5)
            rw [hLl] at own5
            have OG : Hid (Only (fun j => Value.ownBlock u11 = some j) wz w5) := (Only.refl (fun j => Value.ownBlock u11 = some j) wz).grown gr5 (fun j hj hlt => hj)
            have A13g := hide ((unhide A13z).only (unhide OG) (fun e => by have h1 := (unhide HRL b13 e).2; have h2 := unhide HB13; omega))
            have A10g := hide ((unhide A10z).only (unhide OG) (fun e => by have h1 := (unhide HRL b10 e).1; have h2 := unhide HB2; have h3 := unhide HBY; omega))
            have HT5 := hide (Ae.there16 (unhide A10g) (unhide HCL) (unhide HBL))
            have HZ5 := hide (Ae.size16s (unhide HBL))
            obtain ⟨wv, ev, av, ov⟩ := Ae.restored w5 b10 C B (unhide A10g) (by rw [unhide HBL, unhide HCL])
            have OWN5 : Hid (w5.ownsRow B2 5 1 (.slice ao2 (16 * k + 16) cap2) (16 * (k + 1)) ((opT f iv box (k + 1)).map bv)) := by
              rw [unhide hN2, List.map_append]
              exact own5
            have OWNV := hide (ov.owns (unhide OWN5) (fun j hj e => by have h1 := ((unhide OWN5).lt j hj).1; have h2 := unhide HB2; have h3 := unhide HBY; omega))
            have OV : Hid (Only (fun j => j = b10) wy wv) := ((unhide OZ2).trans (unhide OG) (fun j hj e => by have h1 := (unhide HRL j e).1; have h2 := unhide HB2; omega)).trans ov (fun _ _ e => e)
            have AV := hide av
            clear own5 gr5 at5 av ov
            have hmm := unhide HML
            go_upto_region 10 with (first | (refine wpList_load_mid rfl 41 (.tmp 13) rfl b13 0 rfl (B.map bv) _ (unhide A13g).range Ae.Try.under16 rfl (by rw [Ae.Try.size16]; simp [unhide HBL]) ?_) | (refine wpList_store_mid rfl 41 (.tmp 10) (.tmp 58) rfl b10 0 (B.map bv).toArray rfl rfl (unhide HT5) (unhide HZ5) (ag_one _) ?_))
            first
              | rw [← ev]
              | (simp only [List.toList_toArray]; rw [← ev])
            clear ev
            go_wp2
            go_roundw
            case rel =>
              refine ⟨k + 1, by omega, ?_, ?_, by rw [unhide hN1]; exact AV, OV⟩
              · have h1 := unhide HPK
                congr 1
                omega
              · exact OWNV
            case measure => have h1 := unhide HPK; simp [intOf]; omega
        · skip
          obtain ⟨b14, hb14⟩ : ∃ b14, b14 = wq.heap.size := ⟨_, rfl⟩
          have A14a : Hid (Arr ((wq.alloc (.cells #[Value.int IntKind.u8 0, Value.int IntKind.u8 0, Value.int IntKind.u8 0, Value.int IntKind.u8 0, Value.int IntKind.u8 0, Value.int IntKind.u8 0, Value.int IntKind.u8 0, Value.int IntKind.u8 0, Value.int IntKind.u8 0, Value.int IntKind.u8 0, Value.int IntKind.u8 0, Value.int IntKind.u8 0, Value.int IntKind.u8 0, Value.int IntKind.u8 0, Value.int IntKind.u8 0, Value.int IntKind.u8 0] 41)).drew) b14 41 zero16) := by rw [hb14]; exact Arr.new wq _ zero16 _ rfl
          have HB14 : Hid (wr.heap.size ≤ b14) := by have h1 := (unhide ORQ).size; show _ ≤ _; omega
          have HB14q : Hid (wq.heap.size ≤ b14) := by show _ ≤ _; omega
          have QA := hide ((((Only.refl (fun _ => False) wq)).alloc (.cells #[Value.int IntKind.u8 0, Value.int IntKind.u8 0, Value.int IntKind.u8 0, Value.int IntKind.u8 0, Value.int IntKind.u8 0, Value.int IntKind.u8 0, Value.int IntKind.u8 0, Value.int IntKind.u8 0, Value.int IntKind.u8 0, Value.int IntKind.u8 0, Value.int IntKind.u8 0, Value.int IntKind.u8 0, Value.int IntKind.u8 0, Value.int IntKind.u8 0, Value.int IntKind.u8 0, Value.int IntKind.u8 0] 41)).drew)
          go_simp
          refine hK.out _ _ (((((Only.refl (fun _ => False) wq)).alloc _).drew)) (fun hHeld => ?_)
          clear hK K
          try simp only [Act.put, List.setIfInBounds_toArray, List.set_cons_zero, List.set_cons_succ, List.getElem_toArray, List.getElem_cons_succ, List.getElem_cons_zero]
          rw [← hb14]
          clear hb14
          generalize (wq.alloc _).drew = xa at *
          refine wpAnyL_ready (rs := [3]) (by kernel_rfl) (by simp) ?_
          refine AllReadyL.cons rfl (fun K hK => ?_) AllReadyL.nil
          go_simp
          go_wp2_with fail; refine (unhide HAY B _ (unhide HBL) ((unhide O1Q).trans (unhide QA) (fun _ _ e => e))).mono ?_; rintro e x3 ⟨rfl, y3⟩; have Q3 : Hid (Only (fun _ => False) wq x3) := (unhide QA).trans y3 (fun _ _ e => e); have A14b : Hid (Arr x3 b14 41 zero16) := (unhide A14a).only y3 (fun e => e); clear y3
          refine hK.out _ _ ((unhide Q3)) (fun hHeld => ?_)
          clear hK K
          try simp only [Act.put, List.setIfInBounds_toArray, List.set_cons_zero, List.set_cons_succ, List.getElem_toArray, List.getElem_cons_succ, List.getElem_cons_zero]
          refine wpAnyL_ready (rs := [4]) (by kernel_rfl) (by simp) ?_
          refine AllReadyL.cons rfl (fun K hK => ?_) AllReadyL.nil
          go_simp
          go_wp2_with fail; refine (rxor_any C (f B) _ (unhide HCL) (unhide HFL)).mono ?_; rintro e x4 ⟨rfl, y4⟩; have Q4 : Hid (Only (fun _ => False) wq x4) := (unhide Q3).trans y4 (fun _ _ e => e); have A14 : Hid (Arr x4 b14 41 zero16) := (unhide A14b).only y4 (fun e => e); have QX := Q4; clear y4
          refine hK.out _ _ ((unhide Q4)) (fun hHeld => ?_)
          clear hK K
          try simp only [Act.put, List.setIfInBounds_toArray, List.set_cons_zero, List.set_cons_succ, List.getElem_toArray, List.getElem_cons_succ, List.getElem_cons_zero]
          obtain ⟨xx, hxx⟩ : ∃ xx, xx = x4 := ⟨_, rfl⟩
          rw [← hxx] at A14 QX Q4 ⊢
          clear hxx
          have HT4 := hide (Ae.there16 (unhide A14) rfl (unhide HAL))
          have HZ4 := hide (Ae.size16s (unhide HAL))
          refine wpAnyL_ready (rs := [6]) (by kernel_rfl) (by simp) ?_
          refine AllReadyL.last rfl (fun K hK => ?_)
          refine step_store_mid rfl 41 (.tmp 14) (.tmp 54) rfl b14 0 ((added C (f B)).map bv).toArray rfl rfl (unhide HT4) (unhide HZ4) (ag_one _) ?_
          refine hK.out _ _ (trivial) (fun hHeld => ?_)
          clear hK K
          try simp only [Act.put, List.setIfInBounds_toArray, List.set_cons_zero, List.set_cons_succ, List.getElem_toArray, List.getElem_cons_succ, List.getElem_cons_zero]
          refine wpAnyL_done (by kernel_rfl) ?_ _
          obtain ⟨wz, ez, az, oz⟩ := Ae.restored xx b14 zero16 (added C (f B)) (unhide A14) (by rw [unhide HAL]; rfl)
          first
            | rw [← ez]
            | (simp only [List.toList_toArray]; rw [← ez])
          obtain ⟨L, hL⟩ : ∃ L, L = added C (f B) := ⟨_, rfl⟩
          rw [← hL] at az HAL hN2
          have hh : Has wz (.slice (some ⟨b14, 0, none⟩) 16 16) L := by
            have h := has_lit az.out (by rw [unhide HAL]; unfold maxLen; omega)
            rw [unhide HAL] at h
            exact h
          have HH := hide hh
          have ORZ : Hid (Only (fun _ => False) wr wz) := ((unhide ORQ).trans (unhide QX) (fun _ _ e => e)).trans oz (fun j hj e => by have h1 := unhide HB14; omega)
          have A13z := hide ((unhide A13).only ((unhide QX).trans oz (fun j hj e => show False by have h1 := unhide HB14q; omega)) (fun e => e))
          have A10z := hide ((unhide har).only (unhide ORZ) (fun e => e))
          have hrow2 := hide ((unhide ORZ).owns (unhide hrow) (fun _ _ e => e))
          have OZ2 : Hid (Only (fun j => j = b10) wy wz) := (unhide hor).trans (unhide ORZ) (fun _ _ e => e.elim)
          have HSZ : Hid (B2 ≤ wz.heap.size) := by have h1 := (unhide OZ2).size; have h2 := unhide HB2; show _ ≤ _; omega
          have hLl := unhide HAL
          have h47 : 16 * k + L.length ≤ 140737488355328 := by omega
          have hrl := (unhide hrow).lt
          have HRL := hide hrl
          have hz13 := hide az
          clear ez az oz hL hh HT4 HZ4 hrl
          go_upto_region 14 with (at_builtin; refine wpList_append_has rfl (.tmp 55) (.tmp 56) 22 rfl B2 5 i0 Try.underlying22 hi0 hz0 hz1 hz2 _ (16 * k) _ rfl (unhide hrow2) _ L rfl (unhide HH) h47 (unhide HSZ) ?_; intro ao2 cap2 w5 own5 gr5 at5)
          rw [hLl] at own5
          have OG : Hid (Only (fun j => Value.ownBlock u11 = some j) wz w5) := (Only.refl (fun j => Value.ownBlock u11 = some j) wz).grown gr5 (fun j hj hlt => hj)
          have A13g := hide ((unhide A13z).only (unhide OG) (fun e => by have h1 := (unhide HRL b13 e).2; have h2 := unhide HB13; omega))
          have A10g := hide ((unhide A10z).only (unhide OG) (fun e => by have h1 := (unhide HRL b10 e).1; have h2 := unhide HB2; have h3 := unhide HBY; omega))
          have HT5 := hide (Ae.there16 (unhide A10g) (unhide HCL) (unhide HBL))
          have HZ5 := hide (Ae.size16s (unhide HBL))
          obtain ⟨wv, ev, av, ov⟩ := Ae.restored w5 b10 C B (unhide A10g) (by rw [unhide HBL, unhide HCL])
          have OWN5 : Hid (w5.ownsRow B2 5 1 (.slice ao2 (16 * k + 16) cap2) (16 * (k + 1)) ((opT f iv box (k + 1)).map bv)) := by
            rw [unhide hN2, List.map_append]
            exact own5
          have OWNV := hide (ov.owns (unhide OWN5) (fun j hj e => by have h1 := ((unhide OWN5).lt j hj).1; have h2 := unhide HB2; have h3 := unhide HBY; omega))
          have OV : Hid (Only (fun j => j = b10) wy wv) := ((unhide OZ2).trans (unhide OG) (fun j hj e => by have h1 := (unhide HRL j e).1; have h2 := unhide HB2; omega)).trans ov (fun _ _ e => e)
          have AV := hide av
          clear own5 gr5 at5 av ov
          have hmm := unhide HML
          go_upto_region 10 with (first | (refine wpList_load_mid rfl 41 (.tmp 13) rfl b13 0 rfl (B.map bv) _ (unhide A13g).range Ae.Try.under16 rfl (by rw [Ae.Try.size16]; simp [unhide HBL]) ?_) | (refine wpList_store_mid rfl 41 (.tmp 10) (.tmp 58) rfl b10 0 (B.map bv).toArray rfl rfl (unhide HT5) (unhide HZ5) (ag_one _) ?_))
          first
            | rw [← ev]
            | (simp only [List.toList_toArray]; rw [← ev])
          clear ev
          go_wp2
          go_roundw
          case rel =>
            refine ⟨k + 1, by omega, ?_, ?_, by rw [unhide hN1]; exact AV, OV⟩
            · have h1 := unhide HPK
              congr 1
              omega
            · exact OWNV
          case measure => have h1 := unhide HPK; simp [intOf]; omega
      · obtain rfl : k = m := by omega
        have OW : Hid (Only (fun _ => False) w wr) := (unhide OY).trans (unhide hor) (fun j hj e => by have h1 := unhide HB10; have h2 := unhide HW3; omega)
        have hl := opT_length f (unhide HF) iv box hi k (unhide HMT) k (Nat.le_refl _)
        have hown : Has wr u11 (opT f iv box k) := Has.ofOwns (unhide hrow)
        have HU := hide (runpad_any u11 _ wr hown (by rw [hl]; have := unhide HML; omega))
        clear hrow har hown
        go_wp2_with fail
        refine (unhide HU).mono ?_
        rintro e z2 ⟨vu, rfl, hu, yu⟩
        have HU2' := hide hu
        have OU := hide ((unhide OW).trans yu (fun _ _ e => e))
        clear hu yu
        go_wp2
        go_ret2
        exact ⟨vu, (by rw [unhide HE2]; rfl), (by rw [unhide HU2]; exact unhide HU2'), unhide OU⟩

end Md
end Go.Proofs.Ytbhidmeobeecmaa
