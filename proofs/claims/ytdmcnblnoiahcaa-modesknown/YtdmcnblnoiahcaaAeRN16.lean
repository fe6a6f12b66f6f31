/-
  locksmithref8: New of a key of 16 bytes.
-/
import Derived.Test.YtdmcnblnoiahcaaAeRW
namespace Go.Proofs.Ytdmcnblnoiahcaa
open Go.RowKit
set_option linter.unusedSimpArgs false
set_option linter.unusedVariables false
namespace Ae
attribute [local go_sem ↓] execOp_loadW4

set_option maxRecDepth 100000 in
set_option maxHeartbeats 8000000 in
theorem rnew_16 (kb ko kcap : Nat) (key : List UInt8) (hk : key.length = 16) (w : World) (hx : Has w (.slice (some ⟨kb, ko, none⟩) 16 kcap) key) :
    Calls Try.prog 30 #[.slice (some ⟨kb, ko, none⟩) 16 kcap] w fun e w' => ∃ cb, e = .returned (.tuple #[.pointer (some ⟨cb, 0, none⟩), .bool true]) ∧ RCip w' cb 11 (expd 16 key 40).1 ∧ Only (fun _ => False) w w' := by
  obtain ⟨i4, hi4, hz40, hz41, hz42⟩ := info_parts Try.infoW
  have hkcap : 16 ≤ kcap := by obtain ⟨_, _, e, h, _⟩ := hx.shape; simp only [Value.slice.injEq] at e; omega
  have hkc : ∀ j (hj : j < key.length), w.cell? ⟨kb, ko + j, none⟩ = some (bv key[j]) := by
    obtain ⟨bb, off, e, _, hc⟩ := hx.at (by decide)
    simp only [Option.some.injEq, Addr.mk.injEq, and_true] at e
    obtain ⟨rfl, rfl⟩ := e
    exact hc
  have hkblt : kb < w.heap.size := hx.blk_lt (by intro e; rw [e] at hk; simp at hk) kb rfl
  have HKB := hide hkblt
  have HKC := hide hkc
  have HKL := hide hk
  have hzv := zvC
  have hzl : zeroC.length = 513 := by simp [zeroC, zero256]
  have hz : ∃ X Y : List Value, X.length = 256 ∧ Y.length = 256 ∧ zeroC = [Value.slice none 0 0] ++ (X ++ Y) := ⟨_, _, by simp [zero256], by simp [zero256], rfl⟩
  have HZ := hide hz
  clear hz hzl hx hkc hk hkblt
  generalize zeroC = Z at *
  obtain ⟨A, hA⟩ : ∃ A, A = tbox := ⟨_, rfl⟩
  obtain ⟨B, hB⟩ : ∃ B, B = tback 256 := ⟨_, rfl⟩
  have hbx := fun W => boxes_any W
  rw [← hA, ← hB] at hbx
  have HBX := hide hbx
  have hAl : A.length = 256 := by rw [hA]; exact tbox_len
  have hBl : B.length = 256 := by rw [hB]; exact tback_len 256
  have HAB := hide (And.intro hA hB)
  clear hA hB hbx
  go_enter Try.func30, Try.ntmps30
  go_wp2_with fail
  refine (unhide HBX _).mono ?_
  rintro e w1 ⟨rfl, o1⟩
  obtain ⟨cb, hcb⟩ : ∃ cb, cb = w.heap.size := ⟨_, rfl⟩
  rw [← hcb]
  have hblk : w1.heap[cb]? = some (.cells Z.toArray 83 (0, 0)) := o1.heap (by rw [hcb]; exact heap_alloc_last w _) (fun e => e)
  obtain ⟨X, Y, hX, hY, hZ⟩ := unhide HZ
  rw [hZ] at hblk
  have hzl : ([Value.slice none 0 0] ++ (X ++ Y)).length = 513 := by simp [hX, hY]
  have sA : (A.map bv).toArray.size = 256 := by simp [hAl]
  have sB : (B.map bv).toArray.size = 256 := by simp [hBl]
  have t1 : w1.there cb 1 (A.map bv).toArray.size := by rw [sA]; exact there_at hblk 1 256 (by rw [List.size_toArray, hzl]; decide)
  have t2 : (w1.setCells cb 1 (A.map bv).toArray.toList).there cb 257 (B.map bv).toArray.size := by rw [sB]; exact there_two _ hblk 1 (by rw [hzl]; simp [hAl]) 257 256 (by rw [hzl]; decide)
  have z1 : (Try.prog.info? 81).map (·.size) = some (A.map bv).toArray.size := by rw [sA]; exact Try.size256
  have z2 : (Try.prog.info? 81).map (·.size) = some (B.map bv).toArray.size := by rw [sB]; exact Try.size256
  have T1 := hide t1
  have T2 := hide t2
  have Z1 := hide z1
  have Z2 := hide z2
  obtain ⟨w6, e6, hb6, o6⟩ := tables (v := Value.slice none 0 0) X Y (A.map bv).toArray.toList (B.map bv).toArray.toList hX hY (by simp [hAl]) (by simp [hBl]) hblk
  have hcb1 : cb < w1.heap.size := lt_of_block hblk
  have HCW : Hid (cb = w.heap.size) := hcb
  clear t1 t2 z1 z2 hzl sA sB hblk hX hY hzv hZ HZ HBX hcb
  go_upto_region 6 with (first
    | (refine wpList_store_mid rfl 81 (.tmp 35) (.tmp 32) rfl cb 1 (A.map bv).toArray rfl rfl (unhide T1) (unhide Z1) (ag_one _) ?_)
    | (refine wpList_store_mid rfl 81 (.tmp 37) (.tmp 33) rfl cb 257 (B.map bv).toArray rfl rfl (unhide T2) (unhide Z2) (ag_one _) ?_))
  first
    | rw [← e6]
    | (simp only [List.toList_toArray] at e6 ⊢; rw [← e6])
  have O6 : Hid (Only (fun _ => False) w w6) := (((Only.refl (fun _ => False) w).alloc _).trans o1 (fun _ _ e => e)).trans o6 (fun j hj e => by have := unhide HCW; omega)
  have hb6' : w6.heap[cb]? = some (.cells ([Value.slice none 0 0] ++ (A.map bv ++ B.map bv)).toArray 83 (0, 0)) := by simpa using hb6
  have hcb6 : cb < w6.heap.size := lt_of_block hb6'
  have HI : Hid (RIn w6 w6.heap.size cb 0 (rw' 16 key 0).1 A B w6) := ⟨none, 0, hb6', by rw [show (rw' 16 key 0).1 = [] from by unfold rw'; rw [if_pos (by decide)]; rfl]; exact World.ownsRow_nil _ _ _ _, Only.refl _ _⟩
  have h20 : (rw' 16 key 0).2 = 1 := rfl
  have HKC6 : Hid (∀ j (hj : j < key.length), w6.cell? ⟨kb, ko + j, none⟩ = some (bv key[j])) := fun j hj => (unhide O6).cell (unhide HKC j hj) (fun e => e)
  clear T1 T2 Z1 Z2 e6 o6 hb6 hb6' o1 hcb1 HKC
  go_wp2
  go_loopw [6, 7, 8, 9] (fun c i _ _ wr => ∃ k : Nat, k ≤ 44 ∧ i = .int .i64 k ∧ c = .int .u8 ((rw' 16 key k).2.toNat : Int) ∧ Hid (RIn w6 w6.heap.size cb k (rw' 16 key k).1 A B wr)) (fun _ i _ _ _ => 44 - (intOf i).toNat)
  case atStart => exact ⟨0, Nat.zero_le _, rfl, by rw [h20]; rfl, HI⟩
  case round =>
    rename World => wr
    obtain ⟨k, hk, rfl, rfl, hin⟩ := hrel
    clear HI h20
    by_cases hlt : k < 44
    · obtain ⟨ao, cap, hblk, hown, hor⟩ := unhide hin
      obtain ⟨ws, hws⟩ : ∃ ws, ws = (rw' 16 key k).1 := ⟨_, rfl⟩
      obtain ⟨mk, hmk⟩ : ∃ mk, mk = (rw' 16 key k).2 := ⟨_, rfl⟩
      have hwl : ws.length = 4 * k := by rw [hws]; exact rw_length 16 key (unhide HKL) (by decide) k
      rw [← hws] at hown
      rw [← hmk]
      have HWL := hide hwl
      have HWS := hide hws
      have HMK := hide hmk
      clear hwl hws hmk hin
      have hkI : (k : Int) < 44 := by omega
      have hk100 : k < 100 := by omega
      have HBLK := hide hblk
      have HOWN := hide hown
      have HOR := hide hor
      clear hblk hown hor
      go_upto_region 11 with fail
      obtain ⟨wa, b8, ea, eb8, a8, oa⟩ := fresh4 wr
      rw [zeros4_eq, ← ea, ← eb8]
      have A8 := hide a8
      have OA := hide oa
      have hb8 : wr.heap.size ≤ b8 := by omega
      have hor6 := (unhide HOR).size
      have hne8 : b8 ≠ cb := by omega
      clear ea eb8 a8 oa
      have OWA : Hid (Only (fun j => j = cb) w6 wa) := (unhide HOR).trans (unhide OA) (fun _ _ e => e.elim)
      by_cases hkn : k < 4
      · have hkn' : (k : Int) < 4 := by omega
        obtain ⟨p, hp⟩ : ∃ p, p = 4 * k := ⟨_, rfl⟩
        obtain ⟨q, hq⟩ : ∃ q, q = p + 4 := ⟨_, rfl⟩
        have M1 : Hid (IntKind.i64.wrap (4 * (k : Int)) = (p : Int)) := by show _ = _; rw [wrap_small _ (by omega) (by omega)]; omega
        have M2 : Hid (IntKind.i64.wrap ((p : Int) + 4) = (q : Int)) := by show _ = _; rw [wrap_small _ (by omega) (by omega)]; omega
        obtain ⟨N, hN⟩ : ∃ N, N = (key.drop p).take 4 := ⟨_, rfl⟩
        have hkl := unhide HKL
        have hNl : N.length = 4 := by rw [hN]; simp; omega
        have hsrc : ∀ j v, (N.map bv)[j]? = some v → wa.drew.cell? ((⟨kb, ko + p, none⟩ : Addr).add j) = some v := by
          intro j v hv
          have hj : j < 4 := by have := (List.getElem?_eq_some_iff.1 hv).1; simpa [hNl] using this
          rw [addr_add _ rfl]
          have h1 : wa.cell? ⟨kb, ko + (p + j), none⟩ = _ := (unhide OWA).cell (unhide HKC6 (p + j) (by omega)) (fun e => by have e' : kb = cb := e; have := unhide HKB; have := unhide HCW; omega)
          rw [hN, List.getElem?_map, List.getElem?_take, if_pos hj, List.getElem?_drop, List.getElem?_eq_getElem (by omega)] at hv
          simp only [Option.map_some, Option.some.injEq] at hv
          rw [← hv, show (⟨kb, ko + p + j, none⟩ : Addr) = ⟨kb, ko + (p + j), none⟩ by rw [Nat.add_assoc]]
          exact h1
        obtain ⟨wd, hcp, a9, o9⟩ := copy4 (x := wa.drew) (unhide A8) rfl hNl ⟨kb, ko + p, none⟩ (kcap - p) hsrc
        have hsub : q - p = 4 := by omega
        have hpq : p ≤ q := by omega
        have hqk : (q : Int) ≤ (kcap : Int) := by omega
        have hqk2 : q ≤ kcap := by omega
        have hnep : ¬ kcap = p := by omega
        have HND : Hid ((rw' 16 key (k + 1)).1 = ws ++ N) := by show _ = _; rw [rw_first 16 key hkl (by decide) k hkn, ← unhide HWS, hN, hp]
        have HMD : Hid ((rw' 16 key (k + 1)).2 = mk) := by show _ = _; rw [rw_first 16 key hkl (by decide) k hkn, ← unhide HMK]
        have HNL := hide hNl
        have A9 := hide a9
        have O9 : Hid (Only (fun j => j = b8) wa wd) := ((Only.refl (fun j => j = b8) wa).drew).trans o9 (fun _ _ e => e)
        clear hN hsrc hNl hp hq a9 o9 hkl
        go_wp2_with fail
        refine wp_region_held_drew (S := (fun _ => True)) (by kernel_rfl) (trivial) (fun hHeld => ?_)
        refine wpAnyH_take (i := 0) (v := ?v93) rfl (by kernel_rfl) (by kernel_rfl) (by kernel_rfl) (fun _ _ _ h => h) (Or.inl ⟨by rfl, ?hy93⟩) (by assumption) ?rest93
        case hy93 =>
          intro w hSw
          go_simp
          try with_reducible rfl
        try simp only [Act.put, List.setIfInBounds_toArray, List.set_cons_zero, List.set_cons_succ, List.getElem_toArray, List.getElem_cons_succ, List.getElem_cons_zero]
        refine wpAnyH_take (i := 1) (v := ?v94) rfl (by kernel_rfl) (by kernel_rfl) (by kernel_rfl) (fun _ _ _ h => h) (Or.inl ⟨by rfl, ?hy94⟩) (by assumption) ?rest94
        case hy94 =>
          intro w hSw
          go_simp
          try with_reducible rfl
        try simp only [Act.put, List.setIfInBounds_toArray, List.set_cons_zero, List.set_cons_succ, List.getElem_toArray, List.getElem_cons_succ, List.getElem_cons_zero]
        refine wpAnyH_take (i := 2) (v := ?v95) rfl (by kernel_rfl) (by kernel_rfl) (by kernel_rfl) (fun _ _ _ h => h) (Or.inl ⟨by rfl, ?hy95⟩) (by assumption) ?rest95
        case hy95 =>
          intro w hSw
          go_simp
          try with_reducible rfl
        try simp only [Act.put, List.setIfInBounds_toArray, List.set_cons_zero, List.set_cons_succ, List.getElem_toArray, List.getElem_cons_succ, List.getElem_cons_zero]
        refine wpAnyH_take (i := 3) (v := ?v96) rfl (by kernel_rfl) (by kernel_rfl) (by kernel_rfl) (fun _ _ _ h => h) (Or.inl ⟨by rfl, ?hy96⟩) (by assumption) ?rest96
        case hy96 =>
          intro w hSw
          (go_simp; rw [unhide M1]; try with_reducible rfl)
        try simp only [Act.put, List.setIfInBounds_toArray, List.set_cons_zero, List.set_cons_succ, List.getElem_toArray, List.getElem_cons_succ, List.getElem_cons_zero]
        refine wpAnyH_take (i := 4) (v := ?v97) rfl (by kernel_rfl) (by kernel_rfl) (by kernel_rfl) (fun _ _ _ h => h) (Or.inl ⟨by rfl, ?hy97⟩) (by assumption) ?rest97
        case hy97 =>
          intro w hSw
          go_simp
          try with_reducible rfl
        try simp only [Act.put, List.setIfInBounds_toArray, List.set_cons_zero, List.set_cons_succ, List.getElem_toArray, List.getElem_cons_succ, List.getElem_cons_zero]
        refine wpAnyH_take (i := 5) (v := ?v98) rfl (by kernel_rfl) (by kernel_rfl) (by kernel_rfl) (fun _ _ _ h => h) (Or.inl ⟨by rfl, ?hy98⟩) (by assumption) ?rest98
        case hy98 =>
          intro w hSw
          (go_simp; rw [unhide M1]; try with_reducible rfl)
        try simp only [Act.put, List.setIfInBounds_toArray, List.set_cons_zero, List.set_cons_succ, List.getElem_toArray, List.getElem_cons_succ, List.getElem_cons_zero]
        refine wpAnyH_take (i := 6) (v := ?v99) rfl (by kernel_rfl) (by kernel_rfl) (by kernel_rfl) (fun _ _ _ h => h) (Or.inl ⟨by rfl, ?hy99⟩) (by assumption) ?rest99
        case hy99 =>
          intro w hSw
          (go_simp; rw [unhide M2]; try with_reducible rfl)
        try simp only [Act.put, List.setIfInBounds_toArray, List.set_cons_zero, List.set_cons_succ, List.getElem_toArray, List.getElem_cons_succ, List.getElem_cons_zero]
        refine wpAnyH_take (i := 7) (v := ?v100) rfl (by kernel_rfl) (by kernel_rfl) (by kernel_rfl) (fun _ _ _ h => h) (Or.inl ⟨by rfl, ?hy100⟩) (by assumption) ?rest100
        case hy100 =>
          intro w hSw
          go_simp
          try with_reducible rfl
        try simp only [Act.put, List.setIfInBounds_toArray, List.set_cons_zero, List.set_cons_succ, List.getElem_toArray, List.getElem_cons_succ, List.getElem_cons_zero]
        refine wpAnyH_ready (rs := [8]) (by kernel_rfl) (by simp) ?_
        refine AllReadyH.cons rfl (fun K hK => ?_) AllReadyH.nil
        go_simp
        refine hK.out _ _ (trivial) (fun hHeld => ?_)
        clear hK K
        try simp only [Act.put, List.setIfInBounds_toArray, List.set_cons_zero, List.set_cons_succ, List.getElem_toArray, List.getElem_cons_succ, List.getElem_cons_zero]
        refine wpAnyH_done (by kernel_rfl) ?_ _
        clear hcp M1 M2 hsub hpq hqk hqk2 hnep
        obtain ⟨mk', hmk'⟩ : ∃ mk', mk' = mk := ⟨_, rfl⟩
        rw [← hmk'] at HMD
        have HMK' := hide hmk'
        clear hmk'
        have hgb : ∀ x, (Value.slice ao k cap).ownBlock = some x → w6.heap.size ≤ x ∧ x < wr.heap.size := (unhide HOWN).lt
        have OWD : Hid (Only (fun j => j = cb) w6 wd) := (unhide OWA).trans (unhide O9) (fun j hj e => by omega)
        have hblkd : wd.heap[cb]? = some (.cells ([Value.slice ao k cap] ++ (A.map bv ++ B.map bv)).toArray 83 (0, 0)) := (unhide O9).heap ((unhide OA).heap (unhide HBLK) (fun e => e)) (fun e => hne8 e.symm)
        have hownd : wd.drew.ownsRow w6.heap.size 86 4 (.slice ao k cap) k (ws.map bv) := (unhide O9).owns ((unhide OA).owns (unhide HOWN) (fun _ _ e => e)) (fun x hx e => by have := (hgb x hx).2; omega)
        have hc0d := rc_zero hblkd
        have hnc : ¬ ((Value.slice ao k cap).ownBlock = some cb) := fun e => by have := (hgb cb e).1; omega
        have hnb : ¬ ((Value.slice ao k cap).ownBlock = some b8) := fun e => by have := (hgb b8 e).2; omega
        have hwd6 := (unhide OWD).size
        obtain ⟨g2, cap2, w3, hrun, own3, op3⟩ := push4 wd.drew w6.heap.size (.slice ao k cap) k ws N (unhide HNL) hownd (by omega) hwd6
        have hblk3 : w3.heap[cb]? = some (.cells ([Value.slice ao k cap] ++ (A.map bv ++ B.map bv)).toArray 83 (0, 0)) := op3.heap hblkd hnc
        have hc3 := rc_zero hblk3
        have hf3 : w3.frozen? ⟨cb, 0, none⟩ = false := by simp [World.frozen?, hblk3]
        have HRUN := hide hrun
        have HB3 : Hid ((w3.setCell ⟨cb, 0, none⟩ (.slice (some ⟨g2, 0, none⟩) (k + 1) cap2)).heap[cb]? = some (.cells ([Value.slice (some ⟨g2, 0, none⟩) (k + 1) cap2] ++ (A.map bv ++ B.map bv)).toArray 83 (0, 0))) := by
          have h := two_setCell (i := 0) (u := Value.slice (some ⟨g2, 0, none⟩) (k + 1) cap2) hblk3
          show _ = _
          rw [h]
          simp
        have OW3 : Hid (Only (fun j => j = cb) w6 w3) := ((unhide OWD).drew).trans op3 (fun j hj e => by have := (hgb j e).1; omega)
        have HOW3 : Hid ((w3.setCell ⟨cb, 0, none⟩ (.slice (some ⟨g2, 0, none⟩) (k + 1) cap2)).ownsRow w6.heap.size 86 4 (.slice (some ⟨g2, 0, none⟩) (k + 1) cap2) (k + 1) ((rw' 16 key (k + 1)).1.map bv)) := by
          rw [unhide HND]
          exact ((Only.refl (fun j => j = cb) w3).here 0 _).owns own3 (fun x hx e => by have := (own3.lt x hx).1; omega)
        have HO3 : Hid (Only (fun j => j = cb) w6 (w3.setCell ⟨cb, 0, none⟩ (.slice (some ⟨g2, 0, none⟩) (k + 1) cap2))) := (unhide OW3).here 0 _
        have HC0D := hide hc0d
        have OP3 : Hid (Only (fun j => (Value.slice ao k cap).ownBlock = some j) wd w3) := ((Only.refl (fun j => (Value.slice ao k cap).ownBlock = some j) wd).drew).trans op3 (fun _ _ e => e)
        clear hrun own3 op3 hblkd hblk3 hownd hc0d hwd6
        go_wp2_with fail
        refine wp_region_last_drew (S := (fun w' => Only (fun j => (Value.slice ao k cap).ownBlock = some j) wd w')) 10 (by kernel_rfl) ((Only.refl _ _).drew) (fun hHeld => ?_)
        refine wpAnyL_take (i := 0) (v := ?v101) rfl (by kernel_rfl) (by kernel_rfl) (by kernel_rfl) (by kernel_rfl) (fun _ _ _ h => h) (Or.inl ⟨by rfl, ?hy101⟩) (by assumption) ?rest101
        case hy101 =>
          intro w hSw
          go_simp
          try with_reducible rfl
        try simp only [Act.put, List.setIfInBounds_toArray, List.set_cons_zero, List.set_cons_succ, List.getElem_toArray, List.getElem_cons_succ, List.getElem_cons_zero]
        refine wpAnyL_take (i := 1) (v := ?v102) rfl (by kernel_rfl) (by kernel_rfl) (by kernel_rfl) (by kernel_rfl) (fun _ _ _ h => h) (Or.inl ⟨by rfl, ?hy102⟩) (by assumption) ?rest102
        case hy102 =>
          intro w hSw
          go_simp
          try with_reducible rfl
        try simp only [Act.put, List.setIfInBounds_toArray, List.set_cons_zero, List.set_cons_succ, List.getElem_toArray, List.getElem_cons_succ, List.getElem_cons_zero]
        refine wpAnyL_take (i := 2) (v := ?v103) rfl (by kernel_rfl) (by kernel_rfl) (by kernel_rfl) (by kernel_rfl) (fun _ _ _ h => h) (Or.inl ⟨by rfl, ?hy103⟩) (by assumption) ?rest103
        case hy103 =>
          intro w hSw
          go_simp
          try with_reducible rfl
        try simp only [Act.put, List.setIfInBounds_toArray, List.set_cons_zero, List.set_cons_succ, List.getElem_toArray, List.getElem_cons_succ, List.getElem_cons_zero]
        refine wpAnyL_take (i := 3) (v := ?v104) rfl (by kernel_rfl) (by kernel_rfl) (by kernel_rfl) (by kernel_rfl) (fun _ _ _ h => h) (Or.inl ⟨by rfl, ?hy104⟩) (by assumption) ?rest104
        case hy104 =>
          intro w hSw
          go_simp
          try with_reducible rfl
        try simp only [Act.put, List.setIfInBounds_toArray, List.set_cons_zero, List.set_cons_succ, List.getElem_toArray, List.getElem_cons_succ, List.getElem_cons_zero]
        refine wpAnyL_take (i := 4) (v := ?v105) rfl (by kernel_rfl) (by kernel_rfl) (by kernel_rfl) (by kernel_rfl) (fun _ _ _ h => h) (Or.inl ⟨by rfl, ?hy105⟩) (by assumption) ?rest105
        case hy105 =>
          intro w hSw
          (have q := hSw.cell (unhide HC0D) hnc; go_simp; try with_reducible rfl)
        try simp only [Act.put, List.setIfInBounds_toArray, List.set_cons_zero, List.set_cons_succ, List.getElem_toArray, List.getElem_cons_succ, List.getElem_cons_zero]
        refine wpAnyL_take (i := 5) (v := ?v106) rfl (by kernel_rfl) (by kernel_rfl) (by kernel_rfl) (by kernel_rfl) (fun _ _ _ h => h) (Or.inl ⟨by rfl, ?hy106⟩) (by assumption) ?rest106
        case hy106 =>
          intro w hSw
          (refine exec_load_mid 86 (.tmp 8) ?_ b8 0 ?_ (N.map bv) _ (range_only (unhide A9).range hSw hnb) Try.underW rfl (by rw [Try.sizeW]; simp [unhide HNL]) <;> rfl)
        try simp only [Act.put, List.setIfInBounds_toArray, List.set_cons_zero, List.set_cons_succ, List.getElem_toArray, List.getElem_cons_succ, List.getElem_cons_zero]
        refine wpAnyL_ready (rs := [6]) (by kernel_rfl) (by simp) ?_
        refine AllReadyL.cons rfl (fun K hK => ?_) AllReadyL.nil
        refine step_rowW rfl (.tmp 165) rfl N (unhide HNL) rfl ?_
        refine hK.out _ _ ((((Only.refl _ wd).drew).alloc _)) (fun hHeld => ?_)
        clear hK K
        try simp only [Act.put, List.setIfInBounds_toArray, List.set_cons_zero, List.set_cons_succ, List.getElem_toArray, List.getElem_cons_succ, List.getElem_cons_zero]
        refine wpAnyL_ready (rs := [7]) (by kernel_rfl) (by simp) ?_
        refine AllReadyL.cons rfl (fun K hK => ?_) AllReadyL.nil
        refine step_append_run' rfl (.tmp 164) (.tmp 166) 80 rfl _ _ _ _ rfl rfl (unhide HRUN) ?_
        refine hK.out _ _ ((unhide OP3)) (fun hHeld => ?_)
        clear hK K
        try simp only [Act.put, List.setIfInBounds_toArray, List.set_cons_zero, List.set_cons_succ, List.getElem_toArray, List.getElem_cons_succ, List.getElem_cons_zero]
        refine wpAnyL_ready (rs := [8]) (by kernel_rfl) (by simp) ?_
        refine AllReadyL.cons rfl (fun K hK => ?_) AllReadyL.nil
        go_simp
        refine hK.out _ _ ((unhide OP3)) (fun hHeld => ?_)
        clear hK K
        try simp only [Act.put, List.setIfInBounds_toArray, List.set_cons_zero, List.set_cons_succ, List.getElem_toArray, List.getElem_cons_succ, List.getElem_cons_zero]
        refine wpAnyL_take (i := 9) (v := ?v107) rfl (by kernel_rfl) (by kernel_rfl) (by kernel_rfl) (by kernel_rfl) (fun _ _ _ h => h) (Or.inl ⟨by rfl, ?hy107⟩) (by assumption) ?rest107
        case hy107 =>
          intro w hSw
          go_simp
          try with_reducible rfl
        try simp only [Act.put, List.setIfInBounds_toArray, List.set_cons_zero, List.set_cons_succ, List.getElem_toArray, List.getElem_cons_succ, List.getElem_cons_zero]
        refine wpAnyL_ready (rs := [10]) (by kernel_rfl) (by simp) ?_
        refine AllReadyL.last rfl (fun K hK => ?_)
        go_simp
        refine hK.out _ _ (trivial) (fun hHeld => ?_)
        clear hK K
        try simp only [Act.put, List.setIfInBounds_toArray, List.set_cons_zero, List.set_cons_succ, List.getElem_toArray, List.getElem_cons_succ, List.getElem_cons_zero]
        refine wpAnyL_done (by kernel_rfl) ?_ _
        go_wp2
        go_roundw
        case rel => exact ⟨k + 1, by omega, by go_num, by rw [unhide HMD, unhide HMK'], some ⟨g2, 0, none⟩, cap2, unhide HB3, unhide HOW3, unhide HO3⟩
        case measure => simp [intOf]; omega
      · have hkn' : ¬ (k : Int) < 4 := by omega
        obtain ⟨g, rfl⟩ : ∃ g, ao = some ⟨g, 0, none⟩ := by
          rcases (unhide HOWN).2 with ⟨e, h0⟩ | ⟨g, c2, cur, e, _⟩
          · simp at e; omega
          · simp only [Value.slice.injEq] at e
            exact ⟨g, e.1⟩
        have hgr := (unhide HOWN).lt g rfl
        have hg8 : g ≠ b8 := by omega
        have hc0 : wa.cell? ⟨cb, 0, none⟩ = some (.slice (some ⟨g, 0, none⟩) k cap) := (unhide OA).cell (rc_zero (unhide HBLK)) (fun e => e)
        obtain ⟨P, hP⟩ : ∃ P, P = prev ws := ⟨_, rfl⟩
        have hPl : P.length = 4 := by rw [hP]; rfl
        have hwl := unhide HWL
        have hPd : P = (ws.drop (4 * (k - 1))).take 4 := by
          rw [hP, prev_drop ws (by omega), hwl, show 4 * k - 4 = 4 * (k - 1) by omega, List.take_of_length_le (by simp; omega)]
        have hrg : wa.rangeAt g ((k - 1) * 4) (P.map bv) := by
          rw [hPd]
          exact range_only (word_rangeAt (unhide HOWN) hwl (k - 1) (by omega)) (unhide OA) (fun e => e)
        have hld := loadW4_run hrg hPl
        have hk1I : (k : Int) - 1 = ((k - 1 : Nat) : Int) := by omega
        have hk1b : ((k - 1 : Nat) : Int) < (k : Int) := by omega
        have HT := hide (there4 (unhide A8) rfl hPl)
        have HZ4 := hide (size4s hPl)
        have HPP := hide hP
        have HPL := hide hPl
        clear hP hPl hPd hrg hwl
        go_upto_region 14 with (refine wpList_store_mid rfl 86 (.tmp 8) (.tmp 64) rfl b8 0 (P.map bv).toArray rfl rfl (unhide HT) (unhide HZ4) (ag_one _) ?_)
        obtain ⟨wb, eb, ab, ob⟩ := restored4 wa b8 zero4 P (unhide A8) (by rw [unhide HPL]; rfl)
        first
          | rw [← eb]
          | (simp only [List.toList_toArray]; rw [← eb])
        have AB := hide ab
        have OB := hide ob
        have HCB := hide (ob.cell hc0 (fun e => hne8 e.symm))
        clear eb ab ob hld hc0 HT HZ4 hk1I hk1b
        obtain ⟨d, hd⟩ : ∃ d, d = k % 4 := ⟨_, rfl⟩
        have hr1 : (k : Int).tmod 4 = (d : Int) := by rw [Int.tmod_eq_emod_of_nonneg (by omega)]; omega
        have hr2 : (k : Int) % 4 = (d : Int) := by omega
        have HND0 : Hid (rw' 16 key (k + 1) = (ws ++ next 16 ws (word 16 ws mk) 4, if ws.length % 16 = 0 then mul mk 2 else mk)) := by
          show _ = _
          rw [rw_then 16 key k hkn]
          unfold stepK
          rw [← unhide HWS, ← unhide HMK]
        have hwd0 : ws.length % 16 = 0 ↔ d = 0 := by have := unhide HWL; omega
        have hwd4 : ws.length % 16 = 16 ↔ d = 4 := by have := unhide HWL; omega
        obtain ⟨P0, P1, P2, P3, hP4⟩ : ∃ P0 P1 P2 P3, P = [P0, P1, P2, P3] := by
          have h := unhide HPL
          match P, h with
          | [x0, x1, x2, x3], _ => exact ⟨_, _, _, _, rfl⟩
        subst hP4
        have hW : word 16 ws mk = if d = 0 then [box P1 ^^^ mk, box P2, box P3, box P0] else if 16 = 32 ∧ d = 4 then [box P0, box P1, box P2, box P3] else [P0, P1, P2, P3] := by
          have h := unhide HPP
          unfold prev at h
          simp only [List.cons.injEq, and_true] at h
          obtain ⟨h0, h1, h2, h3⟩ := h
          unfold word
          rw [← h0, ← h1, ← h2, ← h3]
          by_cases e0 : d = 0
          · rw [if_pos e0, if_pos (hwd0.2 e0)]
          · rw [if_neg e0, if_neg (fun e => e0 (hwd0.1 e))]
            by_cases e4 : d = 4
            · rw [if_neg (show ¬ (16 = 32 ∧ ws.length % 16 = 16) from fun e => absurd e.1 (by decide)), if_neg (show ¬ (16 = 32 ∧ d = 4) from fun e => absurd e.1 (by decide))]
            · rw [if_neg (fun e => e4 (hwd4.1 e.2)), if_neg (fun e => e4 e.2)]
        have E0 : Hid (wb.cell? ⟨b8, 0, none⟩ = some (.int .u8 (P0.toNat : Int))) := (unhide AB).cell 0 P0 rfl
        have E1 : Hid (wb.cell? ⟨b8, 1, none⟩ = some (.int .u8 (P1.toNat : Int))) := (unhide AB).cell 1 P1 rfl
        have E2 : Hid (wb.cell? ⟨b8, 2, none⟩ = some (.int .u8 (P2.toNat : Int))) := (unhide AB).cell 2 P2 rfl
        have E3 : Hid (wb.cell? ⟨b8, 3, none⟩ = some (.int .u8 (P3.toNat : Int))) := (unhide AB).cell 3 P3 rfl
        have hblkb : wb.heap[cb]? = some (.cells ([Value.slice (some ⟨g, 0, none⟩) k cap] ++ (A.map bv ++ B.map bv)).toArray 83 (0, 0)) := (unhide OB).heap ((unhide OA).heap (unhide HBLK) (fun e => e)) (fun e => hne8 e.symm)
        have hta : ∀ x : UInt8, A[x.toNat]? = some (box x) := fun x => by rw [(unhide HAB).1]; exact tbox_all x
        have T0 := hide (rc_there hblkb P0.toNat (box P0) (hta P0))
        have T1 := hide (rc_there hblkb P1.toNat (box P1) (hta P1))
        have T2 := hide (rc_there hblkb P2.toNat (box P2) (hta P2))
        have T3 := hide (rc_there hblkb P3.toNat (box P3) (hta P3))
        have hxb := xor_bv (box P1) mk
        have HWW := hide hW
        clear hW hblkb hta hwd4
        have l0 : (P0.toNat : Int) < 256 := by have := P0.toNat_lt; omega
        have l1 : (P1.toNat : Int) < 256 := by have := P1.toNat_lt; omega
        have l2 : (P2.toNat : Int) < 256 := by have := P2.toNat_lt; omega
        have l3 : (P3.toNat : Int) < 256 := by have := P3.toNat_lt; omega
        have HN1 : Hid ((rw' 16 key (k + 1)).1 = ws ++ next 16 ws (word 16 ws mk) 4) := by show _ = _; rw [unhide HND0]
        have HN2 : Hid ((rw' 16 key (k + 1)).2 = if d = 0 then mul mk 2 else mk) := by show _ = _; rw [unhide HND0]; simp only [hwd0]
        clear HND0 hwd0
        by_cases hd0 : d = 0
        · rw [if_pos hd0] at HWW HN2
          have hdb : ((d : Int) == 0) = true := by simp; omega
          generalize hz : box P1 ^^^ mk = z at *
          generalize box P0 = y0 at *
          generalize box P1 = y1 at *
          generalize box P2 = y2 at *
          generalize box P3 = y3 at *
          clear hz hd0 hd
          have HT := hide (there4 (unhide AB) rfl (show ([z, y2, y3, y0] : List UInt8).length = 4 from rfl))
          have HZ4 := hide (size4s (show ([z, y2, y3, y0] : List UInt8).length = 4 from rfl))
          go_wp2_with fail
          refine wp_region_last_drew (S := (fun w' => Only (fun _ => False) wb w')) 31 (by kernel_rfl) ((Only.refl _ _).drew) (fun hHeld => ?_)
          refine wpAnyL_take (i := 0) (v := ?v108) rfl (by kernel_rfl) (by kernel_rfl) (by kernel_rfl) (by kernel_rfl) (fun _ _ _ h => h) (Or.inl ⟨by rfl, ?hy108⟩) (by assumption) ?rest108
          case hy108 =>
            intro w hSw
            go_simp
            try with_reducible rfl
          try simp only [Act.put, List.setIfInBounds_toArray, List.set_cons_zero, List.set_cons_succ, List.getElem_toArray, List.getElem_cons_succ, List.getElem_cons_zero]
          refine wpAnyL_take (i := 1) (v := ?v109) rfl (by kernel_rfl) (by kernel_rfl) (by kernel_rfl) (by kernel_rfl) (fun _ _ _ h => h) (Or.inl ⟨by rfl, ?hy109⟩) (by assumption) ?rest109
          case hy109 =>
            intro w hSw
            go_simp
            try with_reducible rfl
          try simp only [Act.put, List.setIfInBounds_toArray, List.set_cons_zero, List.set_cons_succ, List.getElem_toArray, List.getElem_cons_succ, List.getElem_cons_zero]
          refine wpAnyL_take (i := 2) (v := ?v110) rfl (by kernel_rfl) (by kernel_rfl) (by kernel_rfl) (by kernel_rfl) (fun _ _ _ h => h) (Or.inl ⟨by rfl, ?hy110⟩) (by assumption) ?rest110
          case hy110 =>
            intro w hSw
            (have q := hSw.cell (unhide E1) (fun e => e); go_simp; try with_reducible rfl)
          try simp only [Act.put, List.setIfInBounds_toArray, List.set_cons_zero, List.set_cons_succ, List.getElem_toArray, List.getElem_cons_succ, List.getElem_cons_zero]
          refine wpAnyL_take (i := 3) (v := ?v111) rfl (by kernel_rfl) (by kernel_rfl) (by kernel_rfl) (by kernel_rfl) (fun _ _ _ h => h) (Or.inl ⟨by rfl, ?hy111⟩) (by assumption) ?rest111
          case hy111 =>
            intro w hSw
            go_simp
            try with_reducible rfl
          try simp only [Act.put, List.setIfInBounds_toArray, List.set_cons_zero, List.set_cons_succ, List.getElem_toArray, List.getElem_cons_succ, List.getElem_cons_zero]
          refine wpAnyL_take (i := 4) (v := ?v112) rfl (by kernel_rfl) (by kernel_rfl) (by kernel_rfl) (by kernel_rfl) (fun _ _ _ h => h) (Or.inl ⟨by rfl, ?hy112⟩) (by assumption) ?rest112
          case hy112 =>
            intro w hSw
            go_simp
            try with_reducible rfl
          try simp only [Act.put, List.setIfInBounds_toArray, List.set_cons_zero, List.set_cons_succ, List.getElem_toArray, List.getElem_cons_succ, List.getElem_cons_zero]
          refine wpAnyL_take (i := 5) (v := ?v113) rfl (by kernel_rfl) (by kernel_rfl) (by kernel_rfl) (by kernel_rfl) (fun _ _ _ h => h) (Or.inl ⟨by rfl, ?hy113⟩) (by assumption) ?rest113
          case hy113 =>
            intro w hSw
            go_simp
            try with_reducible rfl
          try simp only [Act.put, List.setIfInBounds_toArray, List.set_cons_zero, List.set_cons_succ, List.getElem_toArray, List.getElem_cons_succ, List.getElem_cons_zero]
          refine wpAnyL_take (i := 6) (v := ?v114) rfl (by kernel_rfl) (by kernel_rfl) (by kernel_rfl) (by kernel_rfl) (fun _ _ _ h => h) (Or.inl ⟨by rfl, ?hy114⟩) (by assumption) ?rest114
          case hy114 =>
            intro w hSw
            (have q := hSw.cell (unhide T1) (fun e => e); go_simp; try with_reducible rfl)
          try simp only [Act.put, List.setIfInBounds_toArray, List.set_cons_zero, List.set_cons_succ, List.getElem_toArray, List.getElem_cons_succ, List.getElem_cons_zero]
          refine wpAnyL_take (i := 7) (v := ?v115) rfl (by kernel_rfl) (by kernel_rfl) (by kernel_rfl) (by kernel_rfl) (fun _ _ _ h => h) (Or.inl ⟨by rfl, ?hy115⟩) (by assumption) ?rest115
          case hy115 =>
            intro w hSw
            go_simp
            try with_reducible rfl
          try simp only [Act.put, List.setIfInBounds_toArray, List.set_cons_zero, List.set_cons_succ, List.getElem_toArray, List.getElem_cons_succ, List.getElem_cons_zero]
          refine wpAnyL_take (i := 8) (v := ?v116) rfl (by kernel_rfl) (by kernel_rfl) (by kernel_rfl) (by kernel_rfl) (fun _ _ _ h => h) (Or.inl ⟨by rfl, ?hy116⟩) (by assumption) ?rest116
          case hy116 =>
            intro w hSw
            go_simp
            try with_reducible rfl
          try simp only [Act.put, List.setIfInBounds_toArray, List.set_cons_zero, List.set_cons_succ, List.getElem_toArray, List.getElem_cons_succ, List.getElem_cons_zero]
          refine wpAnyL_take (i := 9) (v := ?v117) rfl (by kernel_rfl) (by kernel_rfl) (by kernel_rfl) (by kernel_rfl) (fun _ _ _ h => h) (Or.inl ⟨by rfl, ?hy117⟩) (by assumption) ?rest117
          case hy117 =>
            intro w hSw
            go_simp
            try with_reducible rfl
          try simp only [Act.put, List.setIfInBounds_toArray, List.set_cons_zero, List.set_cons_succ, List.getElem_toArray, List.getElem_cons_succ, List.getElem_cons_zero]
          refine wpAnyL_take (i := 10) (v := ?v118) rfl (by kernel_rfl) (by kernel_rfl) (by kernel_rfl) (by kernel_rfl) (fun _ _ _ h => h) (Or.inl ⟨by rfl, ?hy118⟩) (by assumption) ?rest118
          case hy118 =>
            intro w hSw
            go_simp
            try with_reducible rfl
          try simp only [Act.put, List.setIfInBounds_toArray, List.set_cons_zero, List.set_cons_succ, List.getElem_toArray, List.getElem_cons_succ, List.getElem_cons_zero]
          refine wpAnyL_take (i := 11) (v := ?v119) rfl (by kernel_rfl) (by kernel_rfl) (by kernel_rfl) (by kernel_rfl) (fun _ _ _ h => h) (Or.inl ⟨by rfl, ?hy119⟩) (by assumption) ?rest119
          case hy119 =>
            intro w hSw
            (have q := hSw.cell (unhide E2) (fun e => e); go_simp; try with_reducible rfl)
          try simp only [Act.put, List.setIfInBounds_toArray, List.set_cons_zero, List.set_cons_succ, List.getElem_toArray, List.getElem_cons_succ, List.getElem_cons_zero]
          refine wpAnyL_take (i := 12) (v := ?v120) rfl (by kernel_rfl) (by kernel_rfl) (by kernel_rfl) (by kernel_rfl) (fun _ _ _ h => h) (Or.inl ⟨by rfl, ?hy120⟩) (by assumption) ?rest120
          case hy120 =>
            intro w hSw
            go_simp
            try with_reducible rfl
          try simp only [Act.put, List.setIfInBounds_toArray, List.set_cons_zero, List.set_cons_succ, List.getElem_toArray, List.getElem_cons_succ, List.getElem_cons_zero]
          refine wpAnyL_take (i := 13) (v := ?v121) rfl (by kernel_rfl) (by kernel_rfl) (by kernel_rfl) (by kernel_rfl) (fun _ _ _ h => h) (Or.inl ⟨by rfl, ?hy121⟩) (by assumption) ?rest121
          case hy121 =>
            intro w hSw
            go_simp
            try with_reducible rfl
          try simp only [Act.put, List.setIfInBounds_toArray, List.set_cons_zero, List.set_cons_succ, List.getElem_toArray, List.getElem_cons_succ, List.getElem_cons_zero]
          refine wpAnyL_take (i := 14) (v := ?v122) rfl (by kernel_rfl) (by kernel_rfl) (by kernel_rfl) (by kernel_rfl) (fun _ _ _ h => h) (Or.inl ⟨by rfl, ?hy122⟩) (by assumption) ?rest122
          case hy122 =>
            intro w hSw
            go_simp
            try with_reducible rfl
          try simp only [Act.put, List.setIfInBounds_toArray, List.set_cons_zero, List.set_cons_succ, List.getElem_toArray, List.getElem_cons_succ, List.getElem_cons_zero]
          refine wpAnyL_take (i := 15) (v := ?v123) rfl (by kernel_rfl) (by kernel_rfl) (by kernel_rfl) (by kernel_rfl) (fun _ _ _ h => h) (Or.inl ⟨by rfl, ?hy123⟩) (by assumption) ?rest123
          case hy123 =>
            intro w hSw
            (have q := hSw.cell (unhide T2) (fun e => e); go_simp; try with_reducible rfl)
          try simp only [Act.put, List.setIfInBounds_toArray, List.set_cons_zero, List.set_cons_succ, List.getElem_toArray, List.getElem_cons_succ, List.getElem_cons_zero]
          refine wpAnyL_take (i := 16) (v := ?v124) rfl (by kernel_rfl) (by kernel_rfl) (by kernel_rfl) (by kernel_rfl) (fun _ _ _ h => h) (Or.inl ⟨by rfl, ?hy124⟩) (by assumption) ?rest124
          case hy124 =>
            intro w hSw
            go_simp
            try with_reducible rfl
          try simp only [Act.put, List.setIfInBounds_toArray, List.set_cons_zero, List.set_cons_succ, List.getElem_toArray, List.getElem_cons_succ, List.getElem_cons_zero]
          refine wpAnyL_take (i := 17) (v := ?v125) rfl (by kernel_rfl) (by kernel_rfl) (by kernel_rfl) (by kernel_rfl) (fun _ _ _ h => h) (Or.inl ⟨by rfl, ?hy125⟩) (by assumption) ?rest125
          case hy125 =>
            intro w hSw
            go_simp
            try with_reducible rfl
          try simp only [Act.put, List.setIfInBounds_toArray, List.set_cons_zero, List.set_cons_succ, List.getElem_toArray, List.getElem_cons_succ, List.getElem_cons_zero]
          refine wpAnyL_take (i := 18) (v := ?v126) rfl (by kernel_rfl) (by kernel_rfl) (by kernel_rfl) (by kernel_rfl) (fun _ _ _ h => h) (Or.inl ⟨by rfl, ?hy126⟩) (by assumption) ?rest126
          case hy126 =>
            intro w hSw
            (have q := hSw.cell (unhide E3) (fun e => e); go_simp; try with_reducible rfl)
          try simp only [Act.put, List.setIfInBounds_toArray, List.set_cons_zero, List.set_cons_succ, List.getElem_toArray, List.getElem_cons_succ, List.getElem_cons_zero]
          refine wpAnyL_take (i := 19) (v := ?v127) rfl (by kernel_rfl) (by kernel_rfl) (by kernel_rfl) (by kernel_rfl) (fun _ _ _ h => h) (Or.inl ⟨by rfl, ?hy127⟩) (by assumption) ?rest127
          case hy127 =>
            intro w hSw
            go_simp
            try with_reducible rfl
          try simp only [Act.put, List.setIfInBounds_toArray, List.set_cons_zero, List.set_cons_succ, List.getElem_toArray, List.getElem_cons_succ, List.getElem_cons_zero]
          refine wpAnyL_take (i := 20) (v := ?v128) rfl (by kernel_rfl) (by kernel_rfl) (by kernel_rfl) (by kernel_rfl) (fun _ _ _ h => h) (Or.inl ⟨by rfl, ?hy128⟩) (by assumption) ?rest128
          case hy128 =>
            intro w hSw
            go_simp
            try with_reducible rfl
          try simp only [Act.put, List.setIfInBounds_toArray, List.set_cons_zero, List.set_cons_succ, List.getElem_toArray, List.getElem_cons_succ, List.getElem_cons_zero]
          refine wpAnyL_take (i := 21) (v := ?v129) rfl (by kernel_rfl) (by kernel_rfl) (by kernel_rfl) (by kernel_rfl) (fun _ _ _ h => h) (Or.inl ⟨by rfl, ?hy129⟩) (by assumption) ?rest129
          case hy129 =>
            intro w hSw
            go_simp
            try with_reducible rfl
          try simp only [Act.put, List.setIfInBounds_toArray, List.set_cons_zero, List.set_cons_succ, List.getElem_toArray, List.getElem_cons_succ, List.getElem_cons_zero]
          refine wpAnyL_take (i := 22) (v := ?v130) rfl (by kernel_rfl) (by kernel_rfl) (by kernel_rfl) (by kernel_rfl) (fun _ _ _ h => h) (Or.inl ⟨by rfl, ?hy130⟩) (by assumption) ?rest130
          case hy130 =>
            intro w hSw
            (have q := hSw.cell (unhide T3) (fun e => e); go_simp; try with_reducible rfl)
          try simp only [Act.put, List.setIfInBounds_toArray, List.set_cons_zero, List.set_cons_succ, List.getElem_toArray, List.getElem_cons_succ, List.getElem_cons_zero]
          refine wpAnyL_take (i := 23) (v := ?v131) rfl (by kernel_rfl) (by kernel_rfl) (by kernel_rfl) (by kernel_rfl) (fun _ _ _ h => h) (Or.inl ⟨by rfl, ?hy131⟩) (by assumption) ?rest131
          case hy131 =>
            intro w hSw
            go_simp
            try with_reducible rfl
          try simp only [Act.put, List.setIfInBounds_toArray, List.set_cons_zero, List.set_cons_succ, List.getElem_toArray, List.getElem_cons_succ, List.getElem_cons_zero]
          refine wpAnyL_take (i := 24) (v := ?v132) rfl (by kernel_rfl) (by kernel_rfl) (by kernel_rfl) (by kernel_rfl) (fun _ _ _ h => h) (Or.inl ⟨by rfl, ?hy132⟩) (by assumption) ?rest132
          case hy132 =>
            intro w hSw
            go_simp
            try with_reducible rfl
          try simp only [Act.put, List.setIfInBounds_toArray, List.set_cons_zero, List.set_cons_succ, List.getElem_toArray, List.getElem_cons_succ, List.getElem_cons_zero]
          refine wpAnyL_take (i := 25) (v := ?v133) rfl (by kernel_rfl) (by kernel_rfl) (by kernel_rfl) (by kernel_rfl) (fun _ _ _ h => h) (Or.inl ⟨by rfl, ?hy133⟩) (by assumption) ?rest133
          case hy133 =>
            intro w hSw
            (have q := hSw.cell (unhide E0) (fun e => e); go_simp; try with_reducible rfl)
          try simp only [Act.put, List.setIfInBounds_toArray, List.set_cons_zero, List.set_cons_succ, List.getElem_toArray, List.getElem_cons_succ, List.getElem_cons_zero]
          refine wpAnyL_take (i := 26) (v := ?v134) rfl (by kernel_rfl) (by kernel_rfl) (by kernel_rfl) (by kernel_rfl) (fun _ _ _ h => h) (Or.inl ⟨by rfl, ?hy134⟩) (by assumption) ?rest134
          case hy134 =>
            intro w hSw
            go_simp
            try with_reducible rfl
          try simp only [Act.put, List.setIfInBounds_toArray, List.set_cons_zero, List.set_cons_succ, List.getElem_toArray, List.getElem_cons_succ, List.getElem_cons_zero]
          refine wpAnyL_take (i := 27) (v := ?v135) rfl (by kernel_rfl) (by kernel_rfl) (by kernel_rfl) (by kernel_rfl) (fun _ _ _ h => h) (Or.inl ⟨by rfl, ?hy135⟩) (by assumption) ?rest135
          case hy135 =>
            intro w hSw
            go_simp
            try with_reducible rfl
          try simp only [Act.put, List.setIfInBounds_toArray, List.set_cons_zero, List.set_cons_succ, List.getElem_toArray, List.getElem_cons_succ, List.getElem_cons_zero]
          refine wpAnyL_take (i := 28) (v := ?v136) rfl (by kernel_rfl) (by kernel_rfl) (by kernel_rfl) (by kernel_rfl) (fun _ _ _ h => h) (Or.inl ⟨by rfl, ?hy136⟩) (by assumption) ?rest136
          case hy136 =>
            intro w hSw
            go_simp
            try with_reducible rfl
          try simp only [Act.put, List.setIfInBounds_toArray, List.set_cons_zero, List.set_cons_succ, List.getElem_toArray, List.getElem_cons_succ, List.getElem_cons_zero]
          refine wpAnyL_take (i := 29) (v := ?v137) rfl (by kernel_rfl) (by kernel_rfl) (by kernel_rfl) (by kernel_rfl) (fun _ _ _ h => h) (Or.inl ⟨by rfl, ?hy137⟩) (by assumption) ?rest137
          case hy137 =>
            intro w hSw
            (have q := hSw.cell (unhide T0) (fun e => e); go_simp; try with_reducible rfl)
          try simp only [Act.put, List.setIfInBounds_toArray, List.set_cons_zero, List.set_cons_succ, List.getElem_toArray, List.getElem_cons_succ, List.getElem_cons_zero]
          refine wpAnyL_take (i := 30) (v := ?v138) rfl (by kernel_rfl) (by kernel_rfl) (by kernel_rfl) (by kernel_rfl) (fun _ _ _ h => h) (Or.inl ⟨by rfl, ?hy138⟩) (by assumption) ?rest138
          case hy138 =>
            intro w hSw
            go_simp
            try with_reducible rfl
          try simp only [Act.put, List.setIfInBounds_toArray, List.set_cons_zero, List.set_cons_succ, List.getElem_toArray, List.getElem_cons_succ, List.getElem_cons_zero]
          refine wpAnyL_ready (rs := [31]) (by kernel_rfl) (by simp) ?_
          refine AllReadyL.last rfl (fun K hK => ?_)
          refine step_store_mid rfl 86 (.tmp 8) (.tmp 99) rfl b8 0 (([z, y2, y3, y0] : List UInt8).map bv).toArray rfl rfl (unhide HT) (unhide HZ4) (ag_one _) ?_
          refine hK.out _ _ (trivial) (fun hHeld => ?_)
          clear hK K
          try simp only [Act.put, List.setIfInBounds_toArray, List.set_cons_zero, List.set_cons_succ, List.getElem_toArray, List.getElem_cons_succ, List.getElem_cons_zero]
          refine wpAnyL_done (by kernel_rfl) ?_ _
          obtain ⟨wc, ec, ac, oc⟩ := restored4 wb.drew b8 [P0, P1, P2, P3] [z, y2, y3, y0] (unhide AB) rfl
          first
            | rw [← ec]
            | (simp only [List.toList_toArray]; rw [← ec])
          have AC := hide ac
          have OC : Hid (Only (fun j => j = b8) wb wc) := ((Only.refl (fun j => j = b8) wb).drew).trans oc (fun _ _ e => e)
          obtain ⟨Wd, hWd⟩ : ∃ Wd : List UInt8, Wd = [z, y2, y3, y0] := ⟨_, rfl⟩
          rw [unhide HWW] at HN1
          rw [← hWd] at AC HN1
          have hWl : Wd.length = 4 := by rw [hWd]; rfl
          have HWL4 := hide hWl
          clear ec ac oc hWd hWl HT HZ4 E0 E1 E2 E3 T0 T1 T2 T3 AB HWW hxb
          have HRT : Hid (∀ W, Calls Try.prog 49 #[.int .u8 (mk.toNat : Int), .int .u8 2] W fun e w' => e = .returned (.int .u8 ((mul mk 2).toNat : Int)) ∧ w' = W) := fun W => rtimes_any mk 2 W
          generalize mul mk 2 = mk2 at *
          go_wp2_with fail
          refine (unhide HRT _).mono ?_
          rintro e wt ⟨rfl, hwt⟩
          rw [hwt]
          clear hwt wt HRT
          have HMD : Hid ((rw' 16 key (k + 1)).2 = mk2) := HN2
          obtain ⟨NX, hNX⟩ : ∃ NX, NX = next 16 ws Wd 4 := ⟨_, rfl⟩
          have hNl : NX.length = 4 := by rw [hNX]; exact next_length _ _ _ _
          have hNat : ∀ j, j < 4 → NX[j]? = some (gt Wd j ^^^ gt ws (4 * (k - 4) + j)) := fun j hj => by
            rw [hNX, next_at 16 ws Wd j hj, unhide HWL, UInt8.xor_comm, show 4 * k - 16 + j = 4 * (k - 4) + j by omega]
          have HNA := hide hNat
          have HND : Hid ((rw' 16 key (k + 1)).1 = ws ++ NX) := by rw [hNX]; exact HN1
          have HNL := hide hNl
          have OBC : Hid (Only (fun j => j = b8) wa wc) := (unhide OB).trans (unhide OC) (fun _ _ e => e)
          have HCC := hide ((unhide OC).cell (unhide HCB) (fun e => hne8 e.symm))
          clear hNX hNl hNat HN1 HCB
          go_wp2
          go_loopw [9] (fun i wq => ∃ j : Nat, j ≤ 4 ∧ i = .int .i64 j ∧ Hid (Arr wq b8 86 (mixd NX Wd j)) ∧ Hid (Only (fun x => x = b8) wc wq)) (fun i _ => 4 - (intOf i).toNat)
          case atStart => exact ⟨0, Nat.zero_le _, rfl, by rw [mixd_zero]; exact AC, Only.refl _ _⟩
          case round =>
            rename World => wq
            obtain ⟨j, hj, rfl, hat, hot⟩ := hrel
            by_cases hjt : j < 4
            · have hm0 := mixd_at NX Wd 4 j (unhide HNL) (unhide HWL4) hjt
              rw [gt_some Wd j (by have := unhide HWL4; omega)] at hm0
              have HCA := hide ((unhide hat).cell j _ hm0)
              have hf8 := (unhide hat).free j
              have hw2 := (unhide hat).set j (gt Wd j ^^^ gt ws (4 * (k - 4) + j))
              rw [mixd_set _ _ 4 j (unhide HNL) (unhide HWL4) hjt _ (unhide HNA j hjt)] at hw2
              have HWn := hide hw2
              have HOn := hide ((unhide hot).here j (.int .u8 ((gt Wd j ^^^ gt ws (4 * (k - 4) + j)).toNat : Int)))
              have hx := xor_bv (gt Wd j) (gt ws (4 * (k - 4) + j))
              have HC0 := hide ((unhide hot).cell (unhide HCC) (fun e => hne8 e.symm))
              have hgc : wq.cell? ⟨g, (k - 4) * 4 + j, none⟩ = some (.int .u8 ((gt ws (4 * (k - 4) + j)).toNat : Int)) := (unhide hot).cell ((unhide OBC).cell ((unhide OA).cell (word_cell (unhide HOWN) (unhide HWL) (k - 4) j (by omega) hjt) (fun e => e)) hg8) hg8
              have HGC := hide hgc
              obtain ⟨kn, hkn2⟩ : ∃ kn, kn = k - 4 := ⟨_, rfl⟩
              have M5 : Hid (IntKind.i64.wrap ((k : Int) - 4) = (kn : Int)) := by show _ = _; rw [wrap_small _ (by omega) (by omega)]; omega
              have hknk : (kn : Int) < (k : Int) := by omega
              rw [← hkn2] at HGC HWn HOn hx
              clear hm0 hat hot hw2 hgc hkn2
              generalize gt Wd j ^^^ gt ws (4 * kn + j) = z' at *
              generalize gt Wd j = x' at *
              generalize gt ws (4 * kn + j) = y' at *
              have hj4 : (j : Int) < 4 := by omega
              go_wp2_with fail
              refine wp_region_last_drew (S := (fun w' => Only (fun _ => False) wq w')) 17 (by kernel_rfl) ((Only.refl _ _).drew) (fun hHeld => ?_)
              refine wpAnyL_take (i := 0) (v := ?v139) rfl (by kernel_rfl) (by kernel_rfl) (by kernel_rfl) (by kernel_rfl) (fun _ _ _ h => h) (Or.inl ⟨by rfl, ?hy139⟩) (by assumption) ?rest139
              case hy139 =>
                intro w hSw
                go_simp
                try with_reducible rfl
              try simp only [Act.put, List.setIfInBounds_toArray, List.set_cons_zero, List.set_cons_succ, List.getElem_toArray, List.getElem_cons_succ, List.getElem_cons_zero]
              refine wpAnyL_take (i := 1) (v := ?v140) rfl (by kernel_rfl) (by kernel_rfl) (by kernel_rfl) (by kernel_rfl) (fun _ _ _ h => h) (Or.inl ⟨by rfl, ?hy140⟩) (by assumption) ?rest140
              case hy140 =>
                intro w hSw
                go_simp
                try with_reducible rfl
              try simp only [Act.put, List.setIfInBounds_toArray, List.set_cons_zero, List.set_cons_succ, List.getElem_toArray, List.getElem_cons_succ, List.getElem_cons_zero]
              refine wpAnyL_take (i := 2) (v := ?v141) rfl (by kernel_rfl) (by kernel_rfl) (by kernel_rfl) (by kernel_rfl) (fun _ _ _ h => h) (Or.inl ⟨by rfl, ?hy141⟩) (by assumption) ?rest141
              case hy141 =>
                intro w hSw
                go_simp
                try with_reducible rfl
              try simp only [Act.put, List.setIfInBounds_toArray, List.set_cons_zero, List.set_cons_succ, List.getElem_toArray, List.getElem_cons_succ, List.getElem_cons_zero]
              refine wpAnyL_take (i := 3) (v := ?v142) rfl (by kernel_rfl) (by kernel_rfl) (by kernel_rfl) (by kernel_rfl) (fun _ _ _ h => h) (Or.inl ⟨by rfl, ?hy142⟩) (by assumption) ?rest142
              case hy142 =>
                intro w hSw
                (have q := hSw.cell (unhide HCA) (fun e => e); go_simp; try with_reducible rfl)
              try simp only [Act.put, List.setIfInBounds_toArray, List.set_cons_zero, List.set_cons_succ, List.getElem_toArray, List.getElem_cons_succ, List.getElem_cons_zero]
              refine wpAnyL_take (i := 4) (v := ?v143) rfl (by kernel_rfl) (by kernel_rfl) (by kernel_rfl) (by kernel_rfl) (fun _ _ _ h => h) (Or.inl ⟨by rfl, ?hy143⟩) (by assumption) ?rest143
              case hy143 =>
                intro w hSw
                go_simp
                try with_reducible rfl
              try simp only [Act.put, List.setIfInBounds_toArray, List.set_cons_zero, List.set_cons_succ, List.getElem_toArray, List.getElem_cons_succ, List.getElem_cons_zero]
              refine wpAnyL_take (i := 5) (v := ?v144) rfl (by kernel_rfl) (by kernel_rfl) (by kernel_rfl) (by kernel_rfl) (fun _ _ _ h => h) (Or.inl ⟨by rfl, ?hy144⟩) (by assumption) ?rest144
              case hy144 =>
                intro w hSw
                go_simp
                try with_reducible rfl
              try simp only [Act.put, List.setIfInBounds_toArray, List.set_cons_zero, List.set_cons_succ, List.getElem_toArray, List.getElem_cons_succ, List.getElem_cons_zero]
              refine wpAnyL_take (i := 6) (v := ?v145) rfl (by kernel_rfl) (by kernel_rfl) (by kernel_rfl) (by kernel_rfl) (fun _ _ _ h => h) (Or.inl ⟨by rfl, ?hy145⟩) (by assumption) ?rest145
              case hy145 =>
                intro w hSw
                go_simp
                try with_reducible rfl
              try simp only [Act.put, List.setIfInBounds_toArray, List.set_cons_zero, List.set_cons_succ, List.getElem_toArray, List.getElem_cons_succ, List.getElem_cons_zero]
              refine wpAnyL_take (i := 7) (v := ?v146) rfl (by kernel_rfl) (by kernel_rfl) (by kernel_rfl) (by kernel_rfl) (fun _ _ _ h => h) (Or.inl ⟨by rfl, ?hy146⟩) (by assumption) ?rest146
              case hy146 =>
                intro w hSw
                (have q := hSw.cell (unhide HC0) (fun e => e); go_simp; try with_reducible rfl)
              try simp only [Act.put, List.setIfInBounds_toArray, List.set_cons_zero, List.set_cons_succ, List.getElem_toArray, List.getElem_cons_succ, List.getElem_cons_zero]
              refine wpAnyL_take (i := 8) (v := ?v147) rfl (by kernel_rfl) (by kernel_rfl) (by kernel_rfl) (by kernel_rfl) (fun _ _ _ h => h) (Or.inl ⟨by rfl, ?hy147⟩) (by assumption) ?rest147
              case hy147 =>
                intro w hSw
                go_simp
                try with_reducible rfl
              try simp only [Act.put, List.setIfInBounds_toArray, List.set_cons_zero, List.set_cons_succ, List.getElem_toArray, List.getElem_cons_succ, List.getElem_cons_zero]
              refine wpAnyL_take (i := 9) (v := ?v148) rfl (by kernel_rfl) (by kernel_rfl) (by kernel_rfl) (by kernel_rfl) (fun _ _ _ h => h) (Or.inl ⟨by rfl, ?hy148⟩) (by assumption) ?rest148
              case hy148 =>
                intro w hSw
                go_simp
                try with_reducible rfl
              try simp only [Act.put, List.setIfInBounds_toArray, List.set_cons_zero, List.set_cons_succ, List.getElem_toArray, List.getElem_cons_succ, List.getElem_cons_zero]
              refine wpAnyL_take (i := 10) (v := ?v149) rfl (by kernel_rfl) (by kernel_rfl) (by kernel_rfl) (by kernel_rfl) (fun _ _ _ h => h) (Or.inl ⟨by rfl, ?hy149⟩) (by assumption) ?rest149
              case hy149 =>
                intro w hSw
                (go_simp; rw [unhide M5]; try with_reducible rfl)
              try simp only [Act.put, List.setIfInBounds_toArray, List.set_cons_zero, List.set_cons_succ, List.getElem_toArray, List.getElem_cons_succ, List.getElem_cons_zero]
              refine wpAnyL_take (i := 11) (v := ?v150) rfl (by kernel_rfl) (by kernel_rfl) (by kernel_rfl) (by kernel_rfl) (fun _ _ _ h => h) (Or.inl ⟨by rfl, ?hy150⟩) (by assumption) ?rest150
              case hy150 =>
                intro w hSw
                go_simp
                try with_reducible rfl
              try simp only [Act.put, List.setIfInBounds_toArray, List.set_cons_zero, List.set_cons_succ, List.getElem_toArray, List.getElem_cons_succ, List.getElem_cons_zero]
              refine wpAnyL_take (i := 12) (v := ?v151) rfl (by kernel_rfl) (by kernel_rfl) (by kernel_rfl) (by kernel_rfl) (fun _ _ _ h => h) (Or.inl ⟨by rfl, ?hy151⟩) (by assumption) ?rest151
              case hy151 =>
                intro w hSw
                go_simp
                try with_reducible rfl
              try simp only [Act.put, List.setIfInBounds_toArray, List.set_cons_zero, List.set_cons_succ, List.getElem_toArray, List.getElem_cons_succ, List.getElem_cons_zero]
              refine wpAnyL_take (i := 13) (v := ?v152) rfl (by kernel_rfl) (by kernel_rfl) (by kernel_rfl) (by kernel_rfl) (fun _ _ _ h => h) (Or.inl ⟨by rfl, ?hy152⟩) (by assumption) ?rest152
              case hy152 =>
                intro w hSw
                go_simp
                try with_reducible rfl
              try simp only [Act.put, List.setIfInBounds_toArray, List.set_cons_zero, List.set_cons_succ, List.getElem_toArray, List.getElem_cons_succ, List.getElem_cons_zero]
              refine wpAnyL_take (i := 14) (v := ?v153) rfl (by kernel_rfl) (by kernel_rfl) (by kernel_rfl) (by kernel_rfl) (fun _ _ _ h => h) (Or.inl ⟨by rfl, ?hy153⟩) (by assumption) ?rest153
              case hy153 =>
                intro w hSw
                (have q := hSw.cell (unhide HGC) (fun e => e); go_simp; try with_reducible rfl)
              try simp only [Act.put, List.setIfInBounds_toArray, List.set_cons_zero, List.set_cons_succ, List.getElem_toArray, List.getElem_cons_succ, List.getElem_cons_zero]
              refine wpAnyL_take (i := 15) (v := ?v154) rfl (by kernel_rfl) (by kernel_rfl) (by kernel_rfl) (by kernel_rfl) (fun _ _ _ h => h) (Or.inl ⟨by rfl, ?hy154⟩) (by assumption) ?rest154
              case hy154 =>
                intro w hSw
                go_simp
                try with_reducible rfl
              try simp only [Act.put, List.setIfInBounds_toArray, List.set_cons_zero, List.set_cons_succ, List.getElem_toArray, List.getElem_cons_succ, List.getElem_cons_zero]
              refine wpAnyL_take (i := 16) (v := ?v155) rfl (by kernel_rfl) (by kernel_rfl) (by kernel_rfl) (by kernel_rfl) (fun _ _ _ h => h) (Or.inl ⟨by rfl, ?hy155⟩) (by assumption) ?rest155
              case hy155 =>
                intro w hSw
                go_simp
                try with_reducible rfl
              try simp only [Act.put, List.setIfInBounds_toArray, List.set_cons_zero, List.set_cons_succ, List.getElem_toArray, List.getElem_cons_succ, List.getElem_cons_zero]
              have hc8 := unhide HCA
              refine wpAnyL_ready (rs := [17]) (by kernel_rfl) (by simp) ?_
              refine AllReadyL.last rfl (fun K hK => ?_)
              go_simp
              refine hK.out _ _ (trivial) (fun hHeld => ?_)
              clear hK K
              try simp only [Act.put, List.setIfInBounds_toArray, List.set_cons_zero, List.set_cons_succ, List.getElem_toArray, List.getElem_cons_succ, List.getElem_cons_zero]
              refine wpAnyL_done (by kernel_rfl) ?_ _
              go_wp2
              go_roundw
              case rel => exact ⟨j + 1, by omega, by go_num, unhide HWn, (unhide HOn).drew⟩
              case measure => simp [intOf]; omega
            · obtain rfl : j = 4 := by omega
              have hat2 := unhide hat
              rw [mixd_all _ _ 4 (unhide HNL) (unhide HWL4)] at hat2
              obtain ⟨N, hN⟩ : ∃ N, N = NX := ⟨_, rfl⟩
              rw [← hN] at hat2 HND HNL
              obtain ⟨wd, hwd⟩ : ∃ wd, wd = wq := ⟨_, rfl⟩
              rw [← hwd] at hat2 hot ⊢
              have A9 := hide hat2
              have O9 : Hid (Only (fun j => j = b8) wa wd) := (unhide OBC).trans (unhide hot) (fun _ _ e => e)
              have hmk' : mk = mk := rfl
              clear hN hat hat2 hwd HNA
              have HMK' := hide hmk'
              clear hmk'
              have hgb : ∀ x, (Value.slice (some ⟨g, 0, none⟩) k cap).ownBlock = some x → w6.heap.size ≤ x ∧ x < wr.heap.size := (unhide HOWN).lt
              have OWD : Hid (Only (fun j => j = cb) w6 wd) := (unhide OWA).trans (unhide O9) (fun j hj e => by omega)
              have hblkd : wd.heap[cb]? = some (.cells ([Value.slice (some ⟨g, 0, none⟩) k cap] ++ (A.map bv ++ B.map bv)).toArray 83 (0, 0)) := (unhide O9).heap ((unhide OA).heap (unhide HBLK) (fun e => e)) (fun e => hne8 e.symm)
              have hownd : wd.drew.ownsRow w6.heap.size 86 4 (.slice (some ⟨g, 0, none⟩) k cap) k (ws.map bv) := (unhide O9).owns ((unhide OA).owns (unhide HOWN) (fun _ _ e => e)) (fun x hx e => by have := (hgb x hx).2; omega)
              have hc0d := rc_zero hblkd
              have hnc : ¬ ((Value.slice (some ⟨g, 0, none⟩) k cap).ownBlock = some cb) := fun e => by have := (hgb cb e).1; omega
              have hnb : ¬ ((Value.slice (some ⟨g, 0, none⟩) k cap).ownBlock = some b8) := fun e => by have := (hgb b8 e).2; omega
              have hwd6 := (unhide OWD).size
              obtain ⟨g2, cap2, w3, hrun, own3, op3⟩ := push4 wd.drew w6.heap.size (.slice (some ⟨g, 0, none⟩) k cap) k ws N (unhide HNL) hownd (by omega) hwd6
              have hblk3 : w3.heap[cb]? = some (.cells ([Value.slice (some ⟨g, 0, none⟩) k cap] ++ (A.map bv ++ B.map bv)).toArray 83 (0, 0)) := op3.heap hblkd hnc
              have hc3 := rc_zero hblk3
              have hf3 : w3.frozen? ⟨cb, 0, none⟩ = false := by simp [World.frozen?, hblk3]
              have HRUN := hide hrun
              have HB3 : Hid ((w3.setCell ⟨cb, 0, none⟩ (.slice (some ⟨g2, 0, none⟩) (k + 1) cap2)).heap[cb]? = some (.cells ([Value.slice (some ⟨g2, 0, none⟩) (k + 1) cap2] ++ (A.map bv ++ B.map bv)).toArray 83 (0, 0))) := by
                have h := two_setCell (i := 0) (u := Value.slice (some ⟨g2, 0, none⟩) (k + 1) cap2) hblk3
                show _ = _
                rw [h]
                simp
              have OW3 : Hid (Only (fun j => j = cb) w6 w3) := ((unhide OWD).drew).trans op3 (fun j hj e => by have := (hgb j e).1; omega)
              have HOW3 : Hid ((w3.setCell ⟨cb, 0, none⟩ (.slice (some ⟨g2, 0, none⟩) (k + 1) cap2)).ownsRow w6.heap.size 86 4 (.slice (some ⟨g2, 0, none⟩) (k + 1) cap2) (k + 1) ((rw' 16 key (k + 1)).1.map bv)) := by
                rw [unhide HND]
                exact ((Only.refl (fun j => j = cb) w3).here 0 _).owns own3 (fun x hx e => by have := (own3.lt x hx).1; omega)
              have HO3 : Hid (Only (fun j => j = cb) w6 (w3.setCell ⟨cb, 0, none⟩ (.slice (some ⟨g2, 0, none⟩) (k + 1) cap2))) := (unhide OW3).here 0 _
              have HC0D := hide hc0d
              have OP3 : Hid (Only (fun j => (Value.slice (some ⟨g, 0, none⟩) k cap).ownBlock = some j) wd w3) := ((Only.refl (fun j => (Value.slice (some ⟨g, 0, none⟩) k cap).ownBlock = some j) wd).drew).trans op3 (fun _ _ e => e)
              clear hrun own3 op3 hblkd hblk3 hownd hc0d hwd6
              go_wp2_with fail
              refine wp_region_last_drew (S := (fun w' => Only (fun j => (Value.slice (some ⟨g, 0, none⟩) k cap).ownBlock = some j) wd w')) 10 (by kernel_rfl) ((Only.refl _ _).drew) (fun hHeld => ?_)
              refine wpAnyL_take (i := 0) (v := ?v156) rfl (by kernel_rfl) (by kernel_rfl) (by kernel_rfl) (by kernel_rfl) (fun _ _ _ h => h) (Or.inl ⟨by rfl, ?hy156⟩) (by assumption) ?rest156
              case hy156 =>
                intro w hSw
                go_simp
                try with_reducible rfl
              try simp only [Act.put, List.setIfInBounds_toArray, List.set_cons_zero, List.set_cons_succ, List.getElem_toArray, List.getElem_cons_succ, List.getElem_cons_zero]
              refine wpAnyL_take (i := 1) (v := ?v157) rfl (by kernel_rfl) (by kernel_rfl) (by kernel_rfl) (by kernel_rfl) (fun _ _ _ h => h) (Or.inl ⟨by rfl, ?hy157⟩) (by assumption) ?rest157
              case hy157 =>
                intro w hSw
                go_simp
                try with_reducible rfl
              try simp only [Act.put, List.setIfInBounds_toArray, List.set_cons_zero, List.set_cons_succ, List.getElem_toArray, List.getElem_cons_succ, List.getElem_cons_zero]
              refine wpAnyL_take (i := 2) (v := ?v158) rfl (by kernel_rfl) (by kernel_rfl) (by kernel_rfl) (by kernel_rfl) (fun _ _ _ h => h) (Or.inl ⟨by rfl, ?hy158⟩) (by assumption) ?rest158
              case hy158 =>
                intro w hSw
                go_simp
                try with_reducible rfl
              try simp only [Act.put, List.setIfInBounds_toArray, List.set_cons_zero, List.set_cons_succ, List.getElem_toArray, List.getElem_cons_succ, List.getElem_cons_zero]
              refine wpAnyL_take (i := 3) (v := ?v159) rfl (by kernel_rfl) (by kernel_rfl) (by kernel_rfl) (by kernel_rfl) (fun _ _ _ h => h) (Or.inl ⟨by rfl, ?hy159⟩) (by assumption) ?rest159
              case hy159 =>
                intro w hSw
                go_simp
                try with_reducible rfl
              try simp only [Act.put, List.setIfInBounds_toArray, List.set_cons_zero, List.set_cons_succ, List.getElem_toArray, List.getElem_cons_succ, List.getElem_cons_zero]
              refine wpAnyL_take (i := 4) (v := ?v160) rfl (by kernel_rfl) (by kernel_rfl) (by kernel_rfl) (by kernel_rfl) (fun _ _ _ h => h) (Or.inl ⟨by rfl, ?hy160⟩) (by assumption) ?rest160
              case hy160 =>
                intro w hSw
                (have q := hSw.cell (unhide HC0D) hnc; go_simp; try with_reducible rfl)
              try simp only [Act.put, List.setIfInBounds_toArray, List.set_cons_zero, List.set_cons_succ, List.getElem_toArray, List.getElem_cons_succ, List.getElem_cons_zero]
              refine wpAnyL_take (i := 5) (v := ?v161) rfl (by kernel_rfl) (by kernel_rfl) (by kernel_rfl) (by kernel_rfl) (fun _ _ _ h => h) (Or.inl ⟨by rfl, ?hy161⟩) (by assumption) ?rest161
              case hy161 =>
                intro w hSw
                (refine exec_load_mid 86 (.tmp 8) ?_ b8 0 ?_ (N.map bv) _ (range_only (unhide A9).range hSw hnb) Try.underW rfl (by rw [Try.sizeW]; simp [unhide HNL]) <;> rfl)
              try simp only [Act.put, List.setIfInBounds_toArray, List.set_cons_zero, List.set_cons_succ, List.getElem_toArray, List.getElem_cons_succ, List.getElem_cons_zero]
              refine wpAnyL_ready (rs := [6]) (by kernel_rfl) (by simp) ?_
              refine AllReadyL.cons rfl (fun K hK => ?_) AllReadyL.nil
              refine step_rowW rfl (.tmp 165) rfl N (unhide HNL) rfl ?_
              refine hK.out _ _ ((((Only.refl _ wd).drew).alloc _)) (fun hHeld => ?_)
              clear hK K
              try simp only [Act.put, List.setIfInBounds_toArray, List.set_cons_zero, List.set_cons_succ, List.getElem_toArray, List.getElem_cons_succ, List.getElem_cons_zero]
              refine wpAnyL_ready (rs := [7]) (by kernel_rfl) (by simp) ?_
              refine AllReadyL.cons rfl (fun K hK => ?_) AllReadyL.nil
              refine step_append_run' rfl (.tmp 164) (.tmp 166) 80 rfl _ _ _ _ rfl rfl (unhide HRUN) ?_
              refine hK.out _ _ ((unhide OP3)) (fun hHeld => ?_)
              clear hK K
              try simp only [Act.put, List.setIfInBounds_toArray, List.set_cons_zero, List.set_cons_succ, List.getElem_toArray, List.getElem_cons_succ, List.getElem_cons_zero]
              refine wpAnyL_ready (rs := [8]) (by kernel_rfl) (by simp) ?_
              refine AllReadyL.cons rfl (fun K hK => ?_) AllReadyL.nil
              go_simp
              refine hK.out _ _ ((unhide OP3)) (fun hHeld => ?_)
              clear hK K
              try simp only [Act.put, List.setIfInBounds_toArray, List.set_cons_zero, List.set_cons_succ, List.getElem_toArray, List.getElem_cons_succ, List.getElem_cons_zero]
              refine wpAnyL_take (i := 9) (v := ?v162) rfl (by kernel_rfl) (by kernel_rfl) (by kernel_rfl) (by kernel_rfl) (fun _ _ _ h => h) (Or.inl ⟨by rfl, ?hy162⟩) (by assumption) ?rest162
              case hy162 =>
                intro w hSw
                go_simp
                try with_reducible rfl
              try simp only [Act.put, List.setIfInBounds_toArray, List.set_cons_zero, List.set_cons_succ, List.getElem_toArray, List.getElem_cons_succ, List.getElem_cons_zero]
              refine wpAnyL_ready (rs := [10]) (by kernel_rfl) (by simp) ?_
              refine AllReadyL.last rfl (fun K hK => ?_)
              go_simp
              refine hK.out _ _ (trivial) (fun hHeld => ?_)
              clear hK K
              try simp only [Act.put, List.setIfInBounds_toArray, List.set_cons_zero, List.set_cons_succ, List.getElem_toArray, List.getElem_cons_succ, List.getElem_cons_zero]
              refine wpAnyL_done (by kernel_rfl) ?_ _
              go_wp2
              go_roundw
              case rel => exact ⟨k + 1, by omega, by go_num, by rw [unhide HMD], some ⟨g2, 0, none⟩, cap2, unhide HB3, unhide HOW3, unhide HO3⟩
              case measure => simp [intOf]; omega
        · rw [if_neg hd0] at HWW HN2
          rw [if_neg (show ¬ (16 = 32 ∧ d = 4) from fun e => absurd e.1 (by decide))] at HWW
          have hdb : ((d : Int) == 0) = false := by simp; omega
          clear hd0 hd
          obtain ⟨Wd, hWd⟩ : ∃ Wd : List UInt8, Wd = [P0, P1, P2, P3] := ⟨_, rfl⟩
          rw [unhide HWW] at HN1
          rw [← hWd] at AB HN1
          have hWl : Wd.length = 4 := by rw [hWd]; rfl
          have HWL4 := hide hWl
          have AC := AB
          have OC : Hid (Only (fun j => j = b8) wb wb) := Only.refl _ _
          obtain ⟨wc, hwc⟩ : ∃ wc, wc = wb := ⟨_, rfl⟩
          have HQC := hide hwc
          clear hWd hWl E0 E1 E2 E3 T0 T1 T2 T3 AB HWW hxb hwc
          have HMD : Hid ((rw' 16 key (k + 1)).2 = mk) := HN2
          obtain ⟨NX, hNX⟩ : ∃ NX, NX = next 16 ws Wd 4 := ⟨_, rfl⟩
          have hNl : NX.length = 4 := by rw [hNX]; exact next_length _ _ _ _
          have hNat : ∀ j, j < 4 → NX[j]? = some (gt Wd j ^^^ gt ws (4 * (k - 4) + j)) := fun j hj => by
            rw [hNX, next_at 16 ws Wd j hj, unhide HWL, UInt8.xor_comm, show 4 * k - 16 + j = 4 * (k - 4) + j by omega]
          have HNA := hide hNat
          have HND : Hid ((rw' 16 key (k + 1)).1 = ws ++ NX) := by rw [hNX]; exact HN1
          have HNL := hide hNl
          have OBC : Hid (Only (fun j => j = b8) wa wb) := (unhide OB).trans (unhide OC) (fun _ _ e => e)
          have HCC := hide ((unhide OC).cell (unhide HCB) (fun e => hne8 e.symm))
          clear hNX hNl hNat HN1 HCB
          go_wp2
          go_loopw [9] (fun i wq => ∃ j : Nat, j ≤ 4 ∧ i = .int .i64 j ∧ Hid (Arr wq b8 86 (mixd NX Wd j)) ∧ Hid (Only (fun x => x = b8) wb wq)) (fun i _ => 4 - (intOf i).toNat)
          case atStart => exact ⟨0, Nat.zero_le _, rfl, by rw [mixd_zero]; exact AC, Only.refl _ _⟩
          case round =>
            rename World => wq
            obtain ⟨j, hj, rfl, hat, hot⟩ := hrel
            by_cases hjt : j < 4
            · have hm0 := mixd_at NX Wd 4 j (unhide HNL) (unhide HWL4) hjt
              rw [gt_some Wd j (by have := unhide HWL4; omega)] at hm0
              have HCA := hide ((unhide hat).cell j _ hm0)
              have hf8 := (unhide hat).free j
              have hw2 := (unhide hat).set j (gt Wd j ^^^ gt ws (4 * (k - 4) + j))
              rw [mixd_set _ _ 4 j (unhide HNL) (unhide HWL4) hjt _ (unhide HNA j hjt)] at hw2
              have HWn := hide hw2
              have HOn := hide ((unhide hot).here j (.int .u8 ((gt Wd j ^^^ gt ws (4 * (k - 4) + j)).toNat : Int)))
              have hx := xor_bv (gt Wd j) (gt ws (4 * (k - 4) + j))
              have HC0 := hide ((unhide hot).cell (unhide HCC) (fun e => hne8 e.symm))
              have hgc : wq.cell? ⟨g, (k - 4) * 4 + j, none⟩ = some (.int .u8 ((gt ws (4 * (k - 4) + j)).toNat : Int)) := (unhide hot).cell ((unhide OBC).cell ((unhide OA).cell (word_cell (unhide HOWN) (unhide HWL) (k - 4) j (by omega) hjt) (fun e => e)) hg8) hg8
              have HGC := hide hgc
              obtain ⟨kn, hkn2⟩ : ∃ kn, kn = k - 4 := ⟨_, rfl⟩
              have M5 : Hid (IntKind.i64.wrap ((k : Int) - 4) = (kn : Int)) := by show _ = _; rw [wrap_small _ (by omega) (by omega)]; omega
              have hknk : (kn : Int) < (k : Int) := by omega
              rw [← hkn2] at HGC HWn HOn hx
              clear hm0 hat hot hw2 hgc hkn2
              generalize gt Wd j ^^^ gt ws (4 * kn + j) = z' at *
              generalize gt Wd j = x' at *
              generalize gt ws (4 * kn + j) = y' at *
              have hj4 : (j : Int) < 4 := by omega
              go_wp2_with fail
              refine wp_region_last_drew (S := (fun w' => Only (fun _ => False) wq w')) 17 (by kernel_rfl) ((Only.refl _ _).drew) (fun hHeld => ?_)
              refine wpAnyL_take (i := 0) (v := ?v163) rfl (by kernel_rfl) (by kernel_rfl) (by kernel_rfl) (by kernel_rfl) (fun _ _ _ h => h) (Or.inl ⟨by rfl, ?hy163⟩) (by assumption) ?rest163
              case hy163 =>
                intro w hSw
                go_simp
                try with_reducible rfl
              try simp only [Act.put, List.setIfInBounds_toArray, List.set_cons_zero, List.set_cons_succ, List.getElem_toArray, List.getElem_cons_succ, List.getElem_cons_zero]
              refine wpAnyL_take (i := 1) (v := ?v164) rfl (by kernel_rfl) (by kernel_rfl) (by kernel_rfl) (by kernel_rfl) (fun _ _ _ h => h) (Or.inl ⟨by rfl, ?hy164⟩) (by assumption) ?rest164
              case hy164 =>
                intro w hSw
                go_simp
                try with_reducible rfl
              try simp only [Act.put, List.setIfInBounds_toArray, List.set_cons_zero, List.set_cons_succ, List.getElem_toArray, List.getElem_cons_succ, List.getElem_cons_zero]
              refine wpAnyL_take (i := 2) (v := ?v165) rfl (by kernel_rfl) (by kernel_rfl) (by kernel_rfl) (by kernel_rfl) (fun _ _ _ h => h) (Or.inl ⟨by rfl, ?hy165⟩) (by assumption) ?rest165
              case hy165 =>
                intro w hSw
                go_simp
                try with_reducible rfl
              try simp only [Act.put, List.setIfInBounds_toArray, List.set_cons_zero, List.set_cons_succ, List.getElem_toArray, List.getElem_cons_succ, List.getElem_cons_zero]
              refine wpAnyL_take (i := 3) (v := ?v166) rfl (by kernel_rfl) (by kernel_rfl) (by kernel_rfl) (by kernel_rfl) (fun _ _ _ h => h) (Or.inl ⟨by rfl, ?hy166⟩) (by assumption) ?rest166
              case hy166 =>
                intro w hSw
                (have q := hSw.cell (unhide HCA) (fun e => e); go_simp; try with_reducible rfl)
              try simp only [Act.put, List.setIfInBounds_toArray, List.set_cons_zero, List.set_cons_succ, List.getElem_toArray, List.getElem_cons_succ, List.getElem_cons_zero]
              refine wpAnyL_take (i := 4) (v := ?v167) rfl (by kernel_rfl) (by kernel_rfl) (by kernel_rfl) (by kernel_rfl) (fun _ _ _ h => h) (Or.inl ⟨by rfl, ?hy167⟩) (by assumption) ?rest167
              case hy167 =>
                intro w hSw
                go_simp
                try with_reducible rfl
              try simp only [Act.put, List.setIfInBounds_toArray, List.set_cons_zero, List.set_cons_succ, List.getElem_toArray, List.getElem_cons_succ, List.getElem_cons_zero]
              refine wpAnyL_take (i := 5) (v := ?v168) rfl (by kernel_rfl) (by kernel_rfl) (by kernel_rfl) (by kernel_rfl) (fun _ _ _ h => h) (Or.inl ⟨by rfl, ?hy168⟩) (by assumption) ?rest168
              case hy168 =>
                intro w hSw
                go_simp
                try with_reducible rfl
              try simp only [Act.put, List.setIfInBounds_toArray, List.set_cons_zero, List.set_cons_succ, List.getElem_toArray, List.getElem_cons_succ, List.getElem_cons_zero]
              refine wpAnyL_take (i := 6) (v := ?v169) rfl (by kernel_rfl) (by kernel_rfl) (by kernel_rfl) (by kernel_rfl) (fun _ _ _ h => h) (Or.inl ⟨by rfl, ?hy169⟩) (by assumption) ?rest169
              case hy169 =>
                intro w hSw
                go_simp
                try with_reducible rfl
              try simp only [Act.put, List.setIfInBounds_toArray, List.set_cons_zero, List.set_cons_succ, List.getElem_toArray, List.getElem_cons_succ, List.getElem_cons_zero]
              refine wpAnyL_take (i := 7) (v := ?v170) rfl (by kernel_rfl) (by kernel_rfl) (by kernel_rfl) (by kernel_rfl) (fun _ _ _ h => h) (Or.inl ⟨by rfl, ?hy170⟩) (by assumption) ?rest170
              case hy170 =>
                intro w hSw
                (have q := hSw.cell (unhide HC0) (fun e => e); go_simp; try with_reducible rfl)
              try simp only [Act.put, List.setIfInBounds_toArray, List.set_cons_zero, List.set_cons_succ, List.getElem_toArray, List.getElem_cons_succ, List.getElem_cons_zero]
              refine wpAnyL_take (i := 8) (v := ?v171) rfl (by kernel_rfl) (by kernel_rfl) (by kernel_rfl) (by kernel_rfl) (fun _ _ _ h => h) (Or.inl ⟨by rfl, ?hy171⟩) (by assumption) ?rest171
              case hy171 =>
                intro w hSw
                go_simp
                try with_reducible rfl
              try simp only [Act.put, List.setIfInBounds_toArray, List.set_cons_zero, List.set_cons_succ, List.getElem_toArray, List.getElem_cons_succ, List.getElem_cons_zero]
              refine wpAnyL_take (i := 9) (v := ?v172) rfl (by kernel_rfl) (by kernel_rfl) (by kernel_rfl) (by kernel_rfl) (fun _ _ _ h => h) (Or.inl ⟨by rfl, ?hy172⟩) (by assumption) ?rest172
              case hy172 =>
                intro w hSw
                go_simp
                try with_reducible rfl
              try simp only [Act.put, List.setIfInBounds_toArray, List.set_cons_zero, List.set_cons_succ, List.getElem_toArray, List.getElem_cons_succ, List.getElem_cons_zero]
              refine wpAnyL_take (i := 10) (v := ?v173) rfl (by kernel_rfl) (by kernel_rfl) (by kernel_rfl) (by kernel_rfl) (fun _ _ _ h => h) (Or.inl ⟨by rfl, ?hy173⟩) (by assumption) ?rest173
              case hy173 =>
                intro w hSw
                (go_simp; rw [unhide M5]; try with_reducible rfl)
              try simp only [Act.put, List.setIfInBounds_toArray, List.set_cons_zero, List.set_cons_succ, List.getElem_toArray, List.getElem_cons_succ, List.getElem_cons_zero]
              refine wpAnyL_take (i := 11) (v := ?v174) rfl (by kernel_rfl) (by kernel_rfl) (by kernel_rfl) (by kernel_rfl) (fun _ _ _ h => h) (Or.inl ⟨by rfl, ?hy174⟩) (by assumption) ?rest174
              case hy174 =>
                intro w hSw
                go_simp
                try with_reducible rfl
              try simp only [Act.put, List.setIfInBounds_toArray, List.set_cons_zero, List.set_cons_succ, List.getElem_toArray, List.getElem_cons_succ, List.getElem_cons_zero]
              refine wpAnyL_take (i := 12) (v := ?v175) rfl (by kernel_rfl) (by kernel_rfl) (by kernel_rfl) (by kernel_rfl) (fun _ _ _ h => h) (Or.inl ⟨by rfl, ?hy175⟩) (by assumption) ?rest175
              case hy175 =>
                intro w hSw
                go_simp
                try with_reducible rfl
              try simp only [Act.put, List.setIfInBounds_toArray, List.set_cons_zero, List.set_cons_succ, List.getElem_toArray, List.getElem_cons_succ, List.getElem_cons_zero]
              refine wpAnyL_take (i := 13) (v := ?v176) rfl (by kernel_rfl) (by kernel_rfl) (by kernel_rfl) (by kernel_rfl) (fun _ _ _ h => h) (Or.inl ⟨by rfl, ?hy176⟩) (by assumption) ?rest176
              case hy176 =>
                intro w hSw
                go_simp
                try with_reducible rfl
              try simp only [Act.put, List.setIfInBounds_toArray, List.set_cons_zero, List.set_cons_succ, List.getElem_toArray, List.getElem_cons_succ, List.getElem_cons_zero]
              refine wpAnyL_take (i := 14) (v := ?v177) rfl (by kernel_rfl) (by kernel_rfl) (by kernel_rfl) (by kernel_rfl) (fun _ _ _ h => h) (Or.inl ⟨by rfl, ?hy177⟩) (by assumption) ?rest177
              case hy177 =>
                intro w hSw
                (have q := hSw.cell (unhide HGC) (fun e => e); go_simp; try with_reducible rfl)
              try simp only [Act.put, List.setIfInBounds_toArray, List.set_cons_zero, List.set_cons_succ, List.getElem_toArray, List.getElem_cons_succ, List.getElem_cons_zero]
              refine wpAnyL_take (i := 15) (v := ?v178) rfl (by kernel_rfl) (by kernel_rfl) (by kernel_rfl) (by kernel_rfl) (fun _ _ _ h => h) (Or.inl ⟨by rfl, ?hy178⟩) (by assumption) ?rest178
              case hy178 =>
                intro w hSw
                go_simp
                try with_reducible rfl
              try simp only [Act.put, List.setIfInBounds_toArray, List.set_cons_zero, List.set_cons_succ, List.getElem_toArray, List.getElem_cons_succ, List.getElem_cons_zero]
              refine wpAnyL_take (i := 16) (v := ?v179) rfl (by kernel_rfl) (by kernel_rfl) (by kernel_rfl) (by kernel_rfl) (fun _ _ _ h => h) (Or.inl ⟨by rfl, ?hy179⟩) (by assumption) ?rest179
              case hy179 =>
                intro w hSw
                go_simp
                try with_reducible rfl
              try simp only [Act.put, List.setIfInBounds_toArray, List.set_cons_zero, List.set_cons_succ, List.getElem_toArray, List.getElem_cons_succ, List.getElem_cons_zero]
              have hc8 := unhide HCA
              refine wpAnyL_ready (rs := [17]) (by kernel_rfl) (by simp) ?_
              refine AllReadyL.last rfl (fun K hK => ?_)
              go_simp
              refine hK.out _ _ (trivial) (fun hHeld => ?_)
              clear hK K
              try simp only [Act.put, List.setIfInBounds_toArray, List.set_cons_zero, List.set_cons_succ, List.getElem_toArray, List.getElem_cons_succ, List.getElem_cons_zero]
              refine wpAnyL_done (by kernel_rfl) ?_ _
              go_wp2
              go_roundw
              case rel => exact ⟨j + 1, by omega, by go_num, unhide HWn, (unhide HOn).drew⟩
              case measure => simp [intOf]; omega
            · obtain rfl : j = 4 := by omega
              have hat2 := unhide hat
              rw [mixd_all _ _ 4 (unhide HNL) (unhide HWL4)] at hat2
              obtain ⟨N, hN⟩ : ∃ N, N = NX := ⟨_, rfl⟩
              rw [← hN] at hat2 HND HNL
              obtain ⟨wd, hwd⟩ : ∃ wd, wd = wq := ⟨_, rfl⟩
              rw [← hwd] at hat2 hot ⊢
              have A9 := hide hat2
              have O9 : Hid (Only (fun j => j = b8) wa wd) := (unhide OBC).trans (unhide hot) (fun _ _ e => e)
              have hmk' : mk = mk := rfl
              clear hN hat hat2 hwd HNA
              have HMK' := hide hmk'
              clear hmk'
              have hgb : ∀ x, (Value.slice (some ⟨g, 0, none⟩) k cap).ownBlock = some x → w6.heap.size ≤ x ∧ x < wr.heap.size := (unhide HOWN).lt
              have OWD : Hid (Only (fun j => j = cb) w6 wd) := (unhide OWA).trans (unhide O9) (fun j hj e => by omega)
              have hblkd : wd.heap[cb]? = some (.cells ([Value.slice (some ⟨g, 0, none⟩) k cap] ++ (A.map bv ++ B.map bv)).toArray 83 (0, 0)) := (unhide O9).heap ((unhide OA).heap (unhide HBLK) (fun e => e)) (fun e => hne8 e.symm)
              have hownd : wd.drew.ownsRow w6.heap.size 86 4 (.slice (some ⟨g, 0, none⟩) k cap) k (ws.map bv) := (unhide O9).owns ((unhide OA).owns (unhide HOWN) (fun _ _ e => e)) (fun x hx e => by have := (hgb x hx).2; omega)
              have hc0d := rc_zero hblkd
              have hnc : ¬ ((Value.slice (some ⟨g, 0, none⟩) k cap).ownBlock = some cb) := fun e => by have := (hgb cb e).1; omega
              have hnb : ¬ ((Value.slice (some ⟨g, 0, none⟩) k cap).ownBlock = some b8) := fun e => by have := (hgb b8 e).2; omega
              have hwd6 := (unhide OWD).size
              obtain ⟨g2, cap2, w3, hrun, own3, op3⟩ := push4 wd.drew w6.heap.size (.slice (some ⟨g, 0, none⟩) k cap) k ws N (unhide HNL) hownd (by omega) hwd6
              have hblk3 : w3.heap[cb]? = some (.cells ([Value.slice (some ⟨g, 0, none⟩) k cap] ++ (A.map bv ++ B.map bv)).toArray 83 (0, 0)) := op3.heap hblkd hnc
              have hc3 := rc_zero hblk3
              have hf3 : w3.frozen? ⟨cb, 0, none⟩ = false := by simp [World.frozen?, hblk3]
              have HRUN := hide hrun
              have HB3 : Hid ((w3.setCell ⟨cb, 0, none⟩ (.slice (some ⟨g2, 0, none⟩) (k + 1) cap2)).heap[cb]? = some (.cells ([Value.slice (some ⟨g2, 0, none⟩) (k + 1) cap2] ++ (A.map bv ++ B.map bv)).toArray 83 (0, 0))) := by
                have h := two_setCell (i := 0) (u := Value.slice (some ⟨g2, 0, none⟩) (k + 1) cap2) hblk3
                show _ = _
                rw [h]
                simp
              have OW3 : Hid (Only (fun j => j = cb) w6 w3) := ((unhide OWD).drew).trans op3 (fun j hj e => by have := (hgb j e).1; omega)
              have HOW3 : Hid ((w3.setCell ⟨cb, 0, none⟩ (.slice (some ⟨g2, 0, none⟩) (k + 1) cap2)).ownsRow w6.heap.size 86 4 (.slice (some ⟨g2, 0, none⟩) (k + 1) cap2) (k + 1) ((rw' 16 key (k + 1)).1.map bv)) := by
                rw [unhide HND]
                exact ((Only.refl (fun j => j = cb) w3).here 0 _).owns own3 (fun x hx e => by have := (own3.lt x hx).1; omega)
              have HO3 : Hid (Only (fun j => j = cb) w6 (w3.setCell ⟨cb, 0, none⟩ (.slice (some ⟨g2, 0, none⟩) (k + 1) cap2))) := (unhide OW3).here 0 _
              have HC0D := hide hc0d
              have OP3 : Hid (Only (fun j => (Value.slice (some ⟨g, 0, none⟩) k cap).ownBlock = some j) wd w3) := ((Only.refl (fun j => (Value.slice (some ⟨g, 0, none⟩) k cap).ownBlock = some j) wd).drew).trans op3 (fun _ _ e => e)
              clear hrun own3 op3 hblkd hblk3 hownd hc0d hwd6
              go_wp2_with fail
              refine wp_region_last_drew (S := (fun w' => Only (fun j => (Value.slice (some ⟨g, 0, none⟩) k cap).ownBlock = some j) wd w')) 10 (by kernel_rfl) ((Only.refl _ _).drew) (fun hHeld => ?_)
              refine wpAnyL_take (i := 0) (v := ?v180) rfl (by kernel_rfl) (by kernel_rfl) (by kernel_rfl) (by kernel_rfl) (fun _ _ _ h => h) (Or.inl ⟨by rfl, ?hy180⟩) (by assumption) ?rest180
              case hy180 =>
                intro w hSw
                go_simp
                try with_reducible rfl
              try simp only [Act.put, List.setIfInBounds_toArray, List.set_cons_zero, List.set_cons_succ, List.getElem_toArray, List.getElem_cons_succ, List.getElem_cons_zero]
              refine wpAnyL_take (i := 1) (v := ?v181) rfl (by kernel_rfl) (by kernel_rfl) (by kernel_rfl) (by kernel_rfl) (fun _ _ _ h => h) (Or.inl ⟨by rfl, ?hy181⟩) (by assumption) ?rest181
              case hy181 =>
                intro w hSw
                go_simp
                try with_reducible rfl
              try simp only [Act.put, List.setIfInBounds_toArray, List.set_cons_zero, List.set_cons_succ, List.getElem_toArray, List.getElem_cons_succ, List.getElem_cons_zero]
              refine wpAnyL_take (i := 2) (v := ?v182) rfl (by kernel_rfl) (by kernel_rfl) (by kernel_rfl) (by kernel_rfl) (fun _ _ _ h => h) (Or.inl ⟨by rfl, ?hy182⟩) (by assumption) ?rest182
              case hy182 =>
                intro w hSw
                go_simp
                try with_reducible rfl
              try simp only [Act.put, List.setIfInBounds_toArray, List.set_cons_zero, List.set_cons_succ, List.getElem_toArray, List.getElem_cons_succ, List.getElem_cons_zero]
              refine wpAnyL_take (i := 3) (v := ?v183) rfl (by kernel_rfl) (by kernel_rfl) (by kernel_rfl) (by kernel_rfl) (fun _ _ _ h => h) (Or.inl ⟨by rfl, ?hy183⟩) (by assumption) ?rest183
              case hy183 =>
                intro w hSw
                go_simp
                try with_reducible rfl
              try simp only [Act.put, List.setIfInBounds_toArray, List.set_cons_zero, List.set_cons_succ, List.getElem_toArray, List.getElem_cons_succ, List.getElem_cons_zero]
              refine wpAnyL_take (i := 4) (v := ?v184) rfl (by kernel_rfl) (by kernel_rfl) (by kernel_rfl) (by kernel_rfl) (fun _ _ _ h => h) (Or.inl ⟨by rfl, ?hy184⟩) (by assumption) ?rest184
              case hy184 =>
                intro w hSw
                (have q := hSw.cell (unhide HC0D) hnc; go_simp; try with_reducible rfl)
              try simp only [Act.put, List.setIfInBounds_toArray, List.set_cons_zero, List.set_cons_succ, List.getElem_toArray, List.getElem_cons_succ, List.getElem_cons_zero]
              refine wpAnyL_take (i := 5) (v := ?v185) rfl (by kernel_rfl) (by kernel_rfl) (by kernel_rfl) (by kernel_rfl) (fun _ _ _ h => h) (Or.inl ⟨by rfl, ?hy185⟩) (by assumption) ?rest185
              case hy185 =>
                intro w hSw
                (refine exec_load_mid 86 (.tmp 8) ?_ b8 0 ?_ (N.map bv) _ (range_only (unhide A9).range hSw hnb) Try.underW rfl (by rw [Try.sizeW]; simp [unhide HNL]) <;> rfl)
              try simp only [Act.put, List.setIfInBounds_toArray, List.set_cons_zero, List.set_cons_succ, List.getElem_toArray, List.getElem_cons_succ, List.getElem_cons_zero]
              refine wpAnyL_ready (rs := [6]) (by kernel_rfl) (by simp) ?_
              refine AllReadyL.cons rfl (fun K hK => ?_) AllReadyL.nil
              refine step_rowW rfl (.tmp 165) rfl N (unhide HNL) rfl ?_
              refine hK.out _ _ ((((Only.refl _ wd).drew).alloc _)) (fun hHeld => ?_)
              clear hK K
              try simp only [Act.put, List.setIfInBounds_toArray, List.set_cons_zero, List.set_cons_succ, List.getElem_toArray, List.getElem_cons_succ, List.getElem_cons_zero]
              refine wpAnyL_ready (rs := [7]) (by kernel_rfl) (by simp) ?_
              refine AllReadyL.cons rfl (fun K hK => ?_) AllReadyL.nil
              refine step_append_run' rfl (.tmp 164) (.tmp 166) 80 rfl _ _ _ _ rfl rfl (unhide HRUN) ?_
              refine hK.out _ _ ((unhide OP3)) (fun hHeld => ?_)
              clear hK K
              try simp only [Act.put, List.setIfInBounds_toArray, List.set_cons_zero, List.set_cons_succ, List.getElem_toArray, List.getElem_cons_succ, List.getElem_cons_zero]
              refine wpAnyL_ready (rs := [8]) (by kernel_rfl) (by simp) ?_
              refine AllReadyL.cons rfl (fun K hK => ?_) AllReadyL.nil
              go_simp
              refine hK.out _ _ ((unhide OP3)) (fun hHeld => ?_)
              clear hK K
              try simp only [Act.put, List.setIfInBounds_toArray, List.set_cons_zero, List.set_cons_succ, List.getElem_toArray, List.getElem_cons_succ, List.getElem_cons_zero]
              refine wpAnyL_take (i := 9) (v := ?v186) rfl (by kernel_rfl) (by kernel_rfl) (by kernel_rfl) (by kernel_rfl) (fun _ _ _ h => h) (Or.inl ⟨by rfl, ?hy186⟩) (by assumption) ?rest186
              case hy186 =>
                intro w hSw
                go_simp
                try with_reducible rfl
              try simp only [Act.put, List.setIfInBounds_toArray, List.set_cons_zero, List.set_cons_succ, List.getElem_toArray, List.getElem_cons_succ, List.getElem_cons_zero]
              refine wpAnyL_ready (rs := [10]) (by kernel_rfl) (by simp) ?_
              refine AllReadyL.last rfl (fun K hK => ?_)
              go_simp
              refine hK.out _ _ (trivial) (fun hHeld => ?_)
              clear hK K
              try simp only [Act.put, List.setIfInBounds_toArray, List.set_cons_zero, List.set_cons_succ, List.getElem_toArray, List.getElem_cons_succ, List.getElem_cons_zero]
              refine wpAnyL_done (by kernel_rfl) ?_ _
              go_wp2
              go_roundw
              case rel => exact ⟨k + 1, by omega, by go_num, by rw [unhide HMD], some ⟨g2, 0, none⟩, cap2, unhide HB3, unhide HOW3, unhide HO3⟩
              case measure => simp [intOf]; omega
    · obtain rfl : k = 44 := by omega
      obtain ⟨ao, cap, hblk, hown, hor⟩ := unhide hin
      have hlen := rw_length 16 key (unhide HKL) (by decide) 44
      obtain ⟨g, rfl⟩ : ∃ g, ao = some ⟨g, 0, none⟩ := by
        rcases hown.2 with ⟨e, h0⟩ | ⟨g, c2, cur, e, _⟩
        · simp at e
        · simp only [Value.slice.injEq] at e
          exact ⟨g, e.1⟩
      have hw : (rw' 16 key 44).1 = (expd 16 key 40).1 := by unfold rw'; rw [if_neg (by decide)]
      rw [hw] at hown hlen
      have HRC : Hid (RCip wr cb 11 (expd 16 key 40).1) := ⟨hlen, g, cap, by rw [← (unhide HAB).1, ← (unhide HAB).2]; exact hblk, ownsRow_base hown (Nat.zero_le _)⟩
      have HOR : Hid (Only (fun _ => False) w wr) := (unhide O6).trans hor (fun j hj e => by have := unhide HCW; omega)
      clear hblk hown hor hlen hw hin
      go_wp2
      go_ret2
      exact ⟨cb, rfl, unhide HRC, unhide HOR⟩

end Ae
end Go.Proofs.Ytdmcnblnoiahcaa
