/-
  locksmithref8: New of a key of 16 bytes.
-/
import Derived.Test.YtbhidmeobeecmabAeRW
namespace Go.Proofs.Ytbhidmeobeecmab
open Go.RowKit
set_option linter.unusedSimpArgs false
set_option linter.unusedVariables false
namespace Ae
attribute [local go_sem ↓] execOp_loadW4

set_option maxRecDepth 100000 in
set_option maxHeartbeats 8000000 in
theorem rnew_16 (kb ko kcap : Nat) (key : List UInt8) (hk : key.length = 16) (w : World) (hx : Has w (.slice (some ⟨kb, ko, none⟩) 16 kcap) key) :
    Calls Try.prog 6 #[.slice (some ⟨kb, ko, none⟩) 16 kcap] w fun e w' => ∃ cb, e = .returned (.tuple #[.pointer (some ⟨cb, 0, none⟩), .bool true]) ∧ RCip w' cb 11 (expd 16 key 40).1 ∧ Only (fun _ => False) w w' := by
  obtain ⟨i4, hi4, hz40, hz41, hz42⟩ := info_parts Try.infoW
  have hkcap : 16 ≤ kcap := by obtain ⟨_, _, e, h, _⟩ := hx.shape; simp only [Value.slice.injEq] at e; omega
  have hkc : ∀ j (hj : j < key.length), w.cell? ⟨kb, ko + j, none⟩ = some (bv key[j]) := by
    obtain ⟨bb, off, e, _, hc⟩ := hx.at (by decide)
    simp only [Option.some.injEq, Addr.mk.injEq, and_true] at e
    obtain ⟨rfl, rfl⟩ := e
    exact hc
  have hkblt : kb < w.heap.size := hx.blk_lt (by intro e; rw [e] at hk; simp at hk) kb rfl
  have HKB := hide hkblt
  have HKC := hide hkc
  have HKL := hide hk
  have hzv := zvC
  have hzl : zeroC.length = 513 := by simp [zeroC, zero256]
  have hz : ∃ X Y : List Value, X.length = 256 ∧ Y.length = 256 ∧ zeroC = [Value.slice none 0 0] ++ (X ++ Y) := ⟨_, _, by simp [zero256], by simp [zero256], rfl⟩
  have HZ := hide hz
  clear hz hzl hx hkc hk hkblt
  generalize zeroC = Z at *
  obtain ⟨A, hA⟩ : ∃ A, A = tbox := ⟨_, rfl⟩
  obtain ⟨B, hB⟩ : ∃ B, B = tback 256 := ⟨_, rfl⟩
  have hbx := fun W => boxes_any W
  rw [← hA, ← hB] at hbx
  have HBX := hide hbx
  have hAl : A.length = 256 := by rw [hA]; exact tbox_len
  have hBl : B.length = 256 := by rw [hB]; exact tback_len 256
  have HAB := hide (And.intro hA hB)
  clear hA hB hbx
  go_enter Try.func6, Try.ntmps6
  go_wp2_with fail
  refine (unhide HBX _).mono ?_
  rintro e w1 ⟨rfl, o1⟩
  obtain ⟨cb, hcb⟩ : ∃ cb, cb = w.heap.size := ⟨_, rfl⟩
  rw [← hcb]
  have hblk : w1.heap[cb]? = some (.cells Z.toArray 44 (0, 0)) := o1.heap (by rw [hcb]; exact heap_alloc_last w _) (fun e => e)
  obtain ⟨X, Y, hX, hY, hZ⟩ := unhide HZ
  rw [hZ] at hblk
  have hzl : ([Value.slice none 0 0] ++ (X ++ Y)).length = 513 := by simp [hX, hY]
  have sA : (A.map bv).toArray.size = 256 := by simp [hAl]
  have sB : (B.map bv).toArray.size = 256 := by simp [hBl]
  have t1 : w1.there cb 1 (A.map bv).toArray.size := by rw [sA]; exact there_at hblk 1 256 (by rw [List.size_toArray, hzl]; decide)
  have t2 : (w1.setCells cb 1 (A.map bv).toArray.toList).there cb 257 (B.map bv).toArray.size := by rw [sB]; exact there_two _ hblk 1 (by rw [hzl]; simp [hAl]) 257 256 (by rw [hzl]; decide)
  have z1 : (Try.prog.info? 42).map (·.size) = some (A.map bv).toArray.size := by rw [sA]; exact Try.size256
  have z2 : (Try.prog.info? 42).map (·.size) = some (B.map bv).toArray.size := by rw [sB]; exact Try.size256
  have T1 := hide t1
  have T2 := hide t2
  have Z1 := hide z1
  have Z2 := hide z2
  obtain ⟨w6, e6, hb6, o6⟩ := tables (v := Value.slice none 0 0) X Y (A.map bv).toArray.toList (B.map bv).toArray.toList hX hY (by simp [hAl]) (by simp [hBl]) hblk
  have hcb1 : cb < w1.heap.size := lt_of_block hblk
  have HCW : Hid (cb = w.heap.size) := hcb
  clear t1 t2 z1 z2 hzl sA sB hblk hX hY hzv hZ HZ HBX hcb
  go_upto_region 6 with (first
    | (refine wpList_store_mid rfl 42 (.tmp 35) (.tmp 32) rfl cb 1 (A.map bv).toArray rfl rfl (unhide T1) (unhide Z1) (ag_one _) ?_)
    | (refine wpList_store_mid rfl 42 (.tmp 37) (.tmp 33) rfl cb 257 (B.map bv).toArray rfl rfl (unhide T2) (unhide Z2) (ag_one _) ?_))
  first
    | rw [← e6]
    | (simp only [List.toList_toArray] at e6 ⊢; rw [← e6])
  have O6 : Hid (Only (fun _ => False) w w6) := (((Only.refl (fun _ => False) w).alloc _).trans o1 (fun _ _ e => e)).trans o6 (fun j hj e => by have := unhide HCW; omega)
  have hb6' : w6.heap[cb]? = some (.cells ([Value.slice none 0 0] ++ (A.map bv ++ B.map bv)).toArray 44 (0, 0)) := by simpa using hb6
  have hcb6 : cb < w6.heap.size := lt_of_block hb6'
  have HI : Hid (RIn w6 w6.heap.size cb 0 (rw' 16 key 0).1 A B w6) := ⟨none, 0, hb6', by rw [show (rw' 16 key 0).1 = [] from by unfold rw'; rw [if_pos (by decide)]; rfl]; exact World.ownsRow_nil _ _ _ _, Only.refl _ _⟩
  have h20 : (rw' 16 key 0).2 = 1 := rfl
  have HKC6 : Hid (∀ j (hj : j < key.length), w6.cell? ⟨kb, ko + j, none⟩ = some (bv key[j])) := fun j hj => (unhide O6).cell (unhide HKC j hj) (fun e => e)
  clear T1 T2 Z1 Z2 e6 o6 hb6 hb6' o1 hcb1 HKC
  go_wp2
  go_loopw [6, 7, 8, 9] (fun c i _ _ wr => ∃ k : Nat, k ≤ 44 ∧ i = .int .i64 k ∧ c = .int .u8 ((rw' 16 key k).2.toNat : Int) ∧ Hid (RIn w6 w6.heap.size cb k (rw' 16 key k).1 A B wr)) (fun _ i _ _ _ => 44 - (intOf i).toNat)
  case atStart => exact ⟨0, Nat.zero_le _, rfl, by rw [h20]; rfl, HI⟩
  case round =>
    rename World => wr
    obtain ⟨k, hk, rfl, rfl, hin⟩ := hrel
    clear HI h20
    by_cases hlt : k < 44
    · obtain ⟨ao, cap, hblk, hown, hor⟩ := unhide hin
      obtain ⟨ws, hws⟩ : ∃ ws, ws = (rw' 16 key k).1 := ⟨_, rfl⟩
      obtain ⟨mk, hmk⟩ : ∃ mk, mk = (rw' 16 key k).2 := ⟨_, rfl⟩
      have hwl : ws.length = 4 * k := by rw [hws]; exact rw_length 16 key (unhide HKL) (by decide) k
      rw [← hws] at hown
      rw [← hmk]
      have HWL := hide hwl
      have HWS := hide hws
      have HMK := hide hmk
      clear hwl hws hmk hin
      have hkI : (k : Int) < 44 := by omega
      have hk100 : k < 100 := by omega
      have HBLK := hide hblk
      have HOWN := hide hown
      have HOR := hide hor
      clear hblk hown hor
      go_upto_region 11 with fail
      obtain ⟨wa, b8, ea, eb8, a8, oa⟩ := fresh4 wr
      rw [zeros4_eq, ← ea, ← eb8]
      have A8 := hide a8
      have OA := hide oa
      have hb8 : wr.heap.size ≤ b8 := by omega
      have hor6 := (unhide HOR).size
      have hne8 : b8 ≠ cb := by omega
      clear ea eb8 a8 oa
      have OWA : Hid (Only (fun j => j = cb) w6 wa) := (unhide HOR).trans (unhide OA) (fun _ _ e => e.elim)
      by_cases hkn : k < 4
      · have hkn' : (k : Int) < 4 := by omega
        obtain ⟨p, hp⟩ : ∃ p, p = 4 * k := ⟨_, rfl⟩
        obtain ⟨q, hq⟩ : ∃ q, q = p + 4 := ⟨_, rfl⟩
        have M1 : Hid (IntKind.i64.wrap (4 * (k : Int)) = (p : Int)) := by show _ = _; rw [wrap_small _ (by omega) (by omega)]; omega
        have M2 : Hid (IntKind.i64.wrap ((p : Int) + 4) = (q : Int)) := by show _ = _; rw [wrap_small _ (by omega) (by omega)]; omega
        obtain ⟨N, hN⟩ : ∃ N, N = (key.drop p).take 4 := ⟨_, rfl⟩
        have hkl := unhide HKL
        have hNl : N.length = 4 := by rw [hN]; simp; omega
        have hsrc : ∀ j v, (N.map bv)[j]? = some v → wa.drew.cell? ((⟨kb, ko + p, none⟩ : Addr).add j) = some v := by
          intro j v hv
          have hj : j < 4 := by have := (List.getElem?_eq_some_iff.1 hv).1; simpa [hNl] using this
          rw [addr_add _ rfl]
          have h1 : wa.cell? ⟨kb, ko + (p + j), none⟩ = _ := (unhide OWA).cell (unhide HKC6 (p + j) (by omega)) (fun e => by have e' : kb = cb := e; have := unhide HKB; have := unhide HCW; omega)
          rw [hN, List.getElem?_map, List.getElem?_take, if_pos hj, List.getElem?_drop, List.getElem?_eq_getElem (by omega)] at hv
          simp only [Option.map_some, Option.some.injEq] at hv
          rw [← hv, show (⟨kb, ko + p + j, none⟩ : Addr) = ⟨kb, ko + (p + j), none⟩ by rw [Nat.add_assoc]]
          exact h1
        obtain ⟨wd, hcp, a9, o9⟩ := copy4 (x := wa.drew) (unhide A8) rfl hNl ⟨kb, ko + p, none⟩ (kcap - p) hsrc
        have hsub : q - p = 4 := by omega
        have hpq : p ≤ q := by omega
        have hqk : (q : Int) ≤ (kcap : Int) := by omega
        have hqk2 : q ≤ kcap := by omega
        have hnep : ¬ kcap = p := by omega
        have HND : Hid ((rw' 16 key (k + 1)).1 = ws ++ N) := by show _ = _; rw [rw_first 16 key hkl (by decide) k hkn, ← unhide HWS, hN, hp]
        have HMD : Hid ((rw' 16 key (k + 1)).2 = mk) := by show _ = _; rw [rw_first 16 key hkl (by decide) k hkn, ← unhide HMK]
        have HNL := hide hNl
        have A9 := hide a9
        have O9 : Hid (Only (fun j => j = b8) wa wd) := ((Only.refl (fun j => j = b8) wa).drew).trans o9 (fun _ _ e => e)
        clear hN hsrc hNl hp hq a9 o9 hkl
        go_wp2_with fail
        refine wp_region_held_drew (S := (fun _ => True)) (by kernel_rfl) (trivial) (fun hHeld => ?_)
        refine wpAnyH_take (i := 0) (v := ?v1) rfl (by kernel_rfl) (by kernel_rfl) (by kernel_rfl) (fun _ _ _ h => h) (Or.inl ⟨by rfl, ?hy1⟩) (by assumption) ?rest1
        case hy1 =>
          intro w hSw
          go_simp
          try with_reducible rfl
        try simp only [Act.put, List.setIfInBounds_toArray, List.set_cons_zero, List.set_cons_succ, List.getElem_toArray, List.getElem_cons_succ, List.getElem_cons_zero]
        refine wpAnyH_take (i := 1) (v := ?v2) rfl (by kernel_rfl) (by kernel_rfl) (by kernel_rfl) (fun _ _ _ h => h) (Or.inl ⟨by rfl, ?hy2⟩) (by assumption) ?rest2
        case hy2 =>
          intro w hSw
          go_simp
          try with_reducible rfl
        try simp only [Act.put, List.setIfInBounds_toArray, List.set_cons_zero, List.set_cons_succ, List.getElem_toArray, List.getElem_cons_succ, List.getElem_cons_zero]
        refine wpAnyH_take (i := 2) (v := ?v3) rfl (by kernel_rfl) (by kernel_rfl) (by kernel_rfl) (fun _ _ _ h => h) (Or.inl ⟨by rfl, ?hy3⟩) (by assumption) ?rest3
        case hy3 =>
          intro w hSw
          go_simp
          try with_reducible rfl
        try simp only [Act.put, List.setIfInBounds_toArray, List.set_cons_zero, List.set_cons_succ, List.getElem_toArray, List.getElem_cons_succ, List.getElem_cons_zero]
        refine wpAnyH_take (i := 3) (v := ?v4) rfl (by kernel_rfl) (by kernel_rfl) (by kernel_rfl) (fun _ _ _ h => h) (Or.inl ⟨by rfl, ?hy4⟩) (by assumption) ?rest4
        case hy4 =>
          intro w hSw
          (go_simp; rw [unhide M1]; try with_reducible rfl)
        try simp only [Act.put, List.setIfInBounds_toArray, List.set_cons_zero, List.set_cons_succ, List.getElem_toArray, List.getElem_cons_succ, List.getElem_cons_zero]
        refine wpAnyH_take (i := 4) (v := ?v5) rfl (by kernel_rfl) (by kernel_rfl) (by kernel_rfl) (fun _ _ _ h => h) (Or.inl ⟨by rfl, ?hy5⟩) (by assumption) ?rest5
        case hy5 =>
          intro w hSw
          go_simp
          try with_reducible rfl
        try simp only [Act.put, List.setIfInBounds_toArray, List.set_cons_zero, List.set_cons_succ, List.getElem_toArray, List.getElem_cons_succ, List.getElem_cons_zero]
        refine wpAnyH_take (i := 5) (v := ?v6) rfl (by kernel_rfl) (by kernel_rfl) (by kernel_rfl) (fun _ _ _ h => h) (Or.inl ⟨by rfl, ?hy6⟩) (by assumption) ?rest6
        case hy6 =>
          intro w hSw
          (go_simp; rw [unhide M1]; try with_reducible rfl)
        try simp only [Act.put, List.setIfInBounds_toArray, List.set_cons_zero, List.set_cons_succ, List.getElem_toArray, List.getElem_cons_succ, List.getElem_cons_zero]
        refine wpAnyH_take (i := 6) (v := ?v7) rfl (by kernel_rfl) (by kernel_rfl) (by kernel_rfl) (fun _ _ _ h => h) (Or.inl ⟨by rfl, ?hy7⟩) (by assumption) ?rest7
        case hy7 =>
          intro w hSw
          (go_simp; rw [unhide M2]; try with_reducible rfl)
        try simp only [Act.put, List.setIfInBounds_toArray, List.set_cons_zero, List.set_cons_succ, List.getElem_toArray, List.getElem_cons_succ, List.getElem_cons_zero]
        refine wpAnyH_take (i := 7) (v := ?v8) rfl (by kernel_rfl) (by kernel_rfl) (by kernel_rfl) (fun _ _ _ h => h) (Or.inl ⟨by rfl, ?hy8⟩) (by assumption) ?rest8
        case hy8 =>
          intro w hSw
          go_simp
          try with_reducible rfl
        try simp only [Act.put, List.setIfInBounds_toArray, List.set_cons_zero, List.set_cons_succ, List.getElem_toArray, List.getElem_cons_succ, List.getElem_cons_zero]
        refine wpAnyH_ready (rs := [8]) (by kernel_rfl) (by simp) ?_
        refine AllReadyH.cons rfl (fun K hK => ?_) AllReadyH.nil
        go_simp
        refine hK.out _ _ (trivial) (fun hHeld => ?_)
        clear hK K
        try simp only [Act.put, List.setIfInBounds_toArray, List.set_cons_zero, List.set_cons_succ, List.getElem_toArray, List.getElem_cons_succ, List.getElem_cons_zero]
        refine wpAnyH_done (by kernel_rfl) ?_ _
        clear hcp M1 M2 hsub hpq hqk hqk2 hnep
        obtain ⟨mk', hmk'⟩ : ∃ mk', mk' = mk := ⟨_, rfl⟩
        rw [← hmk'] at HMD
        have HMK' := hide hmk'
        clear hmk'
        have hgb : ∀ x, (Value.slice ao k cap).ownBlock = some x → w6.heap.size ≤ x ∧ x < wr.heap.size := (unhide HOWN).lt
        have OWD : Hid (Only (fun j => j = cb) w6 wd) := (unhide OWA).trans (unhide O9) (fun j hj e => by omega)
        have hblkd : wd.heap[cb]? = some (.cells ([Value.slice ao k cap] ++ (A.map bv ++ B.map bv)).toArray 44 (0, 0)) := (unhide O9).heap ((unhide OA).heap (unhide HBLK) (fun e => e)) (fun e => hne8 e.symm)
        have hownd : wd.drew.ownsRow w6.heap.size 47 4 (.slice ao k cap) k (ws.map bv) := (unhide O9).owns ((unhide OA).owns (unhide HOWN) (fun _ _ e => e)) (fun x hx e => by have := (hgb x hx).2; omega)
        have hc0d := rc_zero hblkd
        have hnc : ¬ ((Value.slice ao k cap).ownBlock = some cb) := fun e => by have := (hgb cb e).1; omega
        have hnb : ¬ ((Value.slice ao k cap).ownBlock = some b8) := fun e => by have := (hgb b8 e).2; omega
        have hwd6 := (unhide OWD).size
        obtain ⟨g2, cap2, w3, hrun, own3, op3⟩ := push4 wd.drew w6.heap.size (.slice ao k cap) k ws N (unhide HNL) hownd (by omega) hwd6
        have hblk3 : w3.heap[cb]? = some (.cells ([Value.slice ao k cap] ++ (A.map bv ++ B.map bv)).toArray 44 (0, 0)) := op3.heap hblkd hnc
        have hc3 := rc_zero hblk3
        have hf3 : w3.frozen? ⟨cb, 0, none⟩ = false := by simp [World.frozen?, hblk3]
        have HRUN := hide hrun
        have HB3 : Hid ((w3.setCell ⟨cb, 0, none⟩ (.slice (some ⟨g2, 0, none⟩) (k + 1) cap2)).heap[cb]? = some (.cells ([Value.slice (some ⟨g2, 0, none⟩) (k + 1) cap2] ++ (A.map bv ++ B.map bv)).toArray 44 (0, 0))) := by
          have h := two_setCell (i := 0) (u := Value.slice (some ⟨g2, 0, none⟩) (k + 1) cap2) hblk3
          show _ = _
          rw [h]
          simp
        have OW3 : Hid (Only (fun j => j = cb) w6 w3) := ((unhide OWD).drew).trans op3 (fun j hj e => by have := (hgb j e).1; omega)
        have HOW3 : Hid ((w3.setCell ⟨cb, 0, none⟩ (.slice (some ⟨g2, 0, none⟩) (k + 1) cap2)).ownsRow w6.heap.size 47 4 (.slice (some ⟨g2, 0, none⟩) (k + 1) cap2) (k + 1) ((rw' 16 key (k + 1)).1.map bv)) := by
          rw [unhide HND]
          exact ((Only.refl (fun j => j = cb) w3).here 0 _).owns own3 (fun x hx e => by have := (own3.lt x hx).1; omega)
        have HO3 : Hid (Only (fun j => j = cb) w6 (w3.setCell ⟨cb, 0, none⟩ (.slice (some ⟨g2, 0, none⟩) (k + 1) cap2))) := (unhide OW3).here 0 _
        have HC0D := hide hc0d
        have OP3 : Hid (Only (fun j => (Value.slice ao k cap).ownBlock = some j) wd w3) := ((Only.refl (fun j => (Value.slice ao k cap).ownBlock = some j) wd).drew).trans op3 (fun _ _ e => e)
        clear hrun own3 op3 hblkd hblk3 hownd hc0d hwd6
        go_wp2_with fail
        refine wp_region_last_drew (S := (fun w' => Only (fun j => (Value.slice ao k cap).ownBlock = some j) wd w')) 10 (by kernel_rfl) ((Only.refl _ _).drew) (fun hHeld => ?_)
        refine wpAnyL_take (i := 0) (v := ?v9) rfl (by kernel_rfl) (by kernel_rfl) (by kernel_rfl) (by kernel_rfl) (fun _ _ _ h => h) (Or.inl ⟨by rfl, ?hy9⟩) (by assumption) ?rest9
        case hy9 =>
          intro w hSw
          go_simp
          try with_reducible rfl
        try simp only [Act.put, List.setIfInBounds_toArray, List.set_cons_zero, List.set_cons_succ, List.getElem_toArray, List.getElem_cons_succ, List.getElem_cons_zero]
        refine wpAnyL_take (i := 1) (v := ?v10) rfl (by kernel_rfl) (by kernel_rfl) (by kernel_rfl) (by kernel_rfl) (fun _ _ _ h => h) (Or.inl ⟨by rfl, ?hy10⟩) (by assumption) ?rest10
        case hy10 =>
          intro w hSw
          go_simp
          try with_reducible rfl
        try simp only [Act.put, List.setIfInBounds_toArray, List.set_cons_zero, List.set_cons_succ, List.getElem_toArray, List.getElem_cons_succ, List.getElem_cons_zero]
        refine wpAnyL_take (i := 2) (v := ?v11) rfl (by kernel_rfl) (by kernel_rfl) (by kernel_rfl) (by kernel_rfl) (fun _ _ _ h => h) (Or.inl ⟨by rfl, ?hy11⟩) (by assumption) ?rest11
        case hy11 =>
          intro w hSw
          go_simp
          try with_reducible rfl
        try simp only [Act.put, List.setIfInBounds_toArray, List.set_cons_zero, List.set_cons_succ, List.getElem_toArray, List.getElem_cons_succ, List.getElem_cons_zero]
        refine wpAnyL_take (i := 3) (v := ?v12) rfl (by kernel_rfl) (by kernel_rfl) (by kernel_rfl) (by kernel_rfl) (fun _ _ _ h => h) (Or.inl ⟨by rfl, ?hy12⟩) (by assumption) ?rest12
        case hy12 =>
          intro w hSw
          go_simp
          try with_reducible rfl
        try simp only [Act.put, List.setIfInBounds_toArray, List.set_cons_zero, List.set_cons_succ, List.getElem_toArray, List.getElem_cons_succ, List.getElem_cons_zero]
        refine wpAnyL_take (i := 4) (v := ?v13) rfl (by kernel_rfl) (by kernel_rfl) (by kernel_rfl) (by kernel_rfl) (fun _ _ _ h => h) (Or.inl ⟨by rfl, ?hy13⟩) (by assumption) ?rest13
        case hy13 =>
          intro w hSw
          (have q := hSw.cell (unhide HC0D) hnc; go_simp; try with_reducible rfl)
        try simp only [Act.put, List.setIfInBounds_toArray, List.set_cons_zero, List.set_cons_succ, List.getElem_toArray, List.getElem_cons_succ, List.getElem_cons_zero]
        refine wpAnyL_take (i := 5) (v := ?v14) rfl (by kernel_rfl) (by kernel_rfl) (by kernel_rfl) (by kernel_rfl) (fun _ _ _ h => h) (Or.inl ⟨by rfl, ?hy14⟩) (by assumption) ?rest14
        case hy14 =>
          intro w hSw
          (refine exec_load_mid 47 (.tmp 8) ?_ b8 0 ?_ (N.map bv) _ (range_only (unhide A9).range hSw hnb) Try.underW rfl (by rw [Try.sizeW]; simp [unhide HNL]) <;> rfl)
        try simp only [Act.put, List.setIfInBounds_toArray, List.set_cons_zero, List.set_cons_succ, List.getElem_toArray, List.getElem_cons_succ, List.getElem_cons_zero]
        refine wpAnyL_ready (rs := [6]) (by kernel_rfl) (by simp) ?_
        refine AllReadyL.cons rfl (fun K hK => ?_) AllReadyL.nil
        refine step_rowW rfl (.tmp 165) rfl N (unhide HNL) rfl ?_
        refine hK.out _ _ ((((Only.refl _ wd).drew).alloc _)) (fun hHeld => ?_)
        clear hK K
        try simp only [Act.put, List.setIfInBounds_toArray, List.set_cons_zero, List.set_cons_succ, List.getElem_toArray, List.getElem_cons_succ, List.getElem_cons_zero]
        refine wpAnyL_ready (rs := [7]) (by kernel_rfl) (by simp) ?_
        refine AllReadyL.cons rfl (fun K hK => ?_) AllReadyL.nil
        refine step_append_run' rfl (.tmp 164) (.tmp 166) 41 rfl _ _ _ _ rfl rfl (unhide HRUN) ?_
        refine hK.out _ _ ((unhide OP3)) (fun hHeld => ?_)
        clear hK K
        try simp only [Act.put, List.setIfInBounds_toArray, List.set_cons_zero, List.set_cons_succ, List.getElem_toArray, List.getElem_cons_succ, List.getElem_cons_zero]
        refine wpAnyL_ready (rs := [8]) (by kernel_rfl) (by simp) ?_
        refine AllReadyL.cons rfl (fun K hK => ?_) AllReadyL.nil
        go_simp
        refine hK.out _ _ ((unhide OP3)) (fun hHeld => ?_)
        clear hK K
        try simp only [Act.put, List.setIfInBounds_toArray, List.set_cons_zero, List.set_cons_succ, List.getElem_toArray, List.getElem_cons_succ, List.getElem_cons_zero]
        refine wpAnyL_take (i := 9) (v := ?v15) rfl (by kernel_rfl) (by kernel_rfl) (by kernel_rfl) (by kernel_rfl) (fun _ _ _ h => h) (Or.inl ⟨by rfl, ?hy15⟩) (by assumption) ?rest15
        case hy15 =>
          intro w hSw
          go_simp
          try with_reducible rfl
        try simp only [Act.put, List.setIfInBounds_toArray, List.set_cons_zero, List.set_cons_succ, List.getElem_toArray, List.getElem_cons_succ, List.getElem_cons_zero]
        refine wpAnyL_ready (rs := [10]) (by kernel_rfl) (by simp) ?_
        refine AllReadyL.last rfl (fun K hK => ?_)
        go_simp
        refine hK.out _ _ (trivial) (fun hHeld => ?_)
        clear hK K
        try simp only [Act.put, List.setIfInBounds_toArray, List.set_cons_zero, List.set_cons_succ, List.getElem_toArray, List.getElem_cons_succ, List.getElem_cons_zero]
        refine wpAnyL_done (by kernel_rfl) ?_ _
        go_wp2
        go_roundw
        case rel => exact ⟨k + 1, by omega, by go_num, by rw [unhide HMD, unhide HMK'], some ⟨g2, 0, none⟩, cap2, unhide HB3, unhide HOW3, unhide HO3⟩
        case measure => simp [intOf]; omega
      · have hkn' : ¬ (k : Int) < 4 := by omega
        obtain ⟨g, rfl⟩ : ∃ g, ao = some ⟨g, 0, none⟩ := by
          rcases (unhide HOWN).2 with ⟨e, h0⟩ | ⟨g, c2, cur, e, _⟩
          · simp at e; omega
          · simp only [Value.slice.injEq] at e
            exact ⟨g, e.1⟩
        have hgr := (unhide HOWN).lt g rfl
        have hg8 : g ≠ b8 := by omega
        have hc0 : wa.cell? ⟨cb, 0, none⟩ = some (.slice (some ⟨g, 0, none⟩) k cap) := (unhide OA).cell (rc_zero (unhide HBLK)) (fun e => e)
        obtain ⟨P, hP⟩ : ∃ P, P = prev ws := ⟨_, rfl⟩
        have hPl : P.length = 4 := by rw [hP]; rfl
        have hwl := unhide HWL
        have hPd : P = (ws.drop (4 * (k - 1))).take 4 := by
          rw [hP, prev_drop ws (by omega), hwl, show 4 * k - 4 = 4 * (k - 1) by omega, List.take_of_length_le (by simp; omega)]
        have hrg : wa.rangeAt g ((k - 1) * 4) (P.map bv) := by
          rw [hPd]
          exact range_only (word_rangeAt (unhide HOWN) hwl (k - 1) (by omega)) (unhide OA) (fun e => e)
        have hld := loadW4_run hrg hPl
        have hk1I : (k : Int) - 1 = ((k - 1 : Nat) : Int) := by omega
        have hk1b : ((k - 1 : Nat) : Int) < (k : Int) := by omega
        have HT := hide (there4 (unhide A8) rfl hPl)
        have HZ4 := hide (size4s hPl)
        have HPP := hide hP
        have HPL := hide hPl
        clear hP hPl hPd hrg hwl
        go_upto_region 14 with (refine wpList_store_mid rfl 47 (.tmp 8) (.tmp 64) rfl b8 0 (P.map bv).toArray rfl rfl (unhide HT) (unhide HZ4) (ag_one _) ?_)
        obtain ⟨wb, eb, ab, ob⟩ := restored4 wa b8 zero4 P (unhide A8) (by rw [unhide HPL]; rfl)
        first
          | rw [← eb]
          | (simp only [List.toList_toArray]; rw [← eb])
        have AB := hide ab
        have OB := hide ob
        have HCB := hide (ob.cell hc0 (fun e => hne8 e.symm))
        clear eb ab ob hld hc0 HT HZ4 hk1I hk1b
        obtain ⟨d, hd⟩ : ∃ d, d = k % 4 := ⟨_, rfl⟩
        have hr1 : (k : Int).tmod 4 = (d : Int) := by rw [Int.tmod_eq_emod_of_nonneg (by omega)]; omega
        have hr2 : (k : Int) % 4 = (d : Int) := by omega
        have HND0 : Hid (rw' 16 key (k + 1) = (ws ++ next 16 ws (word 16 ws mk) 4, if ws.length % 16 = 0 then mul mk 2 else mk)) := by
          show _ = _
          rw [rw_then 16 key k hkn]
          unfold stepK
          rw [← unhide HWS, ← unhide HMK]
        have hwd0 : ws.length % 16 = 0 ↔ d = 0 := by have := unhide HWL; omega
        have hwd4 : ws.length % 16 = 16 ↔ d = 4 := by have := unhide HWL; omega
        obtain ⟨P0, P1, P2, P3, hP4⟩ : ∃ P0 P1 P2 P3, P = [P0, P1, P2, P3] := by
          have h := unhide HPL
          match P, h with
          | [x0, x1, x2, x3], _ => exact ⟨_, _, _, _, rfl⟩
        subst hP4
        have hW : word 16 ws mk = if d = 0 then [box P1 ^^^ mk, box P2, box P3, box P0] else if 16 = 32 ∧ d = 4 then [box P0, box P1, box P2, box P3] else [P0, P1, P2, P3] := by
          have h := unhide HPP
          unfold prev at h
          simp only [List.cons.injEq, and_true] at h
          obtain ⟨h0, h1, h2, h3⟩ := h
          unfold word
          rw [← h0, ← h1, ← h2, ← h3]
          by_cases e0 : d = 0
          · rw [if_pos e0, if_pos (hwd0.2 e0)]
          · rw [if_neg e0, if_neg (fun e => e0 (hwd0.1 e))]
            by_cases e4 : d = 4
            · rw [if_neg (show ¬ (16 = 32 ∧ ws.length % 16 = 16) from fun e => absurd e.1 (by decide)), if_neg (show ¬ (16 = 32 ∧ d = 4) from fun e => absurd e.1 (by decide))]
            · rw [if_neg (fun e => e4 (hwd4.1 e.2)), if_neg (fun e => e4 e.2)]
        have E0 : Hid (wb.cell? ⟨b8, 0, none⟩ = some (.int .u8 (P0.toNat : Int))) := (unhide AB).cell 0 P0 rfl
        have E1 : Hid (wb.cell? ⟨b8, 1, none⟩ = some (.int .u8 (P1.toNat : Int))) := (unhide AB).cell 1 P1 rfl
        have E2 : Hid (wb.cell? ⟨b8, 2, none⟩ = some (.int .u8 (P2.toNat : Int))) := (unhide AB).cell 2 P2 rfl
        have E3 : Hid (wb.cell? ⟨b8, 3, none⟩ = some (.int .u8 (P3.toNat : Int))) := (unhide AB).cell 3 P3 rfl
        have hblkb : wb.heap[cb]? = some (.cells ([Value.slice (some ⟨g, 0, none⟩) k cap] ++ (A.map bv ++ B.map bv)).toArray 44 (0, 0)) := (unhide OB).heap ((unhide OA).heap (unhide HBLK) (fun e => e)) (fun e => hne8 e.symm)
        have hta : ∀ x : UInt8, A[x.toNat]? = some (box x) := fun x => by rw [(unhide HAB).1]; exact tbox_all x
        have T0 := hide (rc_there hblkb P0.toNat (box P0) (hta P0))
        have T1 := hide (rc_there hblkb P1.toNat (box P1) (hta P1))
        have T2 := hide (rc_there hblkb P2.toNat (box P2) (hta P2))
        have T3 := hide (rc_there hblkb P3.toNat (box P3) (hta P3))
        have hxb := xor_bv (box P1) mk
        have HWW := hide hW
        clear hW hblkb hta hwd4
        have l0 : (P0.toNat : Int) < 256 := by have := P0.toNat_lt; omega
        have l1 : (P1.toNat : Int) < 256 := by have := P1.toNat_lt; omega
        have l2 : (P2.toNat : Int) < 256 := by have := P2.toNat_lt; omega
        have l3 : (P3.toNat : Int) < 256 := by have := P3.toNat_lt; omega
        have HN1 : Hid ((rw' 16 key (k + 1)).1 = ws ++ next 16 ws (word 16 ws mk) 4) := by show _ = _; rw [unhide HND0]
        have HN2 : Hid ((rw' 16 key (k + 1)).2 = if d = 0 then mul mk 2 else mk) := by show _ = _; rw [unhide HND0]; simp only [hwd0]
        clear HND0 hwd0
        by_cases hd0 : d = 0
        · rw [if_pos hd0] at HWW HN2
          have hdb : ((d : Int) == 0) = true := by simp; omega
          generalize hz : box P1 ^^^ mk = z at *
          generalize box P0 = y0 at *
          generalize box P1 = y1 at *
          generalize box P2 = y2 at *
          generalize box P3 = y3 at *
          clear hz hd0 hd
          have HT := hide (there4 (unhide AB) rfl (show ([z, y2, y3, y0] : List UInt8).length = 4 from rfl))
          have HZ4 := hide (size4s (show ([z, y2, y3, y0] : List UInt8).length = 4 from rfl))
          go_wp2_with fail
          refine wp_region_last_drew (S := (fun w' => Only (fun _ => False) wb w')) 31 (by kernel_rfl) ((Only.refl _ _).drew) (fun hHeld => ?_)
          refine wpAnyL_take (i := 0) (v := ?v16) rfl (by kernel_rfl) (by kernel_rfl) (by kernel_rfl) (by kernel_rfl) (fun _ _ _ h => h) (Or.inl ⟨by rfl, ?hy16⟩) (by assumption) ?rest16
          case hy16 =>
            intro w hSw
            go_simp
            try with_reducible rfl
          try simp only [Act.put, List.setIfInBounds_toArray, List.set_cons_zero, List.set_cons_succ, List.getElem_toArray, List.getElem_cons_succ, List.getElem_cons_zero]
          refine wpAnyL_take (i := 1) (v := ?v17) rfl (by kernel_rfl) (by kernel_rfl) (by kernel_rfl) (by kernel_rfl) (fun _ _ _ h => h) (Or.inl ⟨by rfl, ?hy17⟩) (by assumption) ?rest17
          case hy17 =>
            intro w hSw
            go_simp
            try with_reducible rfl
          try simp only [Act.put, List.setIfInBounds_toArray, List.set_cons_zero, List.set_cons_succ, List.getElem_toArray, List.getElem_cons_succ, List.getElem_cons_zero]
          refine wpAnyL_take (i := 2) (v := ?v18) rfl (by kernel_rfl) (by kernel_rfl) (by kernel_rfl) (by kernel_rfl) (fun _ _ _ h => h) (Or.inl ⟨by rfl, ?hy18⟩) (by assumption) ?rest18
          case hy18 =>
            intro w hSw
            (have q := hSw.cell (unhide E1) (fun e => e); go_simp; try with_reducible rfl)
          try simp only [Act.put, List.setIfInBounds_toArray, List.set_cons_zero, List.set_cons_succ, List.getElem_toArray, List.getElem_cons_succ, List.getElem_cons_zero]
          refine wpAnyL_take (i := 3) (v := ?v19) rfl (by kernel_rfl) (by kernel_rfl) (by kernel_rfl) (by kernel_rfl) (fun _ _ _ h => h) (Or.inl ⟨by rfl, ?hy19⟩) (by assumption) ?rest19
          case hy19 =>
            intro w hSw
            go_simp
            try with_reducible rfl
          try simp only [Act.put, List.setIfInBounds_toArray, List.set_cons_zero, List.set_cons_succ, List.getElem_toArray, List.getElem_cons_succ, List.getElem_cons_zero]
          refine wpAnyL_take (i := 4) (v := ?v20) rfl (by kernel_rfl) (by kernel_rfl) (by kernel_rfl) (by kernel_rfl) (fun _ _ _ h => h) (Or.inl ⟨by rfl, ?hy20⟩) (by assumption) ?rest20
          case hy20 =>
            intro w hSw
            go_simp
            try with_reducible rfl
          try simp only [Act.put, List.setIfInBounds_toArray, List.set_cons_zero, List.set_cons_succ, List.getElem_toArray, List.getElem_cons_succ, List.getElem_cons_zero]
          refine wpAnyL_take (i := 5) (v := ?v21) rfl (by kernel_rfl) (by kernel_rfl) (by kernel_rfl) (by kernel_rfl) (fun _ _ _ h => h) (Or.inl ⟨by rfl, ?hy21⟩) (by assumption) ?rest21
          case hy21 =>
            intro w hSw
            go_simp
            try with_reducible rfl
          try simp only [Act.put, List.setIfInBounds_toArray, List.set_cons_zero, List.set_cons_succ, List.getElem_toArray, List.getElem_cons_succ, List.getElem_cons_zero]
          refine wpAnyL_take (i := 6) (v := ?v22) rfl (by kernel_rfl) (by kernel_rfl) (by kernel_rfl) (by kernel_rfl) (fun _ _ _ h => h) (Or.inl ⟨by rfl, ?hy22⟩) (by assumption) ?rest22
          case hy22 =>
            intro w hSw
            (have q := hSw.cell (unhide T1) (fun e => e); go_simp; try with_reducible rfl)
          try simp only [Act.put, List.setIfInBounds_toArray, List.set_cons_zero, List.set_cons_succ, List.getElem_toArray, List.getElem_cons_succ, List.getElem_cons_zero]
          refine wpAnyL_take (i := 7) (v := ?v23) rfl (by kernel_rfl) (by kernel_rfl) (by kernel_rfl) (by kernel_rfl) (fun _ _ _ h => h) (Or.inl ⟨by rfl, ?hy23⟩) (by assumption) ?rest23
          case hy23 =>
            intro w hSw
            go_simp
            try with_reducible rfl
          try simp only [Act.put, List.setIfInBounds_toArray, List.set_cons_zero, List.set_cons_succ, List.getElem_toArray, List.getElem_cons_succ, List.getElem_cons_zero]
          refine wpAnyL_take (i := 8) (v := ?v24) rfl (by kernel_rfl) (by kernel_rfl) (by kernel_rfl) (by kernel_rfl) (fun _ _ _ h => h) (Or.inl ⟨by rfl, ?hy24⟩) (by assumption) ?rest24
          case hy24 =>
            intro w hSw
            go_simp
            try with_reducible rfl
          try simp only [Act.put, List.setIfInBounds_toArray, List.set_cons_zero, List.set_cons_succ, List.getElem_toArray, List.getElem_cons_succ, List.getElem_cons_zero]
          refine wpAnyL_take (i := 9) (v := ?v25) rfl (by kernel_rfl) (by kernel_rfl) (by kernel_rfl) (by kernel_rfl) (fun _ _ _ h => h) (Or.inl ⟨by rfl, ?hy25⟩) (by assumption) ?rest25
          case hy25 =>
            intro w hSw
            go_simp
            try with_reducible rfl
          try simp only [Act.put, List.setIfInBounds_toArray, List.set_cons_zero, List.set_cons_succ, List.getElem_toArray, List.getElem_cons_succ, List.getElem_cons_zero]
          refine wpAnyL_take (i := 10) (v := ?v26) rfl (by kernel_rfl) (by kernel_rfl) (by kernel_rfl) (by kernel_rfl) (fun _ _ _ h => h) (Or.inl ⟨by rfl, ?hy26⟩) (by assumption) ?rest26
          case hy26 =>
            intro w hSw
            go_simp
            try with_reducible rfl
          try simp only [Act.put, List.setIfInBounds_toArray, List.set_cons_zero, List.set_cons_succ, List.getElem_toArray, List.getElem_cons_succ, List.getElem_cons_zero]
          refine wpAnyL_take (i := 11) (v := ?v27) rfl (by kernel_rfl) (by kernel_rfl) (by kernel_rfl) (by kernel_rfl) (fun _ _ _ h => h) (Or.inl ⟨by rfl, ?hy27⟩) (by assumption) ?rest27
          case hy27 =>
            intro w hSw
            (have q := hSw.cell (unhide E2) (fun e => e); go_simp; try with_reducible rfl)
          try simp only [Act.put, List.setIfInBounds_toArray, List.set_cons_zero, List.set_cons_succ, List.getElem_toArray, List.getElem_cons_succ, List.getElem_cons_zero]
          refine wpAnyL_take (i := 12) (v := ?v28) rfl (by kernel_rfl) (by kernel_rfl) (by kernel_rfl) (by kernel_rfl) (fun _ _ _ h => h) (Or.inl ⟨by rfl, ?hy28⟩) (by assumption) ?rest28
          case hy28 =>
            intro w hSw
            go_simp
            try with_reducible rfl
          try simp only [Act.put, List.setIfInBounds_toArray, List.set_cons_zero, List.set_cons_succ, List.getElem_toArray, List.getElem_cons_succ, List.getElem_cons_zero]
          refine wpAnyL_take (i := 13) (v := ?v29) rfl (by kernel_rfl) (by kernel_rfl) (by kernel_rfl) (by kernel_rfl) (fun _ _ _ h => h) (Or.inl ⟨by rfl, ?hy29⟩) (by assumption) ?rest29
          case hy29 =>
            intro w hSw
            go_simp
            try with_reducible rfl
          try simp only [Act.put, List.setIfInBounds_toArray, List.set_cons_zero, List.set_cons_succ, List.getElem_toArray, List.getElem_cons_succ, List.getElem_cons_zero]
          refine wpAnyL_take (i := 14) (v := ?v30) rfl (by kernel_rfl) (by kernel_rfl) (by kernel_rfl) (by kernel_rfl) (fun _ _ _ h => h) (Or.inl ⟨by rfl, ?hy30⟩) (by assumption) ?rest30
          case hy30 =>
            intro w hSw
            go_simp
            try with_reducible rfl
          try simp only [Act.put, List.setIfInBounds_toArray, List.set_cons_zero, List.set_cons_succ, List.getElem_toArray, List.getElem_cons_succ, List.getElem_cons_zero]
          refine wpAnyL_take (i := 15) (v := ?v31) rfl (by kernel_rfl) (by kernel_rfl) (by kernel_rfl) (by kernel_rfl) (fun _ _ _ h => h) (Or.inl ⟨by rfl, ?hy31⟩) (by assumption) ?rest31
          case hy31 =>
            intro w hSw
            (have q := hSw.cell (unhide T2) (fun e => e); go_simp; try with_reducible rfl)
          try simp only [Act.put, List.setIfInBounds_toArray, List.set_cons_zero, List.set_cons_succ, List.getElem_toArray, List.getElem_cons_succ, List.getElem_cons_zero]
          refine wpAnyL_take (i := 16) (v := ?v32) rfl (by kernel_rfl) (by kernel_rfl) (by kernel_rfl) (by kernel_rfl) (fun _ _ _ h => h) (Or.inl ⟨by rfl, ?hy32⟩) (by assumption) ?rest32
          case hy32 =>
            intro w hSw
            go_simp
            try with_reducible rfl
          try simp only [Act.put, List.setIfInBounds_toArray, List.set_cons_zero, List.set_cons_succ, List.getElem_toArray, List.getElem_cons_succ, List.getElem_cons_zero]
          refine wpAnyL_take (i := 17) (v := ?v33) rfl (by kernel_rfl) (by kernel_rfl) (by kernel_rfl) (by kernel_rfl) (fun _ _ _ h => h) (Or.inl ⟨by rfl, ?hy33⟩) (by assumption) ?rest33
          case hy33 =>
            intro w hSw
            go_simp
            try with_reducible rfl
          try simp only [Act.put, List.setIfInBounds_toArray, List.set_cons_zero, List.set_cons_succ, List.getElem_toArray, List.getElem_cons_succ, List.getElem_cons_zero]
          refine wpAnyL_take (i := 18) (v := ?v34) rfl (by kernel_rfl) (by kernel_rfl) (by kernel_rfl) (by kernel_rfl) (fun _ _ _ h => h) (Or.inl ⟨by rfl, ?hy34⟩) (by assumption) ?rest34
          case hy34 =>
            intro w hSw
            (have q := hSw.cell (unhide E3) (fun e => e); go_simp; try with_reducible rfl)
          try simp only [Act.put, List.setIfInBounds_toArray, List.set_cons_zero, List.set_cons_succ, List.getElem_toArray, List.getElem_cons_succ, List.getElem_cons_zero]
          refine wpAnyL_take (i := 19) (v := ?v35) rfl (by kernel_rfl) (by kernel_rfl) (by kernel_rfl) (by kernel_rfl) (fun _ _ _ h => h) (Or.inl ⟨by rfl, ?hy35⟩) (by assumption) ?rest35
          case hy35 =>
            intro w hSw
            go_simp
            try with_reducible rfl
          try simp only [Act.put, List.setIfInBounds_toArray, List.set_cons_zero, List.set_cons_succ, List.getElem_toArray, List.getElem_cons_succ, List.getElem_cons_zero]
          refine wpAnyL_take (i := 20) (v := ?v36) rfl (by kernel_rfl) (by kernel_rfl) (by kernel_rfl) (by kernel_rfl) (fun _ _ _ h => h) (Or.inl ⟨by rfl, ?hy36⟩) (by assumption) ?rest36
          case hy36 =>
            intro w hSw
            go_simp
            try with_reducible rfl
          try simp only [Act.put, List.setIfInBounds_toArray, List.set_cons_zero, List.set_cons_succ, List.getElem_toArray, List.getElem_cons_succ, List.getElem_cons_zero]
          refine wpAnyL_take (i := 21) (v := ?v37) rfl (by kernel_rfl) (by kernel_rfl) (by kernel_rfl) (by kernel_rfl) (fun _ _ _ h => h) (Or.inl ⟨by rfl, ?hy37⟩) (by assumption) ?rest37
          case hy37 =>
            intro w hSw
            go_simp
            try with_reducible rfl
          try simp only [Act.put, List.setIfInBounds_toArray, List.set_cons_zero, List.set_cons_succ, List.getElem_toArray, List.getElem_cons_succ, List.getElem_cons_zero]
          refine wpAnyL_take (i := 22) (v := ?v38) rfl (by kernel_rfl) (by kernel_rfl) (by kernel_rfl) (by kernel_rfl) (fun _ _ _ h => h) (Or.inl ⟨by rfl, ?hy38⟩) (by assumption) ?rest38
          case hy38 =>
            intro w hSw
            (have q := hSw.cell (unhide T3) (fun e => e); go_simp; try with_reducible rfl)
          try simp only [Act.put, List.setIfInBounds_toArray, List.set_cons_zero, List.set_cons_succ, List.getElem_toArray, List.getElem_cons_succ, List.getElem_cons_zero]
          refine wpAnyL_take (i := 23) (v := ?v39) rfl (by kernel_rfl) (by kernel_rfl) (by kernel_rfl) (by kernel_rfl) (fun _ _ _ h => h) (Or.inl ⟨by rfl, ?hy39⟩) (by assumption) ?rest39
          case hy39 =>
            intro w hSw
            go_simp
            try with_reducible rfl
          try simp only [Act.put, List.setIfInBounds_toArray, List.set_cons_zero, List.set_cons_succ, List.getElem_toArray, List.getElem_cons_succ, List.getElem_cons_zero]
          refine wpAnyL_take (i := 24) (v := ?v40) rfl (by kernel_rfl) (by kernel_rfl) (by kernel_rfl) (by kernel_rfl) (fun _ _ _ h => h) (Or.inl ⟨by rfl, ?hy40⟩) (by assumption) ?rest40
          case hy40 =>
            intro w hSw
            go_simp
            try with_reducible rfl
          try simp only [Act.put, List.setIfInBounds_toArray, List.set_cons_zero, List.set_cons_succ, List.getElem_toArray, List.getElem_cons_succ, List.getElem_cons_zero]
          refine wpAnyL_take (i := 25) (v := ?v41) rfl (by kernel_rfl) (by kernel_rfl) (by kernel_rfl) (by kernel_rfl) (fun _ _ _ h => h) (Or.inl ⟨by rfl, ?hy41⟩) (by assumption) ?rest41
          case hy41 =>
            intro w hSw
            (have q := hSw.cell (unhide E0) (fun e => e); go_simp; try with_reducible rfl)
          try simp only [Act.put, List.setIfInBounds_toArray, List.set_cons_zero, List.set_cons_succ, List.getElem_toArray, List.getElem_cons_succ, List.getElem_cons_zero]
          refine wpAnyL_take (i := 26) (v := ?v42) rfl (by kernel_rfl) (by kernel_rfl) (by kernel_rfl) (by kernel_rfl) (fun _ _ _ h => h) (Or.inl ⟨by rfl, ?hy42⟩) (by assumption) ?rest42
          case hy42 =>
            intro w hSw
            go_simp
            try with_reducible rfl
          try simp only [Act.put, List.setIfInBounds_toArray, List.set_cons_zero, List.set_cons_succ, List.getElem_toArray, List.getElem_cons_succ, List.getElem_cons_zero]
          refine wpAnyL_take (i := 27) (v := ?v43) rfl (by kernel_rfl) (by kernel_rfl) (by kernel_rfl) (by kernel_rfl) (fun _ _ _ h => h) (Or.inl ⟨by rfl, ?hy43⟩) (by assumption) ?rest43
          case hy43 =>
            intro w hSw
            go_simp
            try with_reducible rfl
          try simp only [Act.put, List.setIfInBounds_toArray, List.set_cons_zero, List.set_cons_succ, List.getElem_toArray, List.getElem_cons_succ, List.getElem_cons_zero]
          refine wpAnyL_take (i := 28) (v := ?v44) rfl (by kernel_rfl) (by kernel_rfl) (by kernel_rfl) (by kernel_rfl) (fun _ _ _ h => h) (Or.inl ⟨by rfl, ?hy44⟩) (by assumption) ?rest44
          case hy44 =>
            intro w hSw
            go_simp
            try with_reducible rfl
          try simp only [Act.put, List.setIfInBounds_toArray, List.set_cons_zero, List.set_cons_succ, List.getElem_toArray, List.getElem_cons_succ, List.getElem_cons_zero]
          refine wpAnyL_take (i := 29) (v := ?v45) rfl (by kernel_rfl) (by kernel_rfl) (by kernel_rfl) (by kernel_rfl) (fun _ _ _ h => h) (Or.inl ⟨by rfl, ?hy45⟩) (by assumption) ?rest45
          case hy45 =>
            intro w hSw
            (have q := hSw.cell (unhide T0) (fun e => e); go_simp; try with_reducible rfl)
          try simp only [Act.put, List.setIfInBounds_toArray, List.set_cons_zero, List.set_cons_succ, List.getElem_toArray, List.getElem_cons_succ, List.getElem_cons_zero]
          refine wpAnyL_take (i := 30) (v := ?v46) rfl (by kernel_rfl) (by kernel_rfl) (by kernel_rfl) (by kernel_rfl) (fun _ _ _ h => h) (Or.inl ⟨by rfl, ?hy46⟩) (by assumption) ?rest46
          case hy46 =>
            intro w hSw
            go_simp
            try with_reducible rfl
          try simp only [Act.put, List.setIfInBounds_toArray, List.set_cons_zero, List.set_cons_succ, List.getElem_toArray, List.getElem_cons_succ, List.getElem_cons_zero]
          refine wpAnyL_ready (rs := [31]) (by kernel_rfl) (by simp) ?_
          refine AllReadyL.last rfl (fun K hK => ?_)
          refine step_store_mid rfl 47 (.tmp 8) (.tmp 99) rfl b8 0 (([z, y2, y3, y0] : List UInt8).map bv).toArray rfl rfl (unhide HT) (unhide HZ4) (ag_one _) ?_
          refine hK.out _ _ (trivial) (fun hHeld => ?_)
          clear hK K
          try simp only [Act.put, List.setIfInBounds_toArray, List.set_cons_zero, List.set_cons_succ, List.getElem_toArray, List.getElem_cons_succ, List.getElem_cons_zero]
          refine wpAnyL_done (by kernel_rfl) ?_ _
          obtain ⟨wc, ec, ac, oc⟩ := restored4 wb.drew b8 [P0, P1, P2, P3] [z, y2, y3, y0] (unhide AB) rfl
          first
            | rw [← ec]
            | (simp only [List.toList_toArray]; rw [← ec])
          have AC := hide ac
          have OC : Hid (Only (fun j => j = b8) wb wc) := ((Only.refl (fun j => j = b8) wb).drew).trans oc (fun _ _ e => e)
          obtain ⟨Wd, hWd⟩ : ∃ Wd : List UInt8, Wd = [z, y2, y3, y0] := ⟨_, rfl⟩
          rw [unhide HWW] at HN1
          rw [← hWd] at AC HN1
          have hWl : Wd.length = 4 := by rw [hWd]; rfl
          have HWL4 := hide hWl
          clear ec ac oc hWd hWl HT HZ4 E0 E1 E2 E3 T0 T1 T2 T3 AB HWW hxb
          have HRT : Hid (∀ W, Calls Try.prog 15 #[.int .u8 (mk.toNat : Int), .int .u8 2] W fun e w' => e = .returned (.int .u8 ((mul mk 2).toNat : Int)) ∧ w' = W) := fun W => rtimes_any mk 2 W
          generalize mul mk 2 = mk2 at *
          go_wp2_with fail
          refine (unhide HRT _).mono ?_
          rintro e wt ⟨rfl, hwt⟩
          rw [hwt]
          clear hwt wt HRT
          have HMD : Hid ((rw' 16 key (k + 1)).2 = mk2) := HN2
          obtain ⟨NX, hNX⟩ : ∃ NX, NX = next 16 ws Wd 4 := ⟨_, rfl⟩
          have hNl : NX.length = 4 := by rw [hNX]; exact next_length _ _ _ _
          have hNat : ∀ j, j < 4 → NX[j]? = some (gt Wd j ^^^ gt ws (4 * (k - 4) + j)) := fun j hj => by
            rw [hNX, next_at 16 ws Wd j hj, unhide HWL, UInt8.xor_comm, show 4 * k - 16 + j = 4 * (k - 4) + j by omega]
          have HNA := hide hNat
          have HND : Hid ((rw' 16 key (k + 1)).1 = ws ++ NX) := by rw [hNX]; exact HN1
          have HNL := hide hNl
          have OBC : Hid (Only (fun j => j = b8) wa wc) := (unhide OB).trans (unhide OC) (fun _ _ e => e)
          have HCC := hide ((unhide OC).cell (unhide HCB) (fun e => hne8 e.symm))
          clear hNX hNl hNat HN1 HCB
          go_wp2
          go_loopw [9] (fun i wq => ∃ j : Nat, j ≤ 4 ∧ i = .int .i64 j ∧ Hid (Arr wq b8 47 (mixd NX Wd j)) ∧ Hid (Only (fun x => x = b8) wc wq)) (fun i _ => 4 - (intOf i).toNat)
          case atStart => exact ⟨0, Nat.zero_le _, rfl, by rw [mixd_zero]; exact AC, Only.refl _ _⟩
          case round =>
            rename World => wq
            obtain ⟨j, hj, rfl, hat, hot⟩ := hrel
            by_cases hjt : j < 4
            · have hm0 := mixd_at NX Wd 4 j (unhide HNL) (unhide HWL4) hjt
              rw [gt_some Wd j (by have := unhide HWL4; omega)] at hm0
              have HCA := hide ((unhide hat).cell j _ hm0)
              have hf8 := (unhide hat).free j
              have hw2 := (unhide hat).set j (gt Wd j ^^^ gt ws (4 * (k - 4) + j))
              rw [mixd_set _ _ 4 j (unhide HNL) (unhide HWL4) hjt _ (unhide HNA j hjt)] at hw2
              have HWn := hide hw2
              have HOn := hide ((unhide hot).here j (.int .u8 ((gt Wd j ^^^ gt ws (4 * (k - 4) + j)).toNat : Int)))
              have hx := xor_bv (gt Wd j) (gt ws (4 * (k - 4) + j))
              have HC0 := hide ((unhide hot).cell (unhide HCC) (fun e => hne8 e.symm))
              have hgc : wq.cell? ⟨g, (k - 4) * 4 + j, none⟩ = some (.int .u8 ((gt ws (4 * (k - 4) + j)).toNat : Int)) := (unhide hot).cell ((unhide OBC).cell ((unhide OA).cell (word_cell (unhide HOWN) (unhide HWL) (k - 4) j (by omega) hjt) (fun e => e)) hg8) hg8
              have HGC := hide hgc
              obtain ⟨kn, hkn2⟩ : ∃ kn, kn = k - 4 := ⟨_, rfl⟩
              have M5 : Hid (IntKind.i64.wrap ((k : Int) - 4) = (kn : Int)) := by show _ = _; rw [wrap_small _ (by omega) (by omega)]; omega
              have hknk : (kn : Int) < (k : Int) := by omega
              rw [← hkn2] at HGC HWn HOn hx
              clear hm0 hat hot hw2 hgc hkn2
              generalize gt Wd j ^^^ gt ws (4 * kn + j) = z' at *
              generalize gt Wd j = x' at *
              generalize gt ws (4 * kn + j) = y' at *
              have hj4 : (j : Int) < 4 := by omega
              go_wp2_with fail
              refine wp_region_last_drew (S := (fun w' => Only (fun _ => False) wq w')) 17 (by kernel_rfl) ((Only.refl _ _).drew) (fun hHeld => ?_)
              refine wpAnyL_take (i := 0) (v := ?v47) rfl (by kernel_rfl) (by kernel_rfl) (by kernel_rfl) (by kernel_rfl) (fun _ _ _ h => h) (Or.inl ⟨by rfl, ?hy47⟩) (by assumption) ?rest47
              case hy47 =>
                intro w hSw
                go_simp
                try with_reducible rfl
              try simp only [Act.put, List.setIfInBounds_toArray, List.set_cons_zero, List.set_cons_succ, List.getElem_toArray, List.getElem_cons_succ, List.getElem_cons_zero]
              refine wpAnyL_take (i := 1) (v := ?v48) rfl (by kernel_rfl) (by kernel_rfl) (by kernel_rfl) (by kernel_rfl) (fun _ _ _ h => h) (Or.inl ⟨by rfl, ?hy48⟩) (by assumption) ?rest48
              case hy48 =>
                intro w hSw
                go_simp
                try with_reducible rfl
              try simp only [Act.put, List.setIfInBounds_toArray, List.set_cons_zero, List.set_cons_succ, List.getElem_toArray, List.getElem_cons_succ, List.getElem_cons_zero]
              refine wpAnyL_take (i := 2) (v := ?v49) rfl (by kernel_rfl) (by kernel_rfl) (by kernel_rfl) (by kernel_rfl) (fun _ _ _ h => h) (Or.inl ⟨by rfl, ?hy49⟩) (by assumption) ?rest49
              case hy49 =>
                intro w hSw
                go_simp
                try with_reducible rfl
              try simp only [Act.put, List.setIfInBounds_toArray, List.set_cons_zero, List.set_cons_succ, List.getElem_toArray, List.getElem_cons_succ, List.getElem_cons_zero]
              refine wpAnyL_take (i := 3) (v := ?v50) rfl (by kernel_rfl) (by kernel_rfl) (by kernel_rfl) (by kernel_rfl) (fun _ _ _ h => h) (Or.inl ⟨by rfl, ?hy50⟩) (by assumption) ?rest50
              case hy50 =>
                intro w hSw
                (have q := hSw.cell (unhide HCA) (fun e => e); go_simp; try with_reducible rfl)
              try simp only [Act.put, List.setIfInBounds_toArray, List.set_cons_zero, List.set_cons_succ, List.getElem_toArray, List.getElem_cons_succ, List.getElem_cons_zero]
              refine wpAnyL_take (i := 4) (v := ?v51) rfl (by kernel_rfl) (by kernel_rfl) (by kernel_rfl) (by kernel_rfl) (fun _ _ _ h => h) (Or.inl ⟨by rfl, ?hy51⟩) (by assumption) ?rest51
              case hy51 =>
                intro w hSw
                go_simp
                try with_reducible rfl
              try simp only [Act.put, List.setIfInBounds_toArray, List.set_cons_zero, List.set_cons_succ, List.getElem_toArray, List.getElem_cons_succ, List.getElem_cons_zero]
              refine wpAnyL_take (i := 5) (v := ?v52) rfl (by kernel_rfl) (by kernel_rfl) (by kernel_rfl) (by kernel_rfl) (fun _ _ _ h => h) (Or.inl ⟨by rfl, ?hy52⟩) (by assumption) ?rest52
              case hy52 =>
                intro w hSw
                go_simp
                try with_reducible rfl
              try simp only [Act.put, List.setIfInBounds_toArray, List.set_cons_zero, List.set_cons_succ, List.getElem_toArray, List.getElem_cons_succ, List.getElem_cons_zero]
              refine wpAnyL_take (i := 6) (v := ?v53) rfl (by kernel_rfl) (by kernel_rfl) (by kernel_rfl) (by kernel_rfl) (fun _ _ _ h => h) (Or.inl ⟨by rfl, ?hy53⟩) (by assumption) ?rest53
              case hy53 =>
                intro w hSw
                go_simp
                try with_reducible rfl
              try simp only [Act.put, List.setIfInBounds_toArray, List.set_cons_zero, List.set_cons_succ, List.getElem_toArray, List.getElem_cons_succ, List.getElem_cons_zero]
              refine wpAnyL_take (i := 7) (v := ?v54) rfl (by kernel_rfl) (by kernel_rfl) (by kernel_rfl) (by kernel_rfl) (fun _ _ _ h => h) (Or.inl ⟨by rfl, ?hy54⟩) (by assumption) ?rest54
              case hy54 =>
                intro w hSw
                (have q := hSw.cell (unhide HC0) (fun e => e); go_simp; try with_reducible rfl)
              try simp only [Act.put, List.setIfInBounds_toArray, List.set_cons_zero, List.set_cons_succ, List.getElem_toArray, List.getElem_cons_succ, List.getElem_cons_zero]
              refine wpAnyL_take (i := 8) (v := ?v55) rfl (by kernel_rfl) (by kernel_rfl) (by kernel_rfl) (by kernel_rfl) (fun _ _ _ h => h) (Or.inl ⟨by rfl, ?hy55⟩) (by assumption) ?rest55
              case hy55 =>
                intro w hSw
                go_simp
                try with_reducible rfl
              try simp only [Act.put, List.setIfInBounds_toArray, List.set_cons_zero, List.set_cons_succ, List.getElem_toArray, List.getElem_cons_succ, List.getElem_cons_zero]
              refine wpAnyL_take (i := 9) (v := ?v56) rfl (by kernel_rfl) (by kernel_rfl) (by kernel_rfl) (by kernel_rfl) (fun _ _ _ h => h) (Or.inl ⟨by rfl, ?hy56⟩) (by assumption) ?rest56
              case hy56 =>
                intro w hSw
                go_simp
                try with_reducible rfl
              try simp only [Act.put, List.setIfInBounds_toArray, List.set_cons_zero, List.set_cons_succ, List.getElem_toArray, List.getElem_cons_succ, List.getElem_cons_zero]
              refine wpAnyL_take (i := 10) (v := ?v57) rfl (by kernel_rfl) (by kernel_rfl) (by kernel_rfl) (by kernel_rfl) (fun _ _ _ h => h) (Or.inl ⟨by rfl, ?hy57⟩) (by assumption) ?rest57
              case hy57 =>
                intro w hSw
                (go_simp; rw [unhide M5]; try with_reducible rfl)
              try simp only [Act.put, List.setIfInBounds_toArray, List.set_cons_zero, List.set_cons_succ, List.getElem_toArray, List.getElem_cons_succ, List.getElem_cons_zero]
              refine wpAnyL_take (i := 11) (v := ?v58) rfl (by kernel_rfl) (by kernel_rfl) (by kernel_rfl) (by kernel_rfl) (fun _ _ _ h => h) (Or.inl ⟨by rfl, ?hy58⟩) (by assumption) ?rest58
              case hy58 =>
                intro w hSw
                go_simp
                try with_reducible rfl
              try simp only [Act.put, List.setIfInBounds_toArray, List.set_cons_zero, List.set_cons_succ, List.getElem_toArray, List.getElem_cons_succ, List.getElem_cons_zero]
              refine wpAnyL_take (i := 12) (v := ?v59) rfl (by kernel_rfl) (by kernel_rfl) (by kernel_rfl) (by kernel_rfl) (fun _ _ _ h => h) (Or.inl ⟨by rfl, ?hy59⟩) (by assumption) ?rest59
              case hy59 =>
                intro w hSw
                go_simp
                try with_reducible rfl
              try simp only [Act.put, List.setIfInBounds_toArray, List.set_cons_zero, List.set_cons_succ, List.getElem_toArray, List.getElem_cons_succ, List.getElem_cons_zero]
              refine wpAnyL_take (i := 13) (v := ?v60) rfl (by kernel_rfl) (by kernel_rfl) (by kernel_rfl) (by kernel_rfl) (fun _ _ _ h => h) (Or.inl ⟨by rfl, ?hy60⟩) (by assumption) ?rest60
              case hy60 =>
                intro w hSw
                go_simp
                try with_reducible rfl
              try simp only [Act.put, List.setIfInBounds_toArray, List.set_cons_zero, List.set_cons_succ, List.getElem_toArray, List.getElem_cons_succ, List.getElem_cons_zero]
              refine wpAnyL_take (i := 14) (v := ?v61) rfl (by kernel_rfl) (by kernel_rfl) (by kernel_rfl) (by kernel_rfl) (fun _ _ _ h => h) (Or.inl ⟨by rfl, ?hy61⟩) (by assumption) ?rest61
              case hy61 =>
                intro w hSw
                (have q := hSw.cell (unhide HGC) (fun e => e); go_simp; try with_reducible rfl)
              try simp only [Act.put, List.setIfInBounds_toArray, List.set_cons_zero, List.set_cons_succ, List.getElem_toArray, List.getElem_cons_succ, List.getElem_cons_zero]
              refine wpAnyL_take (i := 15) (v := ?v62) rfl (by kernel_rfl) (by kernel_rfl) (by kernel_rfl) (by kernel_rfl) (fun _ _ _ h => h) (Or.inl ⟨by rfl, ?hy62⟩) (by assumption) ?rest62
              case hy62 =>
                intro w hSw
                go_simp
                try with_reducible rfl
              try simp only [Act.put, List.setIfInBounds_toArray, List.set_cons_zero, List.set_cons_succ, List.getElem_toArray, List.getElem_cons_succ, List.getElem_cons_zero]
              refine wpAnyL_take (i := 16) (v := ?v63) rfl (by kernel_rfl) (by kernel_rfl) (by kernel_rfl) (by kernel_rfl) (fun _ _ _ h => h) (Or.inl ⟨by rfl, ?hy63⟩) (by assumption) ?rest63
              case hy63 =>
                intro w hSw
                go_simp
                try with_reducible rfl
              try simp only [Act.put, List.setIfInBounds_toArray, List.set_cons_zero, List.set_cons_succ, List.getElem_toArray, List.getElem_cons_succ, List.getElem_cons_zero]
              have hc8 := unhide HCA
              refine wpAnyL_ready (rs := [17]) (by kernel_rfl) (by simp) ?_
              refine AllReadyL.last rfl (fun K hK => ?_)
              go_simp
              refine hK.out _ _ (trivial) (fun hHeld => ?_)
              clear hK K
              try simp only [Act.put, List.setIfInBounds_toArray, List.set_cons_zero, List.set_cons_succ, List.getElem_toArray, List.getElem_cons_succ, List.getElem_cons_zero]
              refine wpAnyL_done (by kernel_rfl) ?_ _
              go_wp2
              go_roundw
              case rel => exact ⟨j + 1, by omega, by go_num, unhide HWn, (unhide HOn).drew⟩
              case measure => simp [intOf]; omega
            · obtain rfl : j = 4 := by omega
              have hat2 := unhide hat
              rw [mixd_all _ _ 4 (unhide HNL) (unhide HWL4)] at hat2
              obtain ⟨N, hN⟩ : ∃ N, N = NX := ⟨_, rfl⟩
              rw [← hN] at hat2 HND HNL
              obtain ⟨wd, hwd⟩ : ∃ wd, wd = wq := ⟨_, rfl⟩
              rw [← hwd] at hat2 hot ⊢
              have A9 := hide hat2
              have O9 : Hid (Only (fun j => j = b8) wa wd) := (unhide OBC).trans (unhide hot) (fun _ _ e => e)
              have hmk' : mk = mk := rfl
              clear hN hat hat2 hwd HNA
              have HMK' := hide hmk'
              clear hmk'
              have hgb : ∀ x, (Value.slice (some ⟨g, 0, none⟩) k cap).ownBlock = some x → w6.heap.size ≤ x ∧ x < wr.heap.size := (unhide HOWN).lt
              have OWD : Hid (Only (fun j => j = cb) w6 wd) := (unhide OWA).trans (unhide O9) (fun j hj e => by omega)
              have hblkd : wd.heap[cb]? = some (.cells ([Value.slice (some ⟨g, 0, none⟩) k cap] ++ (A.map bv ++ B.map bv)).toArray 44 (0, 0)) := (unhide O9).heap ((unhide OA).heap (unhide HBLK) (fun e => e)) (fun e => hne8 e.symm)
              have hownd : wd.drew.ownsRow w6.heap.size 47 4 (.slice (some ⟨g, 0, none⟩) k cap) k (ws.map bv) := (unhide O9).owns ((unhide OA).owns (unhide HOWN) (fun _ _ e => e)) (fun x hx e => by have := (hgb x hx).2; omega)
              have hc0d := rc_zero hblkd
              have hnc : ¬ ((Value.slice (some ⟨g, 0, none⟩) k cap).ownBlock = some cb) := fun e => by have := (hgb cb e).1; omega
              have hnb : ¬ ((Value.slice (some ⟨g, 0, none⟩) k cap).ownBlock = some b8) := fun e => by have := (hgb b8 e).2; omega
              have hwd6 := (unhide OWD).size
              obtain ⟨g2, cap2, w3, hrun, own3, op3⟩ := push4 wd.drew w6.heap.size (.slice (some ⟨g, 0, none⟩) k cap) k ws N (unhide HNL) hownd (by omega) hwd6
              have hblk3 : w3.heap[cb]? = some (.cells ([Value.slice (some ⟨g, 0, none⟩) k cap] ++ (A.map bv ++ B.map bv)).toArray 44 (0, 0)) := op3.heap hblkd hnc
              have hc3 := rc_zero hblk3
              have hf3 : w3.frozen? ⟨cb, 0, none⟩ = false := by simp [World.frozen?, hblk3]
              have HRUN := hide hrun
              have HB3 : Hid ((w3.setCell ⟨cb, 0, none⟩ (.slice (some ⟨g2, 0, none⟩) (k + 1) cap2)).heap[cb]? = some (.cells ([Value.slice (some ⟨g2, 0, none⟩) (k + 1) cap2] ++ (A.map bv ++ B.map bv)).toArray 44 (0, 0))) := by
                have h := two_setCell (i := 0) (u := Value.slice (some ⟨g2, 0, none⟩) (k + 1) cap2) hblk3
                show _ = _
                rw [h]
                simp
              have OW3 : Hid (Only (fun j => j = cb) w6 w3) := ((unhide OWD).drew).trans op3 (fun j hj e => by have := (hgb j e).1; omega)
              have HOW3 : Hid ((w3.setCell ⟨cb, 0, none⟩ (.slice (some ⟨g2, 0, none⟩) (k + 1) cap2)).ownsRow w6.heap.size 47 4 (.slice (some ⟨g2, 0, none⟩) (k + 1) cap2) (k + 1) ((rw' 16 key (k + 1)).1.map bv)) := by
                rw [unhide HND]
                exact ((Only.refl (fun j => j = cb) w3).here 0 _).owns own3 (fun x hx e => by have := (own3.lt x hx).1; omega)
              have HO3 : Hid (Only (fun j => j = cb) w6 (w3.setCell ⟨cb, 0, none⟩ (.slice (some ⟨g2, 0, none⟩) (k + 1) cap2))) := (unhide OW3).here 0 _
              have HC0D := hide hc0d
              have OP3 : Hid (Only (fun j => (Value.slice (some ⟨g, 0, none⟩) k cap).ownBlock = some j) wd w3) := ((Only.refl (fun j => (Value.slice (some ⟨g, 0, none⟩) k cap).ownBlock = some j) wd).drew).trans op3 (fun _ _ e => e)
              clear hrun own3 op3 hblkd hblk3 hownd hc0d hwd6
              go_wp2_with fail
              refine wp_region_last_drew (S := (fun w' => Only (fun j => (Value.slice (some ⟨g, 0, none⟩) k cap).ownBlock = some j) wd w')) 10 (by kernel_rfl) ((Only.refl _ _).drew) (fun hHeld => ?_)
              refine wpAnyL_take (i := 0) (v := ?v64) rfl (by kernel_rfl) (by kernel_rfl) (by kernel_rfl) (by kernel_rfl) (fun _ _ _ h => h) (Or.inl ⟨by rfl, ?hy64⟩) (by assumption) ?rest64
              case hy64 =>
                intro w hSw
                go_simp
                try with_reducible rfl
              try simp only [Act.put, List.setIfInBounds_toArray, List.set_cons_zero, List.set_cons_succ, List.getElem_toArray, List.getElem_cons_succ, List.getElem_cons_zero]
              refine wpAnyL_take (i := 1) (v := ?v65) rfl (by kernel_rfl) (by kernel_rfl) (by kernel_rfl) (by kernel_rfl) (fun _ _ _ h => h) (Or.inl ⟨by rfl, ?hy65⟩) (by assumption) ?rest65
              case hy65 =>
                intro w hSw
                go_simp
                try with_reducible rfl
              try simp only [Act.put, List.setIfInBounds_toArray, List.set_cons_zero, List.set_cons_succ, List.getElem_toArray, List.getElem_cons_succ, List.getElem_cons_zero]
              refine wpAnyL_take (i := 2) (v := ?v66) rfl (by kernel_rfl) (by kernel_rfl) (by kernel_rfl) (by kernel_rfl) (fun _ _ _ h => h) (Or.inl ⟨by rfl, ?hy66⟩) (by assumption) ?rest66
              case hy66 =>
                intro w hSw
                go_simp
                try with_reducible rfl
              try simp only [Act.put, List.setIfInBounds_toArray, List.set_cons_zero, List.set_cons_succ, List.getElem_toArray, List.getElem_cons_succ, List.getElem_cons_zero]
              refine wpAnyL_take (i := 3) (v := ?v67) rfl (by kernel_rfl) (by kernel_rfl) (by kernel_rfl) (by kernel_rfl) (fun _ _ _ h => h) (Or.inl ⟨by rfl, ?hy67⟩) (by assumption) ?rest67
              case hy67 =>
                intro w hSw
                go_simp
                try with_reducible rfl
              try simp only [Act.put, List.setIfInBounds_toArray, List.set_cons_zero, List.set_cons_succ, List.getElem_toArray, List.getElem_cons_succ, List.getElem_cons_zero]
              refine wpAnyL_take (i := 4) (v := ?v68) rfl (by kernel_rfl) (by kernel_rfl) (by kernel_rfl) (by kernel_rfl) (fun _ _ _ h => h) (Or.inl ⟨by rfl, ?hy68⟩) (by assumption) ?rest68
              case hy68 =>
                intro w hSw
                (have q := hSw.cell (unhide HC0D) hnc; go_simp; try with_reducible rfl)
              try simp only [Act.put, List.setIfInBounds_toArray, List.set_cons_zero, List.set_cons_succ, List.getElem_toArray, List.getElem_cons_succ, List.getElem_cons_zero]
              refine wpAnyL_take (i := 5) (v := ?v69) rfl (by kernel_rfl) (by kernel_rfl) (by kernel_rfl) (by kernel_rfl) (fun _ _ _ h => h) (Or.inl ⟨by rfl, ?hy69⟩) (by assumption) ?rest69
              case hy69 =>
                intro w hSw
                (refine exec_load_mid 47 (.tmp 8) ?_ b8 0 ?_ (N.map bv) _ (range_only (unhide A9).range hSw hnb) Try.underW rfl (by rw [Try.sizeW]; simp [unhide HNL]) <;> rfl)
              try simp only [Act.put, List.setIfInBounds_toArray, List.set_cons_zero, List.set_cons_succ, List.getElem_toArray, List.getElem_cons_succ, List.getElem_cons_zero]
              refine wpAnyL_ready (rs := [6]) (by kernel_rfl) (by simp) ?_
              refine AllReadyL.cons rfl (fun K hK => ?_) AllReadyL.nil
              refine step_rowW rfl (.tmp 165) rfl N (unhide HNL) rfl ?_
              refine hK.out _ _ ((((Only.refl _ wd).drew).alloc _)) (fun hHeld => ?_)
              clear hK K
              try simp only [Act.put, List.setIfInBounds_toArray, List.set_cons_zero, List.set_cons_succ, List.getElem_toArray, List.getElem_cons_succ, List.getElem_cons_zero]
              refine wpAnyL_ready (rs := [7]) (by kernel_rfl) (by simp) ?_
              refine AllReadyL.cons rfl (fun K hK => ?_) AllReadyL.nil
              refine step_append_run' rfl (.tmp 164) (.tmp 166) 41 rfl _ _ _ _ rfl rfl (unhide HRUN) ?_
              refine hK.out _ _ ((unhide OP3)) (fun hHeld => ?_)
              clear hK K
              try simp only [Act.put, List.setIfInBounds_toArray, List.set_cons_zero, List.set_cons_succ, List.getElem_toArray, List.getElem_cons_succ, List.getElem_cons_zero]
              refine wpAnyL_ready (rs := [8]) (by kernel_rfl) (by simp) ?_
              refine AllReadyL.cons rfl (fun K hK => ?_) AllReadyL.nil
              go_simp
              refine hK.out _ _ ((unhide OP3)) (fun hHeld => ?_)
              clear hK K
              try simp only [Act.put, List.setIfInBounds_toArray, List.set_cons_zero, List.set_cons_succ, List.getElem_toArray, List.getElem_cons_succ, List.getElem_cons_zero]
              refine wpAnyL_take (i := 9) (v := ?v70) rfl (by kernel_rfl) (by kernel_rfl) (by kernel_rfl) (by kernel_rfl) (fun _ _ _ h => h) (Or.inl ⟨by rfl, ?hy70⟩) (by assumption) ?rest70
              case hy70 =>
                intro w hSw
                go_simp
                try with_reducible rfl
              try simp only [Act.put, List.setIfInBounds_toArray, List.set_cons_zero, List.set_cons_succ, List.getElem_toArray, List.getElem_cons_succ, List.getElem_cons_zero]
              refine wpAnyL_ready (rs := [10]) (by kernel_rfl) (by simp) ?_
              refine AllReadyL.last rfl (fun K hK => ?_)
              go_simp
              refine hK.out _ _ (trivial) (fun hHeld => ?_)
              clear hK K
              try simp only [Act.put, List.setIfInBounds_toArray, List.set_cons_zero, List.set_cons_succ, List.getElem_toArray, List.getElem_cons_succ, List.getElem_cons_zero]
              refine wpAnyL_done (by kernel_rfl) ?_ _
              go_wp2
              go_roundw
              case rel => exact ⟨k + 1, by omega, by go_num, by rw [unhide HMD], some ⟨g2, 0, none⟩, cap2, unhide HB3, unhide HOW3, unhide HO3⟩
              case measure => simp [intOf]; omega
        · rw [if_neg hd0] at HWW HN2
          rw [if_neg (show ¬ (16 = 32 ∧ d = 4) from fun e => absurd e.1 (by decide))] at HWW
          have hdb : ((d : Int) == 0) = false := by simp; omega
          clear hd0 hd
          obtain ⟨Wd, hWd⟩ : ∃ Wd : List UInt8, Wd = [P0, P1, P2, P3] := ⟨_, rfl⟩
          rw [unhide HWW] at HN1
          rw [← hWd] at AB HN1
          have hWl : Wd.length = 4 := by rw [hWd]; rfl
          have HWL4 := hide hWl
          have AC := AB
          have OC : Hid (Only (fun j => j = b8) wb wb) := Only.refl _ _
          obtain ⟨wc, hwc⟩ : ∃ wc, wc = wb := ⟨_, rfl⟩
          have HQC := hide hwc
          clear hWd hWl E0 E1 E2 E3 T0 T1 T2 T3 AB HWW hxb hwc
          have HMD : Hid ((rw' 16 key (k + 1)).2 = mk) := HN2
          obtain ⟨NX, hNX⟩ : ∃ NX, NX = next 16 ws Wd 4 := ⟨_, rfl⟩
          have hNl : NX.length = 4 := by rw [hNX]; exact next_length _ _ _ _
          have hNat : ∀ j, j < 4 → NX[j]? = some (gt Wd j ^^^ gt ws (4 * (k - 4) + j)) := fun j hj => by
            rw [hNX, next_at 16 ws Wd j hj, unhide HWL, UInt8.xor_comm, show 4 * k - 16 + j = 4 * (k - 4) + j by omega]
          have HNA := hide hNat
          have HND : Hid ((rw' 16 key (k + 1)).1 = ws ++ NX) := by rw [hNX]; exact HN1
          have HNL := hide hNl
          have OBC : Hid (Only (fun j => j = b8) wa wb) := (unhide OB).trans (unhide OC) (fun _ _ e => e)
          have HCC := hide ((unhide OC).cell (unhide HCB) (fun e => hne8 e.symm))
          clear hNX hNl hNat HN1 HCB
          go_wp2
          go_loopw [9] (fun i wq => ∃ j : Nat, j ≤ 4 ∧ i = .int .i64 j ∧ Hid (Arr wq b8 47 (mixd NX Wd j)) ∧ Hid (Only (fun x => x = b8) wb wq)) (fun i _ => 4 - (intOf i).toNat)
          case atStart => exact ⟨0, Nat.zero_le _, rfl, by rw [mixd_zero]; exact AC, Only.refl _ _⟩
          case round =>
            rename World => wq
            obtain ⟨j, hj, rfl, hat, hot⟩ := hrel
            by_cases hjt : j < 4
            · have hm0 := mixd_at NX Wd 4 j (unhide HNL) (unhide HWL4) hjt
              rw [gt_some Wd j (by have := unhide HWL4; omega)] at hm0
              have HCA := hide ((unhide hat).cell j _ hm0)
              have hf8 := (unhide hat).free j
              have hw2 := (unhide hat).set j (gt Wd j ^^^ gt ws (4 * (k - 4) + j))
              rw [mixd_set _ _ 4 j (unhide HNL) (unhide HWL4) hjt _ (unhide HNA j hjt)] at hw2
              have HWn := hide hw2
              have HOn := hide ((unhide hot).here j (.int .u8 ((gt Wd j ^^^ gt ws (4 * (k - 4) + j)).toNat : Int)))
              have hx := xor_bv (gt Wd j) (gt ws (4 * (k - 4) + j))
              have HC0 := hide ((unhide hot).cell (unhide HCC) (fun e => hne8 e.symm))
              have hgc : wq.cell? ⟨g, (k - 4) * 4 + j, none⟩ = some (.int .u8 ((gt ws (4 * (k - 4) + j)).toNat : Int)) := (unhide hot).cell ((unhide OBC).cell ((unhide OA).cell (word_cell (unhide HOWN) (unhide HWL) (k - 4) j (by omega) hjt) (fun e => e)) hg8) hg8
              have HGC := hide hgc
              obtain ⟨kn, hkn2⟩ : ∃ kn, kn = k - 4 := ⟨_, rfl⟩
              have M5 : Hid (IntKind.i64.wrap ((k : Int) - 4) = (kn : Int)) := by show _ = _; rw [wrap_small _ (by omega) (by omega)]; omega
              have hknk : (kn : Int) < (k : Int) := by omega
              rw [← hkn2] at HGC HWn HOn hx
              clear hm0 hat hot hw2 hgc hkn2
              generalize gt Wd j ^^^ gt ws (4 * kn + j) = z' at *
              generalize gt Wd j = x' at *
              generalize gt ws (4 * kn + j) = y' at *
              have hj4 : (j : Int) < 4 := by omega
              go_wp2_with fail
              refine wp_region_last_drew (S := (fun w' => Only (fun _ => False) wq w')) 17 (by kernel_rfl) ((Only.refl _ _).drew) (fun hHeld => ?_)
              refine wpAnyL_take (i := 0) (v := ?v71) rfl (by kernel_rfl) (by kernel_rfl) (by kernel_rfl) (by kernel_rfl) (fun _ _ _ h => h) (Or.inl ⟨by rfl, ?hy71⟩) (by assumption) ?rest71
              case hy71 =>
                intro w hSw
                go_simp
                try with_reducible rfl
              try simp only [Act.put, List.setIfInBounds_toArray, List.set_cons_zero, List.set_cons_succ, List.getElem_toArray, List.getElem_cons_succ, List.getElem_cons_zero]
              refine wpAnyL_take (i := 1) (v := ?v72) rfl (by kernel_rfl) (by kernel_rfl) (by kernel_rfl) (by kernel_rfl) (fun _ _ _ h => h) (Or.inl ⟨by rfl, ?hy72⟩) (by assumption) ?rest72
              case hy72 =>
                intro w hSw
                go_simp
                try with_reducible rfl
              try simp only [Act.put, List.setIfInBounds_toArray, List.set_cons_zero, List.set_cons_succ, List.getElem_toArray, List.getElem_cons_succ, List.getElem_cons_zero]
              refine wpAnyL_take (i := 2) (v := ?v73) rfl (by kernel_rfl) (by kernel_rfl) (by kernel_rfl) (by kernel_rfl) (fun _ _ _ h => h) (Or.inl ⟨by rfl, ?hy73⟩) (by assumption) ?rest73
              case hy73 =>
                intro w hSw
                go_simp
                try with_reducible rfl
              try simp only [Act.put, List.setIfInBounds_toArray, List.set_cons_zero, List.set_cons_succ, List.getElem_toArray, List.getElem_cons_succ, List.getElem_cons_zero]
              refine wpAnyL_take (i := 3) (v := ?v74) rfl (by kernel_rfl) (by kernel_rfl) (by kernel_rfl) (by kernel_rfl) (fun _ _ _ h => h) (Or.inl ⟨by rfl, ?hy74⟩) (by assumption) ?rest74
              case hy74 =>
                intro w hSw
                (have q := hSw.cell (unhide HCA) (fun e => e); go_simp; try with_reducible rfl)
              try simp only [Act.put, List.setIfInBounds_toArray, List.set_cons_zero, List.set_cons_succ, List.getElem_toArray, List.getElem_cons_succ, List.getElem_cons_zero]
              refine wpAnyL_take (i := 4) (v := ?v75) rfl (by kernel_rfl) (by kernel_rfl) (by kernel_rfl) (by kernel_rfl) (fun _ _ _ h => h) (Or.inl ⟨by rfl, ?hy75⟩) (by assumption) ?rest75
              case hy75 =>
                intro w hSw
                go_simp
                try with_reducible rfl
              try simp only [Act.put, List.setIfInBounds_toArray, List.set_cons_zero, List.set_cons_succ, List.getElem_toArray, List.getElem_cons_succ, List.getElem_cons_zero]
              refine wpAnyL_take (i := 5) (v := ?v76) rfl (by kernel_rfl) (by kernel_rfl) (by kernel_rfl) (by kernel_rfl) (fun _ _ _ h => h) (Or.inl ⟨by rfl, ?hy76⟩) (by assumption) ?rest76
              case hy76 =>
                intro w hSw
                go_simp
                try with_reducible rfl
              try simp only [Act.put, List.setIfInBounds_toArray, List.set_cons_zero, List.set_cons_succ, List.getElem_toArray, List.getElem_cons_succ, List.getElem_cons_zero]
              refine wpAnyL_take (i := 6) (v := ?v77) rfl (by kernel_rfl) (by kernel_rfl) (by kernel_rfl) (by kernel_rfl) (fun _ _ _ h => h) (Or.inl ⟨by rfl, ?hy77⟩) (by assumption) ?rest77
              case hy77 =>
                intro w hSw
                go_simp
                try with_reducible rfl
              try simp only [Act.put, List.setIfInBounds_toArray, List.set_cons_zero, List.set_cons_succ, List.getElem_toArray, List.getElem_cons_succ, List.getElem_cons_zero]
              refine wpAnyL_take (i := 7) (v := ?v78) rfl (by kernel_rfl) (by kernel_rfl) (by kernel_rfl) (by kernel_rfl) (fun _ _ _ h => h) (Or.inl ⟨by rfl, ?hy78⟩) (by assumption) ?rest78
              case hy78 =>
                intro w hSw
                (have q := hSw.cell (unhide HC0) (fun e => e); go_simp; try with_reducible rfl)
              try simp only [Act.put, List.setIfInBounds_toArray, List.set_cons_zero, List.set_cons_succ, List.getElem_toArray, List.getElem_cons_succ, List.getElem_cons_zero]
              refine wpAnyL_take (i := 8) (v := ?v79) rfl (by kernel_rfl) (by kernel_rfl) (by kernel_rfl) (by kernel_rfl) (fun _ _ _ h => h) (Or.inl ⟨by rfl, ?hy79⟩) (by assumption) ?rest79
              case hy79 =>
                intro w hSw
                go_simp
                try with_reducible rfl
              try simp only [Act.put, List.setIfInBounds_toArray, List.set_cons_zero, List.set_cons_succ, List.getElem_toArray, List.getElem_cons_succ, List.getElem_cons_zero]
              refine wpAnyL_take (i := 9) (v := ?v80) rfl (by kernel_rfl) (by kernel_rfl) (by kernel_rfl) (by kernel_rfl) (fun _ _ _ h => h) (Or.inl ⟨by rfl, ?hy80⟩) (by assumption) ?rest80
              case hy80 =>
                intro w hSw
                go_simp
                try with_reducible rfl
              try simp only [Act.put, List.setIfInBounds_toArray, List.set_cons_zero, List.set_cons_succ, List.getElem_toArray, List.getElem_cons_succ, List.getElem_cons_zero]
              refine wpAnyL_take (i := 10) (v := ?v81) rfl (by kernel_rfl) (by kernel_rfl) (by kernel_rfl) (by kernel_rfl) (fun _ _ _ h => h) (Or.inl ⟨by rfl, ?hy81⟩) (by assumption) ?rest81
              case hy81 =>
                intro w hSw
                (go_simp; rw [unhide M5]; try with_reducible rfl)
              try simp only [Act.put, List.setIfInBounds_toArray, List.set_cons_zero, List.set_cons_succ, List.getElem_toArray, List.getElem_cons_succ, List.getElem_cons_zero]
              refine wpAnyL_take (i := 11) (v := ?v82) rfl (by kernel_rfl) (by kernel_rfl) (by kernel_rfl) (by kernel_rfl) (fun _ _ _ h => h) (Or.inl ⟨by rfl, ?hy82⟩) (by assumption) ?rest82
              case hy82 =>
                intro w hSw
                go_simp
                try with_reducible rfl
              try simp only [Act.put, List.setIfInBounds_toArray, List.set_cons_zero, List.set_cons_succ, List.getElem_toArray, List.getElem_cons_succ, List.getElem_cons_zero]
              refine wpAnyL_take (i := 12) (v := ?v83) rfl (by kernel_rfl) (by kernel_rfl) (by kernel_rfl) (by kernel_rfl) (fun _ _ _ h => h) (Or.inl ⟨by rfl, ?hy83⟩) (by assumption) ?rest83
              case hy83 =>
                intro w hSw
                go_simp
                try with_reducible rfl
              try simp only [Act.put, List.setIfInBounds_toArray, List.set_cons_zero, List.set_cons_succ, List.getElem_toArray, List.getElem_cons_succ, List.getElem_cons_zero]
              refine wpAnyL_take (i := 13) (v := ?v84) rfl (by kernel_rfl) (by kernel_rfl) (by kernel_rfl) (by kernel_rfl) (fun _ _ _ h => h) (Or.inl ⟨by rfl, ?hy84⟩) (by assumption) ?rest84
              case hy84 =>
                intro w hSw
                go_simp
                try with_reducible rfl
              try simp only [Act.put, List.setIfInBounds_toArray, List.set_cons_zero, List.set_cons_succ, List.getElem_toArray, List.getElem_cons_succ, List.getElem_cons_zero]
              refine wpAnyL_take (i := 14) (v := ?v85) rfl (by kernel_rfl) (by kernel_rfl) (by kernel_rfl) (by kernel_rfl) (fun _ _ _ h => h) (Or.inl ⟨by rfl, ?hy85⟩) (by assumption) ?rest85
              case hy85 =>
                intro w hSw
                (have q := hSw.cell (unhide HGC) (fun e => e); go_simp; try with_reducible rfl)
              try simp only [Act.put, List.setIfInBounds_toArray, List.set_cons_zero, List.set_cons_succ, List.getElem_toArray, List.getElem_cons_succ, List.getElem_cons_zero]
              refine wpAnyL_take (i := 15) (v := ?v86) rfl (by kernel_rfl) (by kernel_rfl) (by kernel_rfl) (by kernel_rfl) (fun _ _ _ h => h) (Or.inl ⟨by rfl, ?hy86⟩) (by assumption) ?rest86
              case hy86 =>
                intro w hSw
                go_simp
                try with_reducible rfl
              try simp only [Act.put, List.setIfInBounds_toArray, List.set_cons_zero, List.set_cons_succ, List.getElem_toArray, List.getElem_cons_succ, List.getElem_cons_zero]
              refine wpAnyL_take (i := 16) (v := ?v87) rfl (by kernel_rfl) (by kernel_rfl) (by kernel_rfl) (by kernel_rfl) (fun _ _ _ h => h) (Or.inl ⟨by rfl, ?hy87⟩) (by assumption) ?rest87
              case hy87 =>
                intro w hSw
                go_simp
                try with_reducible rfl
              try simp only [Act.put, List.setIfInBounds_toArray, List.set_cons_zero, List.set_cons_succ, List.getElem_toArray, List.getElem_cons_succ, List.getElem_cons_zero]
              have hc8 := unhide HCA
              refine wpAnyL_ready (rs := [17]) (by kernel_rfl) (by simp) ?_
              refine AllReadyL.last rfl (fun K hK => ?_)
              go_simp
              refine hK.out _ _ (trivial) (fun hHeld => ?_)
              clear hK K
              try simp only [Act.put, List.setIfInBounds_toArray, List.set_cons_zero, List.set_cons_succ, List.getElem_toArray, List.getElem_cons_succ, List.getElem_cons_zero]
              refine wpAnyL_done (by kernel_rfl) ?_ _
              go_wp2
              go_roundw
              case rel => exact ⟨j + 1, by omega, by go_num, unhide HWn, (unhide HOn).drew⟩
              case measure => simp [intOf]; omega
            · obtain rfl : j = 4 := by omega
              have hat2 := unhide hat
              rw [mixd_all _ _ 4 (unhide HNL) (unhide HWL4)] at hat2
              obtain ⟨N, hN⟩ : ∃ N, N = NX := ⟨_, rfl⟩
              rw [← hN] at hat2 HND HNL
              obtain ⟨wd, hwd⟩ : ∃ wd, wd = wq := ⟨_, rfl⟩
              rw [← hwd] at hat2 hot ⊢
              have A9 := hide hat2
              have O9 : Hid (Only (fun j => j = b8) wa wd) := (unhide OBC).trans (unhide hot) (fun _ _ e => e)
              have hmk' : mk = mk := rfl
              clear hN hat hat2 hwd HNA
              have HMK' := hide hmk'
              clear hmk'
              have hgb : ∀ x, (Value.slice (some ⟨g, 0, none⟩) k cap).ownBlock = some x → w6.heap.size ≤ x ∧ x < wr.heap.size := (unhide HOWN).lt
              have OWD : Hid (Only (fun j => j = cb) w6 wd) := (unhide OWA).trans (unhide O9) (fun j hj e => by omega)
              have hblkd : wd.heap[cb]? = some (.cells ([Value.slice (some ⟨g, 0, none⟩) k cap] ++ (A.map bv ++ B.map bv)).toArray 44 (0, 0)) := (unhide O9).heap ((unhide OA).heap (unhide HBLK) (fun e => e)) (fun e => hne8 e.symm)
              have hownd : wd.drew.ownsRow w6.heap.size 47 4 (.slice (some ⟨g, 0, none⟩) k cap) k (ws.map bv) := (unhide O9).owns ((unhide OA).owns (unhide HOWN) (fun _ _ e => e)) (fun x hx e => by have := (hgb x hx).2; omega)
              have hc0d := rc_zero hblkd
              have hnc : ¬ ((Value.slice (some ⟨g, 0, none⟩) k cap).ownBlock = some cb) := fun e => by have := (hgb cb e).1; omega
              have hnb : ¬ ((Value.slice (some ⟨g, 0, none⟩) k cap).ownBlock = some b8) := fun e => by have := (hgb b8 e).2; omega
              have hwd6 := (unhide OWD).size
              obtain ⟨g2, cap2, w3, hrun, own3, op3⟩ := push4 wd.drew w6.heap.size (.slice (some ⟨g, 0, none⟩) k cap) k ws N (unhide HNL) hownd (by omega) hwd6
              have hblk3 : w3.heap[cb]? = some (.cells ([Value.slice (some ⟨g, 0, none⟩) k cap] ++ (A.map bv ++ B.map bv)).toArray 44 (0, 0)) := op3.heap hblkd hnc
              have hc3 := rc_zero hblk3
              have hf3 : w3.frozen? ⟨cb, 0, none⟩ = false := by simp [World.frozen?, hblk3]
              have HRUN := hide hrun
              have HB3 : Hid ((w3.setCell ⟨cb, 0, none⟩ (.slice (some ⟨g2, 0, none⟩) (k + 1) cap2)).heap[cb]? = some (.cells ([Value.slice (some ⟨g2, 0, none⟩) (k + 1) cap2] ++ (A.map bv ++ B.map bv)).toArray 44 (0, 0))) := by
                have h := two_setCell (i := 0) (u := Value.slice (some ⟨g2, 0, none⟩) (k + 1) cap2) hblk3
                show _ = _
                rw [h]
                simp
              have OW3 : Hid (Only (fun j => j = cb) w6 w3) := ((unhide OWD).drew).trans op3 (fun j hj e => by have := (hgb j e).1; omega)
              have HOW3 : Hid ((w3.setCell ⟨cb, 0, none⟩ (.slice (some ⟨g2, 0, none⟩) (k + 1) cap2)).ownsRow w6.heap.size 47 4 (.slice (some ⟨g2, 0, none⟩) (k + 1) cap2) (k + 1) ((rw' 16 key (k + 1)).1.map bv)) := by
                rw [unhide HND]
                exact ((Only.refl (fun j => j = cb) w3).here 0 _).owns own3 (fun x hx e => by have := (own3.lt x hx).1; omega)
              have HO3 : Hid (Only (fun j => j = cb) w6 (w3.setCell ⟨cb, 0, none⟩ (.slice (some ⟨g2, 0, none⟩) (k + 1) cap2))) := (unhide OW3).here 0 _
              have HC0D := hide hc0d
              have OP3 : Hid (Only (fun j => (Value.slice (some ⟨g, 0, none⟩) k cap).ownBlock = some j) wd w3) := ((Only.refl (fun j => (Value.slice (some ⟨g, 0, none⟩) k cap).ownBlock = some j) wd).drew).trans op3 (fun _ _ e => e)
              clear hrun own3 op3 hblkd hblk3 hownd hc0d hwd6
              go_wp2_with fail
              refine wp_region_last_drew (S := (fun w' => Only (fun j => (Value.slice (some ⟨g, 0, none⟩) k cap).ownBlock = some j) wd w')) 10 (by kernel_rfl) ((Only.refl _ _).drew) (fun hHeld => ?_)
              refine wpAnyL_take (i := 0) (v := ?v88) rfl (by kernel_rfl) (by kernel_rfl) (by kernel_rfl) (by kernel_rfl) (fun _ _ _ h => h) (Or.inl ⟨by rfl, ?hy88⟩) (by assumption) ?rest88
              case hy88 =>
                intro w hSw
                go_simp
                try with_reducible rfl
              try simp only [Act.put, List.setIfInBounds_toArray, List.set_cons_zero, List.set_cons_succ, List.getElem_toArray, List.getElem_cons_succ, List.getElem_cons_zero]
              refine wpAnyL_take (i := 1) (v := ?v89) rfl (by kernel_rfl) (by kernel_rfl) (by kernel_rfl) (by kernel_rfl) (fun _ _ _ h => h) (Or.inl ⟨by rfl, ?hy89⟩) (by assumption) ?rest89
              case hy89 =>
                intro w hSw
                go_simp
                try with_reducible rfl
              try simp only [Act.put, List.setIfInBounds_toArray, List.set_cons_zero, List.set_cons_succ, List.getElem_toArray, List.getElem_cons_succ, List.getElem_cons_zero]
              refine wpAnyL_take (i := 2) (v := ?v90) rfl (by kernel_rfl) (by kernel_rfl) (by kernel_rfl) (by kernel_rfl) (fun _ _ _ h => h) (Or.inl ⟨by rfl, ?hy90⟩) (by assumption) ?rest90
              case hy90 =>
                intro w hSw
                go_simp
                try with_reducible rfl
              try simp only [Act.put, List.setIfInBounds_toArray, List.set_cons_zero, List.set_cons_succ, List.getElem_toArray, List.getElem_cons_succ, List.getElem_cons_zero]
              refine wpAnyL_take (i := 3) (v := ?v91) rfl (by kernel_rfl) (by kernel_rfl) (by kernel_rfl) (by kernel_rfl) (fun _ _ _ h => h) (Or.inl ⟨by rfl, ?hy91⟩) (by assumption) ?rest91
              case hy91 =>
                intro w hSw
                go_simp
                try with_reducible rfl
              try simp only [Act.put, List.setIfInBounds_toArray, List.set_cons_zero, List.set_cons_succ, List.getElem_toArray, List.getElem_cons_succ, List.getElem_cons_zero]
              refine wpAnyL_take (i := 4) (v := ?v92) rfl (by kernel_rfl) (by kernel_rfl) (by kernel_rfl) (by kernel_rfl) (fun _ _ _ h => h) (Or.inl ⟨by rfl, ?hy92⟩) (by assumption) ?rest92
              case hy92 =>
                intro w hSw
                (have q := hSw.cell (unhide HC0D) hnc; go_simp; try with_reducible rfl)
              try simp only [Act.put, List.setIfInBounds_toArray, List.set_cons_zero, List.set_cons_succ, List.getElem_toArray, List.getElem_cons_succ, List.getElem_cons_zero]
              refine wpAnyL_take (i := 5) (v := ?v93) rfl (by kernel_rfl) (by kernel_rfl) (by kernel_rfl) (by kernel_rfl) (fun _ _ _ h => h) (Or.inl ⟨by rfl, ?hy93⟩) (by assumption) ?rest93
              case hy93 =>
                intro w hSw
                (refine exec_load_mid 47 (.tmp 8) ?_ b8 0 ?_ (N.map bv) _ (range_only (unhide A9).range hSw hnb) Try.underW rfl (by rw [Try.sizeW]; simp [unhide HNL]) <;> rfl)
              try simp only [Act.put, List.setIfInBounds_toArray, List.set_cons_zero, List.set_cons_succ, List.getElem_toArray, List.getElem_cons_succ, List.getElem_cons_zero]
              refine wpAnyL_ready (rs := [6]) (by kernel_rfl) (by simp) ?_
              refine AllReadyL.cons rfl (fun K hK => ?_) AllReadyL.nil
              refine step_rowW rfl (.tmp 165) rfl N (unhide HNL) rfl ?_
              refine hK.out _ _ ((((Only.refl _ wd).drew).alloc _)) (fun hHeld => ?_)
              clear hK K
              try simp only [Act.put, List.setIfInBounds_toArray, List.set_cons_zero, List.set_cons_succ, List.getElem_toArray, List.getElem_cons_succ, List.getElem_cons_zero]
              refine wpAnyL_ready (rs := [7]) (by kernel_rfl) (by simp) ?_
              refine AllReadyL.cons rfl (fun K hK => ?_) AllReadyL.nil
              refine step_append_run' rfl (.tmp 164) (.tmp 166) 41 rfl _ _ _ _ rfl rfl (unhide HRUN) ?_
              refine hK.out _ _ ((unhide OP3)) (fun hHeld => ?_)
              clear hK K
              try simp only [Act.put, List.setIfInBounds_toArray, List.set_cons_zero, List.set_cons_succ, List.getElem_toArray, List.getElem_cons_succ, List.getElem_cons_zero]
              refine wpAnyL_ready (rs := [8]) (by kernel_rfl) (by simp) ?_
              refine AllReadyL.cons rfl (fun K hK => ?_) AllReadyL.nil
              go_simp
              refine hK.out _ _ ((unhide OP3)) (fun hHeld => ?_)
              clear hK K
              try simp only [Act.put, List.setIfInBounds_toArray, List.set_cons_zero, List.set_cons_succ, List.getElem_toArray, List.getElem_cons_succ, List.getElem_cons_zero]
              refine wpAnyL_take (i := 9) (v := ?v94) rfl (by kernel_rfl) (by kernel_rfl) (by kernel_rfl) (by kernel_rfl) (fun _ _ _ h => h) (Or.inl ⟨by rfl, ?hy94⟩) (by assumption) ?rest94
              case hy94 =>
                intro w hSw
                go_simp
                try with_reducible rfl
              try simp only [Act.put, List.setIfInBounds_toArray, List.set_cons_zero, List.set_cons_succ, List.getElem_toArray, List.getElem_cons_succ, List.getElem_cons_zero]
              refine wpAnyL_ready (rs := [10]) (by kernel_rfl) (by simp) ?_
              refine AllReadyL.last rfl (fun K hK => ?_)
              go_simp
              refine hK.out _ _ (trivial) (fun hHeld => ?_)
              clear hK K
              try simp only [Act.put, List.setIfInBounds_toArray, List.set_cons_zero, List.set_cons_succ, List.getElem_toArray, List.getElem_cons_succ, List.getElem_cons_zero]
              refine wpAnyL_done (by kernel_rfl) ?_ _
              go_wp2
              go_roundw
              case rel => exact ⟨k + 1, by omega, by go_num, by rw [unhide HMD], some ⟨g2, 0, none⟩, cap2, unhide HB3, unhide HOW3, unhide HO3⟩
              case measure => simp [intOf]; omega
    · obtain rfl : k = 44 := by omega
      obtain ⟨ao, cap, hblk, hown, hor⟩ := unhide hin
      have hlen := rw_length 16 key (unhide HKL) (by decide) 44
      obtain ⟨g, rfl⟩ : ∃ g, ao = some ⟨g, 0, none⟩ := by
        rcases hown.2 with ⟨e, h0⟩ | ⟨g, c2, cur, e, _⟩
        · simp at e
        · simp only [Value.slice.injEq] at e
          exact ⟨g, e.1⟩
      have hw : (rw' 16 key 44).1 = (expd 16 key 40).1 := by unfold rw'; rw [if_neg (by decide)]
      rw [hw] at hown hlen
      have HRC : Hid (RCip wr cb 11 (expd 16 key 40).1) := ⟨hlen, g, cap, by rw [← (unhide HAB).1, ← (unhide HAB).2]; exact hblk, ownsRow_base hown (Nat.zero_le _)⟩
      have HOR : Hid (Only (fun _ => False) w wr) := (unhide O6).trans hor (fun j hj e => by have := unhide HCW; omega)
      clear hblk hown hor hlen hw hin
      go_wp2
      go_ret2
      exact ⟨cb, rfl, unhide HRC, unhide HOR⟩

end Ae
end Go.Proofs.Ytbhidmeobeecmab
