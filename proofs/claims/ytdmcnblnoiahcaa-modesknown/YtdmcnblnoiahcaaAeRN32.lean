/-
  locksmithref8: New of a key of 32 bytes.
-/
import Derived.Test.YtdmcnblnoiahcaaAeRW
namespace Go.Proofs.Ytdmcnblnoiahcaa
open Go.RowKit
set_option linter.unusedSimpArgs false
set_option linter.unusedVariables false
namespace Ae
attribute [local go_sem ↓] execOp_loadW4

set_option maxRecDepth 100000 in
set_option maxHeartbeats 8000000 in
theorem rnew_32 (kb ko kcap : Nat) (key : List UInt8) (hk : key.length = 32) (w : World) (hx : Has w (.slice (some ⟨kb, ko, none⟩) 32 kcap) key) :
    Calls Try.prog 30 #[.slice (some ⟨kb, ko, none⟩) 32 kcap] w fun e w' => ∃ cb, e = .returned (.tuple #[.pointer (some ⟨cb, 0, none⟩), .bool true]) ∧ RCip w' cb 15 (expd 32 key 52).1 ∧ Only (fun _ => False) w w' := by
  obtain ⟨i4, hi4, hz40, hz41, hz42⟩ := info_parts Try.infoW
  have hkcap : 32 ≤ kcap := by obtain ⟨_, _, e, h, _⟩ := hx.shape; simp only [Value.slice.injEq] at e; omega
  have hkc : ∀ j (hj : j < key.length), w.cell? ⟨kb, ko + j, none⟩ = some (bv key[j]) := by
    obtain ⟨bb, off, e, _, hc⟩ := hx.at (by decide)
    simp only [Option.some.injEq, Addr.mk.injEq, and_true] at e
    obtain ⟨rfl, rfl⟩ := e
    exact hc
  have hkblt : kb < w.heap.size := hx.blk_lt (by intro e; rw [e] at hk; simp at hk) kb rfl
  have HKB := hide hkblt
  have HKC := hide hkc
  have HKL := hide hk
  have hzv := zvC
  have hzl : zeroC.length = 513 := by simp [zeroC, zero256]
  have hz : ∃ X Y : List Value, X.length = 256 ∧ Y.length = 256 ∧ zeroC = [Value.slice none 0 0] ++ (X ++ Y) := ⟨_, _, by simp [zero256], by simp [zero256], rfl⟩
  have HZ := hide hz
  clear hz hzl hx hkc hk hkblt
  generalize zeroC = Z at *
  obtain ⟨A, hA⟩ : ∃ A, A = tbox := ⟨_, rfl⟩
  obtain ⟨B, hB⟩ : ∃ B, B = tback 256 := ⟨_, rfl⟩
  have hbx := fun W => boxes_any W
  rw [← hA, ← hB] at hbx
  have HBX := hide hbx
  have hAl : A.length = 256 := by rw [hA]; exact tbox_len
  have hBl : B.length = 256 := by rw [hB]; exact tback_len 256
  have HAB := hide (And.intro hA hB)
  clear hA hB hbx
  go_enter Try.func30, Try.ntmps30
  go_wp2_with fail
  refine (unhide HBX _).mono ?_
  rintro e w1 ⟨rfl, o1⟩
  obtain ⟨cb, hcb⟩ : ∃ cb, cb = w.heap.size := ⟨_, rfl⟩
  rw [← hcb]
  have hblk : w1.heap[cb]? = some (.cells Z.toArray 83 (0, 0)) := o1.heap (by rw [hcb]; exact heap_alloc_last w _) (fun e => e)
  obtain ⟨X, Y, hX, hY, hZ⟩ := unhide HZ
  rw [hZ] at hblk
  have hzl : ([Value.slice none 0 0] ++ (X ++ Y)).length = 513 := by simp [hX, hY]
  have sA : (A.map bv).toArray.size = 256 := by simp [hAl]
  have sB : (B.map bv).toArray.size = 256 := by simp [hBl]
  have t1 : w1.there cb 1 (A.map bv).toArray.size := by rw [sA]; exact there_at hblk 1 256 (by rw [List.size_toArray, hzl]; decide)
  have t2 : (w1.setCells cb 1 (A.map bv).toArray.toList).there cb 257 (B.map bv).toArray.size := by rw [sB]; exact there_two _ hblk 1 (by rw [hzl]; simp [hAl]) 257 256 (by rw [hzl]; decide)
  have z1 : (Try.prog.info? 81).map (·.size) = some (A.map bv).toArray.size := by rw [sA]; exact Try.size256
  have z2 : (Try.prog.info? 81).map (·.size) = some (B.map bv).toArray.size := by rw [sB]; exact Try.size256
  have T1 := hide t1
  have T2 := hide t2
  have Z1 := hide z1
  have Z2 := hide z2
  obtain ⟨w6, e6, hb6, o6⟩ := tables (v := Value.slice none 0 0) X Y (A.map bv).toArray.toList (B.map bv).toArray.toList hX hY (by simp [hAl]) (by simp [hBl]) hblk
  have hcb1 : cb < w1.heap.size := lt_of_block hblk
  have HCW : Hid (cb = w.heap.size) := hcb
  clear t1 t2 z1 z2 hzl sA sB hblk hX hY hzv hZ HZ HBX hcb
  go_upto_region 6 with (first
    | (refine wpList_store_mid rfl 81 (.tmp 35) (.tmp 32) rfl cb 1 (A.map bv).toArray rfl rfl (unhide T1) (unhide Z1) (ag_one _) ?_)
    | (refine wpList_store_mid rfl 81 (.tmp 37) (.tmp 33) rfl cb 257 (B.map bv).toArray rfl rfl (unhide T2) (unhide Z2) (ag_one _) ?_))
  first
    | rw [← e6]
    | (simp only [List.toList_toArray] at e6 ⊢; rw [← e6])
  have O6 : Hid (Only (fun _ => False) w w6) := (((Only.refl (fun _ => False) w).alloc _).trans o1 (fun _ _ e => e)).trans o6 (fun j hj e => by have := unhide HCW; omega)
  have hb6' : w6.heap[cb]? = some (.cells ([Value.slice none 0 0] ++ (A.map bv ++ B.map bv)).toArray 83 (0, 0)) := by simpa using hb6
  have hcb6 : cb < w6.heap.size := lt_of_block hb6'
  have HI : Hid (RIn w6 w6.heap.size cb 0 (rw' 32 key 0).1 A B w6) := ⟨none, 0, hb6', by rw [show (rw' 32 key 0).1 = [] from by unfold rw'; rw [if_pos (by decide)]; rfl]; exact World.ownsRow_nil _ _ _ _, Only.refl _ _⟩
  have h20 : (rw' 32 key 0).2 = 1 := rfl
  have HKC6 : Hid (∀ j (hj : j < key.length), w6.cell? ⟨kb, ko + j, none⟩ = some (bv key[j])) := fun j hj => (unhide O6).cell (unhide HKC j hj) (fun e => e)
  clear T1 T2 Z1 Z2 e6 o6 hb6 hb6' o1 hcb1 HKC
  go_wp2
  go_loopw [6, 7, 8, 9] (fun c i _ _ wr => ∃ k : Nat, k ≤ 60 ∧ i = .int .i64 k ∧ c = .int .u8 ((rw' 32 key k).2.toNat : Int) ∧ Hid (RIn w6 w6.heap.size cb k (rw' 32 key k).1 A B wr)) (fun _ i _ _ _ => 60 - (intOf i).toNat)
  case atStart => exact ⟨0, Nat.zero_le _, rfl, by rw [h20]; rfl, HI⟩
  case round =>
    rename World => wr
    obtain ⟨k, hk, rfl, rfl, hin⟩ := hrel
    clear HI h20
    by_cases hlt : k < 60
    · obtain ⟨ao, cap, hblk, hown, hor⟩ := unhide hin
      obtain ⟨ws, hws⟩ : ∃ ws, ws = (rw' 32 key k).1 := ⟨_, rfl⟩
      obtain ⟨mk, hmk⟩ : ∃ mk, mk = (rw' 32 key k).2 := ⟨_, rfl⟩
      have hwl : ws.length = 4 * k := by rw [hws]; exact rw_length 32 key (unhide HKL) (by decide) k
      rw [← hws] at hown
      rw [← hmk]
      have HWL := hide hwl
      have HWS := hide hws
      have HMK := hide hmk
      clear hwl hws hmk hin
      have hkI : (k : Int) < 60 := by omega
      have hk100 : k < 100 := by omega
      have HBLK := hide hblk
      have HOWN := hide hown
      have HOR := hide hor
      clear hblk hown hor
      go_upto_region 11 with fail
      obtain ⟨wa, b8, ea, eb8, a8, oa⟩ := fresh4 wr
      rw [zeros4_eq, ← ea, ← eb8]
      have A8 := hide a8
      have OA := hide oa
      have hb8 : wr.heap.size ≤ b8 := by omega
      have hor6 := (unhide HOR).size
      have hne8 : b8 ≠ cb := by omega
      clear ea eb8 a8 oa
      have OWA : Hid (Only (fun j => j = cb) w6 wa) := (unhide HOR).trans (unhide OA) (fun _ _ e => e.elim)
      by_cases hkn : k < 8
      · have hkn' : (k : Int) < 8 := by omega
        obtain ⟨p, hp⟩ : ∃ p, p = 4 * k := ⟨_, rfl⟩
        obtain ⟨q, hq⟩ : ∃ q, q = p + 4 := ⟨_, rfl⟩
        have M1 : Hid (IntKind.i64.wrap (4 * (k : Int)) = (p : Int)) := by show _ = _; rw [wrap_small _ (by omega) (by omega)]; omega
        have M2 : Hid (IntKind.i64.wrap ((p : Int) + 4) = (q : Int)) := by show _ = _; rw [wrap_small _ (by omega) (by omega)]; omega
        obtain ⟨N, hN⟩ : ∃ N, N = (key.drop p).take 4 := ⟨_, rfl⟩
        have hkl := unhide HKL
        have hNl : N.length = 4 := by rw [hN]; simp; omega
        have hsrc : ∀ j v, (N.map bv)[j]? = some v → wa.drew.cell? ((⟨kb, ko + p, none⟩ : Addr).add j) = some v := by
          intro j v hv
          have hj : j < 4 := by have := (List.getElem?_eq_some_iff.1 hv).1; simpa [hNl] using this
          rw [addr_add _ rfl]
          have h1 : wa.cell? ⟨kb, ko + (p + j), none⟩ = _ := (unhide OWA).cell (unhide HKC6 (p + j) (by omega)) (fun e => by have e' : kb = cb := e; have := unhide HKB; have := unhide HCW; omega)
          rw [hN, List.getElem?_map, List.getElem?_take, if_pos hj, List.getElem?_drop, List.getElem?_eq_getElem (by omega)] at hv
          simp only [Option.map_some, Option.some.injEq] at hv
          rw [← hv, show (⟨kb, ko + p + j, none⟩ : Addr) = ⟨kb, ko + (p + j), none⟩ by rw [Nat.add_assoc]]
          exact h1
        obtain ⟨wd, hcp, a9, o9⟩ := copy4 (x := wa.drew) (unhide A8) rfl hNl ⟨kb, ko + p, none⟩ (kcap - p) hsrc
        have hsub : q - p = 4 := by omega
        have hpq : p ≤ q := by omega
        have hqk : (q : Int) ≤ (kcap : Int) := by omega
        have hqk2 : q ≤ kcap := by omega
        have hnep : ¬ kcap = p := by omega
        have HND : Hid ((rw' 32 key (k + 1)).1 = ws ++ N) := by show _ = _; rw [rw_first 32 key hkl (by decide) k hkn, ← unhide HWS, hN, hp]
        have HMD : Hid ((rw' 32 key (k + 1)).2 = mk) := by show _ = _; rw [rw_first 32 key hkl (by decide) k hkn, ← unhide HMK]
        have HNL := hide hNl
        have A9 := hide a9
        have O9 : Hid (Only (fun j => j = b8) wa wd) := ((Only.refl (fun j => j = b8) wa).drew).trans o9 (fun _ _ e => e)
        clear hN hsrc hNl hp hq a9 o9 hkl
        go_wp2_with fail
        refine wp_region_held_drew (S := (fun _ => True)) (by kernel_rfl) (trivial) (fun hHeld => ?_)
        refine wpAnyH_take (i := 0) (v := ?v281) rfl (by kernel_rfl) (by kernel_rfl) (by kernel_rfl) (fun _ _ _ h => h) (Or.inl ⟨by rfl, ?hy281⟩) (by assumption) ?rest281
        case hy281 =>
          intro w hSw
          go_simp
          try with_reducible rfl
        try simp only [Act.put, List.setIfInBounds_toArray, List.set_cons_zero, List.set_cons_succ, List.getElem_toArray, List.getElem_cons_succ, List.getElem_cons_zero]
        refine wpAnyH_take (i := 1) (v := ?v282) rfl (by kernel_rfl) (by kernel_rfl) (by kernel_rfl) (fun _ _ _ h => h) (Or.inl ⟨by rfl, ?hy282⟩) (by assumption) ?rest282
        case hy282 =>
          intro w hSw
          go_simp
          try with_reducible rfl
        try simp only [Act.put, List.setIfInBounds_toArray, List.set_cons_zero, List.set_cons_succ, List.getElem_toArray, List.getElem_cons_succ, List.getElem_cons_zero]
        refine wpAnyH_take (i := 2) (v := ?v283) rfl (by kernel_rfl) (by kernel_rfl) (by kernel_rfl) (fun _ _ _ h => h) (Or.inl ⟨by rfl, ?hy283⟩) (by assumption) ?rest283
        case hy283 =>
          intro w hSw
          go_simp
          try with_reducible rfl
        try simp only [Act.put, List.setIfInBounds_toArray, List.set_cons_zero, List.set_cons_succ, List.getElem_toArray, List.getElem_cons_succ, List.getElem_cons_zero]
        refine wpAnyH_take (i := 3) (v := ?v284) rfl (by kernel_rfl) (by kernel_rfl) (by kernel_rfl) (fun _ _ _ h => h) (Or.inl ⟨by rfl, ?hy284⟩) (by assumption) ?rest284
        case hy284 =>
          intro w hSw
          (go_simp; rw [unhide M1]; try with_reducible rfl)
        try simp only [Act.put, List.setIfInBounds_toArray, List.set_cons_zero, List.set_cons_succ, List.getElem_toArray, List.getElem_cons_succ, List.getElem_cons_zero]
        refine wpAnyH_take (i := 4) (v := ?v285) rfl (by kernel_rfl) (by kernel_rfl) (by kernel_rfl) (fun _ _ _ h => h) (Or.inl ⟨by rfl, ?hy285⟩) (by assumption) ?rest285
        case hy285 =>
          intro w hSw
          go_simp
          try with_reducible rfl
        try simp only [Act.put, List.setIfInBounds_toArray, List.set_cons_zero, List.set_cons_succ, List.getElem_toArray, List.getElem_cons_succ, List.getElem_cons_zero]
        refine wpAnyH_take (i := 5) (v := ?v286) rfl (by kernel_rfl) (by kernel_rfl) (by kernel_rfl) (fun _ _ _ h => h) (Or.inl ⟨by rfl, ?hy286⟩) (by assumption) ?rest286
        case hy286 =>
          intro w hSw
          (go_simp; rw [unhide M1]; try with_reducible rfl)
        try simp only [Act.put, List.setIfInBounds_toArray, List.set_cons_zero, List.set_cons_succ, List.getElem_toArray, List.getElem_cons_succ, List.getElem_cons_zero]
        refine wpAnyH_take (i := 6) (v := ?v287) rfl (by kernel_rfl) (by kernel_rfl) (by kernel_rfl) (fun _ _ _ h => h) (Or.inl ⟨by rfl, ?hy287⟩) (by assumption) ?rest287
        case hy287 =>
          intro w hSw
          (go_simp; rw [unhide M2]; try with_reducible rfl)
        try simp only [Act.put, List.setIfInBounds_toArray, List.set_cons_zero, List.set_cons_succ, List.getElem_toArray, List.getElem_cons_succ, List.getElem_cons_zero]
        refine wpAnyH_take (i := 7) (v := ?v288) rfl (by kernel_rfl) (by kernel_rfl) (by kernel_rfl) (fun _ _ _ h => h) (Or.inl ⟨by rfl, ?hy288⟩) (by assumption) ?rest288
        case hy288 =>
          intro w hSw
          go_simp
          try with_reducible rfl
        try simp only [Act.put, List.setIfInBounds_toArray, List.set_cons_zero, List.set_cons_succ, List.getElem_toArray, List.getElem_cons_succ, List.getElem_cons_zero]
        refine wpAnyH_ready (rs := [8]) (by kernel_rfl) (by simp) ?_
        refine AllReadyH.cons rfl (fun K hK => ?_) AllReadyH.nil
        go_simp
        refine hK.out _ _ (trivial) (fun hHeld => ?_)
        clear hK K
        try simp only [Act.put, List.setIfInBounds_toArray, List.set_cons_zero, List.set_cons_succ, List.getElem_toArray, List.getElem_cons_succ, List.getElem_cons_zero]
        refine wpAnyH_done (by kernel_rfl) ?_ _
        clear hcp M1 M2 hsub hpq hqk hqk2 hnep
        obtain ⟨mk', hmk'⟩ : ∃ mk', mk' = mk := ⟨_, rfl⟩
        rw [← hmk'] at HMD
        have HMK' := hide hmk'
        clear hmk'
        have hgb : ∀ x, (Value.slice ao k cap).ownBlock = some x → w6.heap.size ≤ x ∧ x < wr.heap.size := (unhide HOWN).lt
        have OWD : Hid (Only (fun j => j = cb) w6 wd) := (unhide OWA).trans (unhide O9) (fun j hj e => by omega)
        have hblkd : wd.heap[cb]? = some (.cells ([Value.slice ao k cap] ++ (A.map bv ++ B.map bv)).toArray 83 (0, 0)) := (unhide O9).heap ((unhide OA).heap (unhide HBLK) (fun e => e)) (fun e => hne8 e.symm)
        have hownd : wd.drew.ownsRow w6.heap.size 86 4 (.slice ao k cap) k (ws.map bv) := (unhide O9).owns ((unhide OA).owns (unhide HOWN) (fun _ _ e => e)) (fun x hx e => by have := (hgb x hx).2; omega)
        have hc0d := rc_zero hblkd
        have hnc : ¬ ((Value.slice ao k cap).ownBlock = some cb) := fun e => by have := (hgb cb e).1; omega
        have hnb : ¬ ((Value.slice ao k cap).ownBlock = some b8) := fun e => by have := (hgb b8 e).2; omega
        have hwd6 := (unhide OWD).size
        obtain ⟨g2, cap2, w3, hrun, own3, op3⟩ := push4 wd.drew w6.heap.size (.slice ao k cap) k ws N (unhide HNL) hownd (by omega) hwd6
        have hblk3 : w3.heap[cb]? = some (.cells ([Value.slice ao k cap] ++ (A.map bv ++ B.map bv)).toArray 83 (0, 0)) := op3.heap hblkd hnc
        have hc3 := rc_zero hblk3
        have hf3 : w3.frozen? ⟨cb, 0, none⟩ = false := by simp [World.frozen?, hblk3]
        have HRUN := hide hrun
        have HB3 : Hid ((w3.setCell ⟨cb, 0, none⟩ (.slice (some ⟨g2, 0, none⟩) (k + 1) cap2)).heap[cb]? = some (.cells ([Value.slice (some ⟨g2, 0, none⟩) (k + 1) cap2] ++ (A.map bv ++ B.map bv)).toArray 83 (0, 0))) := by
          have h := two_setCell (i := 0) (u := Value.slice (some ⟨g2, 0, none⟩) (k + 1) cap2) hblk3
          show _ = _
          rw [h]
          simp
        have OW3 : Hid (Only (fun j => j = cb) w6 w3) := ((unhide OWD).drew).trans op3 (fun j hj e => by have := (hgb j e).1; omega)
        have HOW3 : Hid ((w3.setCell ⟨cb, 0, none⟩ (.slice (some ⟨g2, 0, none⟩) (k + 1) cap2)).ownsRow w6.heap.size 86 4 (.slice (some ⟨g2, 0, none⟩) (k + 1) cap2) (k + 1) ((rw' 32 key (k + 1)).1.map bv)) := by
          rw [unhide HND]
          exact ((Only.refl (fun j => j = cb) w3).here 0 _).owns own3 (fun x hx e => by have := (own3.lt x hx).1; omega)
        have HO3 : Hid (Only (fun j => j = cb) w6 (w3.setCell ⟨cb, 0, none⟩ (.slice (some ⟨g2, 0, none⟩) (k + 1) cap2))) := (unhide OW3).here 0 _
        have HC0D := hide hc0d
        have OP3 : Hid (Only (fun j => (Value.slice ao k cap).ownBlock = some j) wd w3) := ((Only.refl (fun j => (Value.slice ao k cap).ownBlock = some j) wd).drew).trans op3 (fun _ _ e => e)
        clear hrun own3 op3 hblkd hblk3 hownd hc0d hwd6
        go_wp2_with fail
        refine wp_region_last_drew (S := (fun w' => Only (fun j => (Value.slice ao k cap).ownBlock = some j) wd w')) 10 (by kernel_rfl) ((Only.refl _ _).drew) (fun hHeld => ?_)
        refine wpAnyL_take (i := 0) (v := ?v289) rfl (by kernel_rfl) (by kernel_rfl) (by kernel_rfl) (by kernel_rfl) (fun _ _ _ h => h) (Or.inl ⟨by rfl, ?hy289⟩) (by assumption) ?rest289
        case hy289 =>
          intro w hSw
          go_simp
          try with_reducible rfl
        try simp only [Act.put, List.setIfInBounds_toArray, List.set_cons_zero, List.set_cons_succ, List.getElem_toArray, List.getElem_cons_succ, List.getElem_cons_zero]
        refine wpAnyL_take (i := 1) (v := ?v290) rfl (by kernel_rfl) (by kernel_rfl) (by kernel_rfl) (by kernel_rfl) (fun _ _ _ h => h) (Or.inl ⟨by rfl, ?hy290⟩) (by assumption) ?rest290
        case hy290 =>
          intro w hSw
          go_simp
          try with_reducible rfl
        try simp only [Act.put, List.setIfInBounds_toArray, List.set_cons_zero, List.set_cons_succ, List.getElem_toArray, List.getElem_cons_succ, List.getElem_cons_zero]
        refine wpAnyL_take (i := 2) (v := ?v291) rfl (by kernel_rfl) (by kernel_rfl) (by kernel_rfl) (by kernel_rfl) (fun _ _ _ h => h) (Or.inl ⟨by rfl, ?hy291⟩) (by assumption) ?rest291
        case hy291 =>
          intro w hSw
          go_simp
          try with_reducible rfl
        try simp only [Act.put, List.setIfInBounds_toArray, List.set_cons_zero, List.set_cons_succ, List.getElem_toArray, List.getElem_cons_succ, List.getElem_cons_zero]
        refine wpAnyL_take (i := 3) (v := ?v292) rfl (by kernel_rfl) (by kernel_rfl) (by kernel_rfl) (by kernel_rfl) (fun _ _ _ h => h) (Or.inl ⟨by rfl, ?hy292⟩) (by assumption) ?rest292
        case hy292 =>
          intro w hSw
          go_simp
          try with_reducible rfl
        try simp only [Act.put, List.setIfInBounds_toArray, List.set_cons_zero, List.set_cons_succ, List.getElem_toArray, List.getElem_cons_succ, List.getElem_cons_zero]
        refine wpAnyL_take (i := 4) (v := ?v293) rfl (by kernel_rfl) (by kernel_rfl) (by kernel_rfl) (by kernel_rfl) (fun _ _ _ h => h) (Or.inl ⟨by rfl, ?hy293⟩) (by assumption) ?rest293
        case hy293 =>
          intro w hSw
          (have q := hSw.cell (unhide HC0D) hnc; go_simp; try with_reducible rfl)
        try simp only [Act.put, List.setIfInBounds_toArray, List.set_cons_zero, List.set_cons_succ, List.getElem_toArray, List.getElem_cons_succ, List.getElem_cons_zero]
        refine wpAnyL_take (i := 5) (v := ?v294) rfl (by kernel_rfl) (by kernel_rfl) (by kernel_rfl) (by kernel_rfl) (fun _ _ _ h => h) (Or.inl ⟨by rfl, ?hy294⟩) (by assumption) ?rest294
        case hy294 =>
          intro w hSw
          (refine exec_load_mid 86 (.tmp 8) ?_ b8 0 ?_ (N.map bv) _ (range_only (unhide A9).range hSw hnb) Try.underW rfl (by rw [Try.sizeW]; simp [unhide HNL]) <;> rfl)
        try simp only [Act.put, List.setIfInBounds_toArray, List.set_cons_zero, List.set_cons_succ, List.getElem_toArray, List.getElem_cons_succ, List.getElem_cons_zero]
        refine wpAnyL_ready (rs := [6]) (by kernel_rfl) (by simp) ?_
        refine AllReadyL.cons rfl (fun K hK => ?_) AllReadyL.nil
        refine step_rowW rfl (.tmp 165) rfl N (unhide HNL) rfl ?_
        refine hK.out _ _ ((((Only.refl _ wd).drew).alloc _)) (fun hHeld => ?_)
        clear hK K
        try simp only [Act.put, List.setIfInBounds_toArray, List.set_cons_zero, List.set_cons_succ, List.getElem_toArray, List.getElem_cons_succ, List.getElem_cons_zero]
        refine wpAnyL_ready (rs := [7]) (by kernel_rfl) (by simp) ?_
        refine AllReadyL.cons rfl (fun K hK => ?_) AllReadyL.nil
        refine step_append_run' rfl (.tmp 164) (.tmp 166) 80 rfl _ _ _ _ rfl rfl (unhide HRUN) ?_
        refine hK.out _ _ ((unhide OP3)) (fun hHeld => ?_)
        clear hK K
        try simp only [Act.put, List.setIfInBounds_toArray, List.set_cons_zero, List.set_cons_succ, List.getElem_toArray, List.getElem_cons_succ, List.getElem_cons_zero]
        refine wpAnyL_ready (rs := [8]) (by kernel_rfl) (by simp) ?_
        refine AllReadyL.cons rfl (fun K hK => ?_) AllReadyL.nil
        go_simp
        refine hK.out _ _ ((unhide OP3)) (fun hHeld => ?_)
        clear hK K
        try simp only [Act.put, List.setIfInBounds_toArray, List.set_cons_zero, List.set_cons_succ, List.getElem_toArray, List.getElem_cons_succ, List.getElem_cons_zero]
        refine wpAnyL_take (i := 9) (v := ?v295) rfl (by kernel_rfl) (by kernel_rfl) (by kernel_rfl) (by kernel_rfl) (fun _ _ _ h => h) (Or.inl ⟨by rfl, ?hy295⟩) (by assumption) ?rest295
        case hy295 =>
          intro w hSw
          go_simp
          try with_reducible rfl
        try simp only [Act.put, List.setIfInBounds_toArray, List.set_cons_zero, List.set_cons_succ, List.getElem_toArray, List.getElem_cons_succ, List.getElem_cons_zero]
        refine wpAnyL_ready (rs := [10]) (by kernel_rfl) (by simp) ?_
        refine AllReadyL.last rfl (fun K hK => ?_)
        go_simp
        refine hK.out _ _ (trivial) (fun hHeld => ?_)
        clear hK K
        try simp only [Act.put, List.setIfInBounds_toArray, List.set_cons_zero, List.set_cons_succ, List.getElem_toArray, List.getElem_cons_succ, List.getElem_cons_zero]
        refine wpAnyL_done (by kernel_rfl) ?_ _
        go_wp2
        go_roundw
        case rel => exact ⟨k + 1, by omega, by go_num, by rw [unhide HMD, unhide HMK'], some ⟨g2, 0, none⟩, cap2, unhide HB3, unhide HOW3, unhide HO3⟩
        case measure => simp [intOf]; omega
      · have hkn' : ¬ (k : Int) < 8 := by omega
        obtain ⟨g, rfl⟩ : ∃ g, ao = some ⟨g, 0, none⟩ := by
          rcases (unhide HOWN).2 with ⟨e, h0⟩ | ⟨g, c2, cur, e, _⟩
          · simp at e; omega
          · simp only [Value.slice.injEq] at e
            exact ⟨g, e.1⟩
        have hgr := (unhide HOWN).lt g rfl
        have hg8 : g ≠ b8 := by omega
        have hc0 : wa.cell? ⟨cb, 0, none⟩ = some (.slice (some ⟨g, 0, none⟩) k cap) := (unhide OA).cell (rc_zero (unhide HBLK)) (fun e => e)
        obtain ⟨P, hP⟩ : ∃ P, P = prev ws := ⟨_, rfl⟩
        have hPl : P.length = 4 := by rw [hP]; rfl
        have hwl := unhide HWL
        have hPd : P = (ws.drop (4 * (k - 1))).take 4 := by
          rw [hP, prev_drop ws (by omega), hwl, show 4 * k - 4 = 4 * (k - 1) by omega, List.take_of_length_le (by simp; omega)]
        have hrg : wa.rangeAt g ((k - 1) * 4) (P.map bv) := by
          rw [hPd]
          exact range_only (word_rangeAt (unhide HOWN) hwl (k - 1) (by omega)) (unhide OA) (fun e => e)
        have hld := loadW4_run hrg hPl
        have hk1I : (k : Int) - 1 = ((k - 1 : Nat) : Int) := by omega
        have hk1b : ((k - 1 : Nat) : Int) < (k : Int) := by omega
        have HT := hide (there4 (unhide A8) rfl hPl)
        have HZ4 := hide (size4s hPl)
        have HPP := hide hP
        have HPL := hide hPl
        clear hP hPl hPd hrg hwl
        go_upto_region 14 with (refine wpList_store_mid rfl 86 (.tmp 8) (.tmp 64) rfl b8 0 (P.map bv).toArray rfl rfl (unhide HT) (unhide HZ4) (ag_one _) ?_)
        obtain ⟨wb, eb, ab, ob⟩ := restored4 wa b8 zero4 P (unhide A8) (by rw [unhide HPL]; rfl)
        first
          | rw [← eb]
          | (simp only [List.toList_toArray]; rw [← eb])
        have AB := hide ab
        have OB := hide ob
        have HCB := hide (ob.cell hc0 (fun e => hne8 e.symm))
        clear eb ab ob hld hc0 HT HZ4 hk1I hk1b
        obtain ⟨d, hd⟩ : ∃ d, d = k % 8 := ⟨_, rfl⟩
        have hr1 : (k : Int).tmod 8 = (d : Int) := by rw [Int.tmod_eq_emod_of_nonneg (by omega)]; omega
        have hr2 : (k : Int) % 8 = (d : Int) := by omega
        have HND0 : Hid (rw' 32 key (k + 1) = (ws ++ next 32 ws (word 32 ws mk) 4, if ws.length % 32 = 0 then mul mk 2 else mk)) := by
          show _ = _
          rw [rw_then 32 key k hkn]
          unfold stepK
          rw [← unhide HWS, ← unhide HMK]
        have hwd0 : ws.length % 32 = 0 ↔ d = 0 := by have := unhide HWL; omega
        have hwd4 : ws.length % 32 = 16 ↔ d = 4 := by have := unhide HWL; omega
        obtain ⟨P0, P1, P2, P3, hP4⟩ : ∃ P0 P1 P2 P3, P = [P0, P1, P2, P3] := by
          have h := unhide HPL
          match P, h with
          | [x0, x1, x2, x3], _ => exact ⟨_, _, _, _, rfl⟩
        subst hP4
        have hW : word 32 ws mk = if d = 0 then [box P1 ^^^ mk, box P2, box P3, box P0] else if 32 = 32 ∧ d = 4 then [box P0, box P1, box P2, box P3] else [P0, P1, P2, P3] := by
          have h := unhide HPP
          unfold prev at h
          simp only [List.cons.injEq, and_true] at h
          obtain ⟨h0, h1, h2, h3⟩ := h
          unfold word
          rw [← h0, ← h1, ← h2, ← h3]
          by_cases e0 : d = 0
          · rw [if_pos e0, if_pos (hwd0.2 e0)]
          · rw [if_neg e0, if_neg (fun e => e0 (hwd0.1 e))]
            by_cases e4 : d = 4
            · rw [if_pos (show 32 = 32 ∧ ws.length % 32 = 16 from ⟨rfl, hwd4.2 e4⟩), if_pos (show 32 = 32 ∧ d = 4 from ⟨rfl, e4⟩)]
            · rw [if_neg (fun e => e4 (hwd4.1 e.2)), if_neg (fun e => e4 e.2)]
        have E0 : Hid (wb.cell? ⟨b8, 0, none⟩ = some (.int .u8 (P0.toNat : Int))) := (unhide AB).cell 0 P0 rfl
        have E1 : Hid (wb.cell? ⟨b8, 1, none⟩ = some (.int .u8 (P1.toNat : Int))) := (unhide AB).cell 1 P1 rfl
        have E2 : Hid (wb.cell? ⟨b8, 2, none⟩ = some (.int .u8 (P2.toNat : Int))) := (unhide AB).cell 2 P2 rfl
        have E3 : Hid (wb.cell? ⟨b8, 3, none⟩ = some (.int .u8 (P3.toNat : Int))) := (unhide AB).cell 3 P3 rfl
        have hblkb : wb.heap[cb]? = some (.cells ([Value.slice (some ⟨g, 0, none⟩) k cap] ++ (A.map bv ++ B.map bv)).toArray 83 (0, 0)) := (unhide OB).heap ((unhide OA).heap (unhide HBLK) (fun e => e)) (fun e => hne8 e.symm)
        have hta : ∀ x : UInt8, A[x.toNat]? = some (box x) := fun x => by rw [(unhide HAB).1]; exact tbox_all x
        have T0 := hide (rc_there hblkb P0.toNat (box P0) (hta P0))
        have T1 := hide (rc_there hblkb P1.toNat (box P1) (hta P1))
        have T2 := hide (rc_there hblkb P2.toNat (box P2) (hta P2))
        have T3 := hide (rc_there hblkb P3.toNat (box P3) (hta P3))
        have hxb := xor_bv (box P1) mk
        have HWW := hide hW
        clear hW hblkb hta hwd4
        have l0 : (P0.toNat : Int) < 256 := by have := P0.toNat_lt; omega
        have l1 : (P1.toNat : Int) < 256 := by have := P1.toNat_lt; omega
        have l2 : (P2.toNat : Int) < 256 := by have := P2.toNat_lt; omega
        have l3 : (P3.toNat : Int) < 256 := by have := P3.toNat_lt; omega
        have HN1 : Hid ((rw' 32 key (k + 1)).1 = ws ++ next 32 ws (word 32 ws mk) 4) := by show _ = _; rw [unhide HND0]
        have HN2 : Hid ((rw' 32 key (k + 1)).2 = if d = 0 then mul mk 2 else mk) := by show _ = _; rw [unhide HND0]; simp only [hwd0]
        clear HND0 hwd0
        by_cases hd0 : d = 0
        · rw [if_pos hd0] at HWW HN2
          have hdb : ((d : Int) == 0) = true := by simp; omega
          generalize hz : box P1 ^^^ mk = z at *
          generalize box P0 = y0 at *
          generalize box P1 = y1 at *
          generalize box P2 = y2 at *
          generalize box P3 = y3 at *
          clear hz hd0 hd
          have HT := hide (there4 (unhide AB) rfl (show ([z, y2, y3, y0] : List UInt8).length = 4 from rfl))
          have HZ4 := hide (size4s (show ([z, y2, y3, y0] : List UInt8).length = 4 from rfl))
          go_wp2_with fail
          refine wp_region_last_drew (S := (fun w' => Only (fun _ => False) wb w')) 31 (by kernel_rfl) ((Only.refl _ _).drew) (fun hHeld => ?_)
          refine wpAnyL_take (i := 0) (v := ?v296) rfl (by kernel_rfl) (by kernel_rfl) (by kernel_rfl) (by kernel_rfl) (fun _ _ _ h => h) (Or.inl ⟨by rfl, ?hy296⟩) (by assumption) ?rest296
          case hy296 =>
            intro w hSw
            go_simp
            try with_reducible rfl
          try simp only [Act.put, List.setIfInBounds_toArray, List.set_cons_zero, List.set_cons_succ, List.getElem_toArray, List.getElem_cons_succ, List.getElem_cons_zero]
          refine wpAnyL_take (i := 1) (v := ?v297) rfl (by kernel_rfl) (by kernel_rfl) (by kernel_rfl) (by kernel_rfl) (fun _ _ _ h => h) (Or.inl ⟨by rfl, ?hy297⟩) (by assumption) ?rest297
          case hy297 =>
            intro w hSw
            go_simp
            try with_reducible rfl
          try simp only [Act.put, List.setIfInBounds_toArray, List.set_cons_zero, List.set_cons_succ, List.getElem_toArray, List.getElem_cons_succ, List.getElem_cons_zero]
          refine wpAnyL_take (i := 2) (v := ?v298) rfl (by kernel_rfl) (by kernel_rfl) (by kernel_rfl) (by kernel_rfl) (fun _ _ _ h => h) (Or.inl ⟨by rfl, ?hy298⟩) (by assumption) ?rest298
          case hy298 =>
            intro w hSw
            (have q := hSw.cell (unhide E1) (fun e => e); go_simp; try with_reducible rfl)
          try simp only [Act.put, List.setIfInBounds_toArray, List.set_cons_zero, List.set_cons_succ, List.getElem_toArray, List.getElem_cons_succ, List.getElem_cons_zero]
          refine wpAnyL_take (i := 3) (v := ?v299) rfl (by kernel_rfl) (by kernel_rfl) (by kernel_rfl) (by kernel_rfl) (fun _ _ _ h => h) (Or.inl ⟨by rfl, ?hy299⟩) (by assumption) ?rest299
          case hy299 =>
            intro w hSw
            go_simp
            try with_reducible rfl
          try simp only [Act.put, List.setIfInBounds_toArray, List.set_cons_zero, List.set_cons_succ, List.getElem_toArray, List.getElem_cons_succ, List.getElem_cons_zero]
          refine wpAnyL_take (i := 4) (v := ?v300) rfl (by kernel_rfl) (by kernel_rfl) (by kernel_rfl) (by kernel_rfl) (fun _ _ _ h => h) (Or.inl ⟨by rfl, ?hy300⟩) (by assumption) ?rest300
          case hy300 =>
            intro w hSw
            go_simp
            try with_reducible rfl
          try simp only [Act.put, List.setIfInBounds_toArray, List.set_cons_zero, List.set_cons_succ, List.getElem_toArray, List.getElem_cons_succ, List.getElem_cons_zero]
          refine wpAnyL_take (i := 5) (v := ?v301) rfl (by kernel_rfl) (by kernel_rfl) (by kernel_rfl) (by kernel_rfl) (fun _ _ _ h => h) (Or.inl ⟨by rfl, ?hy301⟩) (by assumption) ?rest301
          case hy301 =>
            intro w hSw
            go_simp
            try with_reducible rfl
          try simp only [Act.put, List.setIfInBounds_toArray, List.set_cons_zero, List.set_cons_succ, List.getElem_toArray, List.getElem_cons_succ, List.getElem_cons_zero]
          refine wpAnyL_take (i := 6) (v := ?v302) rfl (by kernel_rfl) (by kernel_rfl) (by kernel_rfl) (by kernel_rfl) (fun _ _ _ h => h) (Or.inl ⟨by rfl, ?hy302⟩) (by assumption) ?rest302
          case hy302 =>
            intro w hSw
            (have q := hSw.cell (unhide T1) (fun e => e); go_simp; try with_reducible rfl)
          try simp only [Act.put, List.setIfInBounds_toArray, List.set_cons_zero, List.set_cons_succ, List.getElem_toArray, List.getElem_cons_succ, List.getElem_cons_zero]
          refine wpAnyL_take (i := 7) (v := ?v303) rfl (by kernel_rfl) (by kernel_rfl) (by kernel_rfl) (by kernel_rfl) (fun _ _ _ h => h) (Or.inl ⟨by rfl, ?hy303⟩) (by assumption) ?rest303
          case hy303 =>
            intro w hSw
            go_simp
            try with_reducible rfl
          try simp only [Act.put, List.setIfInBounds_toArray, List.set_cons_zero, List.set_cons_succ, List.getElem_toArray, List.getElem_cons_succ, List.getElem_cons_zero]
          refine wpAnyL_take (i := 8) (v := ?v304) rfl (by kernel_rfl) (by kernel_rfl) (by kernel_rfl) (by kernel_rfl) (fun _ _ _ h => h) (Or.inl ⟨by rfl, ?hy304⟩) (by assumption) ?rest304
          case hy304 =>
            intro w hSw
            go_simp
            try with_reducible rfl
          try simp only [Act.put, List.setIfInBounds_toArray, List.set_cons_zero, List.set_cons_succ, List.getElem_toArray, List.getElem_cons_succ, List.getElem_cons_zero]
          refine wpAnyL_take (i := 9) (v := ?v305) rfl (by kernel_rfl) (by kernel_rfl) (by kernel_rfl) (by kernel_rfl) (fun _ _ _ h => h) (Or.inl ⟨by rfl, ?hy305⟩) (by assumption) ?rest305
          case hy305 =>
            intro w hSw
            go_simp
            try with_reducible rfl
          try simp only [Act.put, List.setIfInBounds_toArray, List.set_cons_zero, List.set_cons_succ, List.getElem_toArray, List.getElem_cons_succ, List.getElem_cons_zero]
          refine wpAnyL_take (i := 10) (v := ?v306) rfl (by kernel_rfl) (by kernel_rfl) (by kernel_rfl) (by kernel_rfl) (fun _ _ _ h => h) (Or.inl ⟨by rfl, ?hy306⟩) (by assumption) ?rest306
          case hy306 =>
            intro w hSw
            go_simp
            try with_reducible rfl
          try simp only [Act.put, List.setIfInBounds_toArray, List.set_cons_zero, List.set_cons_succ, List.getElem_toArray, List.getElem_cons_succ, List.getElem_cons_zero]
          refine wpAnyL_take (i := 11) (v := ?v307) rfl (by kernel_rfl) (by kernel_rfl) (by kernel_rfl) (by kernel_rfl) (fun _ _ _ h => h) (Or.inl ⟨by rfl, ?hy307⟩) (by assumption) ?rest307
          case hy307 =>
            intro w hSw
            (have q := hSw.cell (unhide E2) (fun e => e); go_simp; try with_reducible rfl)
          try simp only [Act.put, List.setIfInBounds_toArray, List.set_cons_zero, List.set_cons_succ, List.getElem_toArray, List.getElem_cons_succ, List.getElem_cons_zero]
          refine wpAnyL_take (i := 12) (v := ?v308) rfl (by kernel_rfl) (by kernel_rfl) (by kernel_rfl) (by kernel_rfl) (fun _ _ _ h => h) (Or.inl ⟨by rfl, ?hy308⟩) (by assumption) ?rest308
          case hy308 =>
            intro w hSw
            go_simp
            try with_reducible rfl
          try simp only [Act.put, List.setIfInBounds_toArray, List.set_cons_zero, List.set_cons_succ, List.getElem_toArray, List.getElem_cons_succ, List.getElem_cons_zero]
          refine wpAnyL_take (i := 13) (v := ?v309) rfl (by kernel_rfl) (by kernel_rfl) (by kernel_rfl) (by kernel_rfl) (fun _ _ _ h => h) (Or.inl ⟨by rfl, ?hy309⟩) (by assumption) ?rest309
          case hy309 =>
            intro w hSw
            go_simp
            try with_reducible rfl
          try simp only [Act.put, List.setIfInBounds_toArray, List.set_cons_zero, List.set_cons_succ, List.getElem_toArray, List.getElem_cons_succ, List.getElem_cons_zero]
          refine wpAnyL_take (i := 14) (v := ?v310) rfl (by kernel_rfl) (by kernel_rfl) (by kernel_rfl) (by kernel_rfl) (fun _ _ _ h => h) (Or.inl ⟨by rfl, ?hy310⟩) (by assumption) ?rest310
          case hy310 =>
            intro w hSw
            go_simp
            try with_reducible rfl
          try simp only [Act.put, List.setIfInBounds_toArray, List.set_cons_zero, List.set_cons_succ, List.getElem_toArray, List.getElem_cons_succ, List.getElem_cons_zero]
          refine wpAnyL_take (i := 15) (v := ?v311) rfl (by kernel_rfl) (by kernel_rfl) (by kernel_rfl) (by kernel_rfl) (fun _ _ _ h => h) (Or.inl ⟨by rfl, ?hy311⟩) (by assumption) ?rest311
          case hy311 =>
            intro w hSw
            (have q := hSw.cell (unhide T2) (fun e => e); go_simp; try with_reducible rfl)
          try simp only [Act.put, List.setIfInBounds_toArray, List.set_cons_zero, List.set_cons_succ, List.getElem_toArray, List.getElem_cons_succ, List.getElem_cons_zero]
          refine wpAnyL_take (i := 16) (v := ?v312) rfl (by kernel_rfl) (by kernel_rfl) (by kernel_rfl) (by kernel_rfl) (fun _ _ _ h => h) (Or.inl ⟨by rfl, ?hy312⟩) (by assumption) ?rest312
          case hy312 =>
            intro w hSw
            go_simp
            try with_reducible rfl
          try simp only [Act.put, List.setIfInBounds_toArray, List.set_cons_zero, List.set_cons_succ, List.getElem_toArray, List.getElem_cons_succ, List.getElem_cons_zero]
          refine wpAnyL_take (i := 17) (v := ?v313) rfl (by kernel_rfl) (by kernel_rfl) (by kernel_rfl) (by kernel_rfl) (fun _ _ _ h => h) (Or.inl ⟨by rfl, ?hy313⟩) (by assumption) ?rest313
          case hy313 =>
            intro w hSw
            go_simp
            try with_reducible rfl
          try simp only [Act.put, List.setIfInBounds_toArray, List.set_cons_zero, List.set_cons_succ, List.getElem_toArray, List.getElem_cons_succ, List.getElem_cons_zero]
          refine wpAnyL_take (i := 18) (v := ?v314) rfl (by kernel_rfl) (by kernel_rfl) (by kernel_rfl) (by kernel_rfl) (fun _ _ _ h => h) (Or.inl ⟨by rfl, ?hy314⟩) (by assumption) ?rest314
          case hy314 =>
            intro w hSw
            (have q := hSw.cell (unhide E3) (fun e => e); go_simp; try with_reducible rfl)
          try simp only [Act.put, List.setIfInBounds_toArray, List.set_cons_zero, List.set_cons_succ, List.getElem_toArray, List.getElem_cons_succ, List.getElem_cons_zero]
          refine wpAnyL_take (i := 19) (v := ?v315) rfl (by kernel_rfl) (by kernel_rfl) (by kernel_rfl) (by kernel_rfl) (fun _ _ _ h => h) (Or.inl ⟨by rfl, ?hy315⟩) (by assumption) ?rest315
          case hy315 =>
            intro w hSw
            go_simp
            try with_reducible rfl
          try simp only [Act.put, List.setIfInBounds_toArray, List.set_cons_zero, List.set_cons_succ, List.getElem_toArray, List.getElem_cons_succ, List.getElem_cons_zero]
          refine wpAnyL_take (i := 20) (v := ?v316) rfl (by kernel_rfl) (by kernel_rfl) (by kernel_rfl) (by kernel_rfl) (fun _ _ _ h => h) (Or.inl ⟨by rfl, ?hy316⟩) (by assumption) ?rest316
          case hy316 =>
            intro w hSw
            go_simp
            try with_reducible rfl
          try simp only [Act.put, List.setIfInBounds_toArray, List.set_cons_zero, List.set_cons_succ, List.getElem_toArray, List.getElem_cons_succ, List.getElem_cons_zero]
          refine wpAnyL_take (i := 21) (v := ?v317) rfl (by kernel_rfl) (by kernel_rfl) (by kernel_rfl) (by kernel_rfl) (fun _ _ _ h => h) (Or.inl ⟨by rfl, ?hy317⟩) (by assumption) ?rest317
          case hy317 =>
            intro w hSw
            go_simp
            try with_reducible rfl
          try simp only [Act.put, List.setIfInBounds_toArray, List.set_cons_zero, List.set_cons_succ, List.getElem_toArray, List.getElem_cons_succ, List.getElem_cons_zero]
          refine wpAnyL_take (i := 22) (v := ?v318) rfl (by kernel_rfl) (by kernel_rfl) (by kernel_rfl) (by kernel_rfl) (fun _ _ _ h => h) (Or.inl ⟨by rfl, ?hy318⟩) (by assumption) ?rest318
          case hy318 =>
            intro w hSw
            (have q := hSw.cell (unhide T3) (fun e => e); go_simp; try with_reducible rfl)
          try simp only [Act.put, List.setIfInBounds_toArray, List.set_cons_zero, List.set_cons_succ, List.getElem_toArray, List.getElem_cons_succ, List.getElem_cons_zero]
          refine wpAnyL_take (i := 23) (v := ?v319) rfl (by kernel_rfl) (by kernel_rfl) (by kernel_rfl) (by kernel_rfl) (fun _ _ _ h => h) (Or.inl ⟨by rfl, ?hy319⟩) (by assumption) ?rest319
          case hy319 =>
            intro w hSw
            go_simp
            try with_reducible rfl
          try simp only [Act.put, List.setIfInBounds_toArray, List.set_cons_zero, List.set_cons_succ, List.getElem_toArray, List.getElem_cons_succ, List.getElem_cons_zero]
          refine wpAnyL_take (i := 24) (v := ?v320) rfl (by kernel_rfl) (by kernel_rfl) (by kernel_rfl) (by kernel_rfl) (fun _ _ _ h => h) (Or.inl ⟨by rfl, ?hy320⟩) (by assumption) ?rest320
          case hy320 =>
            intro w hSw
            go_simp
            try with_reducible rfl
          try simp only [Act.put, List.setIfInBounds_toArray, List.set_cons_zero, List.set_cons_succ, List.getElem_toArray, List.getElem_cons_succ, List.getElem_cons_zero]
          refine wpAnyL_take (i := 25) (v := ?v321) rfl (by kernel_rfl) (by kernel_rfl) (by kernel_rfl) (by kernel_rfl) (fun _ _ _ h => h) (Or.inl ⟨by rfl, ?hy321⟩) (by assumption) ?rest321
          case hy321 =>
            intro w hSw
            (have q := hSw.cell (unhide E0) (fun e => e); go_simp; try with_reducible rfl)
          try simp only [Act.put, List.setIfInBounds_toArray, List.set_cons_zero, List.set_cons_succ, List.getElem_toArray, List.getElem_cons_succ, List.getElem_cons_zero]
          refine wpAnyL_take (i := 26) (v := ?v322) rfl (by kernel_rfl) (by kernel_rfl) (by kernel_rfl) (by kernel_rfl) (fun _ _ _ h => h) (Or.inl ⟨by rfl, ?hy322⟩) (by assumption) ?rest322
          case hy322 =>
            intro w hSw
            go_simp
            try with_reducible rfl
          try simp only [Act.put, List.setIfInBounds_toArray, List.set_cons_zero, List.set_cons_succ, List.getElem_toArray, List.getElem_cons_succ, List.getElem_cons_zero]
          refine wpAnyL_take (i := 27) (v := ?v323) rfl (by kernel_rfl) (by kernel_rfl) (by kernel_rfl) (by kernel_rfl) (fun _ _ _ h => h) (Or.inl ⟨by rfl, ?hy323⟩) (by assumption) ?rest323
          case hy323 =>
            intro w hSw
            go_simp
            try with_reducible rfl
          try simp only [Act.put, List.setIfInBounds_toArray, List.set_cons_zero, List.set_cons_succ, List.getElem_toArray, List.getElem_cons_succ, List.getElem_cons_zero]
          refine wpAnyL_take (i := 28) (v := ?v324) rfl (by kernel_rfl) (by kernel_rfl) (by kernel_rfl) (by kernel_rfl) (fun _ _ _ h => h) (Or.inl ⟨by rfl, ?hy324⟩) (by assumption) ?rest324
          case hy324 =>
            intro w hSw
            go_simp
            try with_reducible rfl
          try simp only [Act.put, List.setIfInBounds_toArray, List.set_cons_zero, List.set_cons_succ, List.getElem_toArray, List.getElem_cons_succ, List.getElem_cons_zero]
          refine wpAnyL_take (i := 29) (v := ?v325) rfl (by kernel_rfl) (by kernel_rfl) (by kernel_rfl) (by kernel_rfl) (fun _ _ _ h => h) (Or.inl ⟨by rfl, ?hy325⟩) (by assumption) ?rest325
          case hy325 =>
            intro w hSw
            (have q := hSw.cell (unhide T0) (fun e => e); go_simp; try with_reducible rfl)
          try simp only [Act.put, List.setIfInBounds_toArray, List.set_cons_zero, List.set_cons_succ, List.getElem_toArray, List.getElem_cons_succ, List.getElem_cons_zero]
          refine wpAnyL_take (i := 30) (v := ?v326) rfl (by kernel_rfl) (by kernel_rfl) (by kernel_rfl) (by kernel_rfl) (fun _ _ _ h => h) (Or.inl ⟨by rfl, ?hy326⟩) (by assumption) ?rest326
          case hy326 =>
            intro w hSw
            go_simp
            try with_reducible rfl
          try simp only [Act.put, List.setIfInBounds_toArray, List.set_cons_zero, List.set_cons_succ, List.getElem_toArray, List.getElem_cons_succ, List.getElem_cons_zero]
          refine wpAnyL_ready (rs := [31]) (by kernel_rfl) (by simp) ?_
          refine AllReadyL.last rfl (fun K hK => ?_)
          refine step_store_mid rfl 86 (.tmp 8) (.tmp 99) rfl b8 0 (([z, y2, y3, y0] : List UInt8).map bv).toArray rfl rfl (unhide HT) (unhide HZ4) (ag_one _) ?_
          refine hK.out _ _ (trivial) (fun hHeld => ?_)
          clear hK K
          try simp only [Act.put, List.setIfInBounds_toArray, List.set_cons_zero, List.set_cons_succ, List.getElem_toArray, List.getElem_cons_succ, List.getElem_cons_zero]
          refine wpAnyL_done (by kernel_rfl) ?_ _
          obtain ⟨wc, ec, ac, oc⟩ := restored4 wb.drew b8 [P0, P1, P2, P3] [z, y2, y3, y0] (unhide AB) rfl
          first
            | rw [← ec]
            | (simp only [List.toList_toArray]; rw [← ec])
          have AC := hide ac
          have OC : Hid (Only (fun j => j = b8) wb wc) := ((Only.refl (fun j => j = b8) wb).drew).trans oc (fun _ _ e => e)
          obtain ⟨Wd, hWd⟩ : ∃ Wd : List UInt8, Wd = [z, y2, y3, y0] := ⟨_, rfl⟩
          rw [unhide HWW] at HN1
          rw [← hWd] at AC HN1
          have hWl : Wd.length = 4 := by rw [hWd]; rfl
          have HWL4 := hide hWl
          clear ec ac oc hWd hWl HT HZ4 E0 E1 E2 E3 T0 T1 T2 T3 AB HWW hxb
          have HRT : Hid (∀ W, Calls Try.prog 49 #[.int .u8 (mk.toNat : Int), .int .u8 2] W fun e w' => e = .returned (.int .u8 ((mul mk 2).toNat : Int)) ∧ w' = W) := fun W => rtimes_any mk 2 W
          generalize mul mk 2 = mk2 at *
          go_wp2_with fail
          refine (unhide HRT _).mono ?_
          rintro e wt ⟨rfl, hwt⟩
          rw [hwt]
          clear hwt wt HRT
          have HMD : Hid ((rw' 32 key (k + 1)).2 = mk2) := HN2
          obtain ⟨NX, hNX⟩ : ∃ NX, NX = next 32 ws Wd 4 := ⟨_, rfl⟩
          have hNl : NX.length = 4 := by rw [hNX]; exact next_length _ _ _ _
          have hNat : ∀ j, j < 4 → NX[j]? = some (gt Wd j ^^^ gt ws (4 * (k - 8) + j)) := fun j hj => by
            rw [hNX, next_at 32 ws Wd j hj, unhide HWL, UInt8.xor_comm, show 4 * k - 32 + j = 4 * (k - 8) + j by omega]
          have HNA := hide hNat
          have HND : Hid ((rw' 32 key (k + 1)).1 = ws ++ NX) := by rw [hNX]; exact HN1
          have HNL := hide hNl
          have OBC : Hid (Only (fun j => j = b8) wa wc) := (unhide OB).trans (unhide OC) (fun _ _ e => e)
          have HCC := hide ((unhide OC).cell (unhide HCB) (fun e => hne8 e.symm))
          clear hNX hNl hNat HN1 HCB
          go_wp2
          go_loopw [9] (fun i wq => ∃ j : Nat, j ≤ 4 ∧ i = .int .i64 j ∧ Hid (Arr wq b8 86 (mixd NX Wd j)) ∧ Hid (Only (fun x => x = b8) wc wq)) (fun i _ => 4 - (intOf i).toNat)
          case atStart => exact ⟨0, Nat.zero_le _, rfl, by rw [mixd_zero]; exact AC, Only.refl _ _⟩
          case round =>
            rename World => wq
            obtain ⟨j, hj, rfl, hat, hot⟩ := hrel
            by_cases hjt : j < 4
            · have hm0 := mixd_at NX Wd 4 j (unhide HNL) (unhide HWL4) hjt
              rw [gt_some Wd j (by have := unhide HWL4; omega)] at hm0
              have HCA := hide ((unhide hat).cell j _ hm0)
              have hf8 := (unhide hat).free j
              have hw2 := (unhide hat).set j (gt Wd j ^^^ gt ws (4 * (k - 8) + j))
              rw [mixd_set _ _ 4 j (unhide HNL) (unhide HWL4) hjt _ (unhide HNA j hjt)] at hw2
              have HWn := hide hw2
              have HOn := hide ((unhide hot).here j (.int .u8 ((gt Wd j ^^^ gt ws (4 * (k - 8) + j)).toNat : Int)))
              have hx := xor_bv (gt Wd j) (gt ws (4 * (k - 8) + j))
              have HC0 := hide ((unhide hot).cell (unhide HCC) (fun e => hne8 e.symm))
              have hgc : wq.cell? ⟨g, (k - 8) * 4 + j, none⟩ = some (.int .u8 ((gt ws (4 * (k - 8) + j)).toNat : Int)) := (unhide hot).cell ((unhide OBC).cell ((unhide OA).cell (word_cell (unhide HOWN) (unhide HWL) (k - 8) j (by omega) hjt) (fun e => e)) hg8) hg8
              have HGC := hide hgc
              obtain ⟨kn, hkn2⟩ : ∃ kn, kn = k - 8 := ⟨_, rfl⟩
              have M5 : Hid (IntKind.i64.wrap ((k : Int) - 8) = (kn : Int)) := by show _ = _; rw [wrap_small _ (by omega) (by omega)]; omega
              have hknk : (kn : Int) < (k : Int) := by omega
              rw [← hkn2] at HGC HWn HOn hx
              clear hm0 hat hot hw2 hgc hkn2
              generalize gt Wd j ^^^ gt ws (4 * kn + j) = z' at *
              generalize gt Wd j = x' at *
              generalize gt ws (4 * kn + j) = y' at *
              have hj4 : (j : Int) < 4 := by omega
              go_wp2_with fail
              refine wp_region_last_drew (S := (fun w' => Only (fun _ => False) wq w')) 17 (by kernel_rfl) ((Only.refl _ _).drew) (fun hHeld => ?_)
              refine wpAnyL_take (i := 0) (v := ?v327) rfl (by kernel_rfl) (by kernel_rfl) (by kernel_rfl) (by kernel_rfl) (fun _ _ _ h => h) (Or.inl ⟨by rfl, ?hy327⟩) (by assumption) ?rest327
              case hy327 =>
                intro w hSw
                go_simp
                try with_reducible rfl
              try simp only [Act.put, List.setIfInBounds_toArray, List.set_cons_zero, List.set_cons_succ, List.getElem_toArray, List.getElem_cons_succ, List.getElem_cons_zero]
              refine wpAnyL_take (i := 1) (v := ?v328) rfl (by kernel_rfl) (by kernel_rfl) (by kernel_rfl) (by kernel_rfl) (fun _ _ _ h => h) (Or.inl ⟨by rfl, ?hy328⟩) (by assumption) ?rest328
              case hy328 =>
                intro w hSw
                go_simp
                try with_reducible rfl
              try simp only [Act.put, List.setIfInBounds_toArray, List.set_cons_zero, List.set_cons_succ, List.getElem_toArray, List.getElem_cons_succ, List.getElem_cons_zero]
              refine wpAnyL_take (i := 2) (v := ?v329) rfl (by kernel_rfl) (by kernel_rfl) (by kernel_rfl) (by kernel_rfl) (fun _ _ _ h => h) (Or.inl ⟨by rfl, ?hy329⟩) (by assumption) ?rest329
              case hy329 =>
                intro w hSw
                go_simp
                try with_reducible rfl
              try simp only [Act.put, List.setIfInBounds_toArray, List.set_cons_zero, List.set_cons_succ, List.getElem_toArray, List.getElem_cons_succ, List.getElem_cons_zero]
              refine wpAnyL_take (i := 3) (v := ?v330) rfl (by kernel_rfl) (by kernel_rfl) (by kernel_rfl) (by kernel_rfl) (fun _ _ _ h => h) (Or.inl ⟨by rfl, ?hy330⟩) (by assumption) ?rest330
              case hy330 =>
                intro w hSw
                (have q := hSw.cell (unhide HCA) (fun e => e); go_simp; try with_reducible rfl)
              try simp only [Act.put, List.setIfInBounds_toArray, List.set_cons_zero, List.set_cons_succ, List.getElem_toArray, List.getElem_cons_succ, List.getElem_cons_zero]
              refine wpAnyL_take (i := 4) (v := ?v331) rfl (by kernel_rfl) (by kernel_rfl) (by kernel_rfl) (by kernel_rfl) (fun _ _ _ h => h) (Or.inl ⟨by rfl, ?hy331⟩) (by assumption) ?rest331
              case hy331 =>
                intro w hSw
                go_simp
                try with_reducible rfl
              try simp only [Act.put, List.setIfInBounds_toArray, List.set_cons_zero, List.set_cons_succ, List.getElem_toArray, List.getElem_cons_succ, List.getElem_cons_zero]
              refine wpAnyL_take (i := 5) (v := ?v332) rfl (by kernel_rfl) (by kernel_rfl) (by kernel_rfl) (by kernel_rfl) (fun _ _ _ h => h) (Or.inl ⟨by rfl, ?hy332⟩) (by assumption) ?rest332
              case hy332 =>
                intro w hSw
                go_simp
                try with_reducible rfl
              try simp only [Act.put, List.setIfInBounds_toArray, List.set_cons_zero, List.set_cons_succ, List.getElem_toArray, List.getElem_cons_succ, List.getElem_cons_zero]
              refine wpAnyL_take (i := 6) (v := ?v333) rfl (by kernel_rfl) (by kernel_rfl) (by kernel_rfl) (by kernel_rfl) (fun _ _ _ h => h) (Or.inl ⟨by rfl, ?hy333⟩) (by assumption) ?rest333
              case hy333 =>
                intro w hSw
                go_simp
                try with_reducible rfl
              try simp only [Act.put, List.setIfInBounds_toArray, List.set_cons_zero, List.set_cons_succ, List.getElem_toArray, List.getElem_cons_succ, List.getElem_cons_zero]
              refine wpAnyL_take (i := 7) (v := ?v334) rfl (by kernel_rfl) (by kernel_rfl) (by kernel_rfl) (by kernel_rfl) (fun _ _ _ h => h) (Or.inl ⟨by rfl, ?hy334⟩) (by assumption) ?rest334
              case hy334 =>
                intro w hSw
                (have q := hSw.cell (unhide HC0) (fun e => e); go_simp; try with_reducible rfl)
              try simp only [Act.put, List.setIfInBounds_toArray, List.set_cons_zero, List.set_cons_succ, List.getElem_toArray, List.getElem_cons_succ, List.getElem_cons_zero]
              refine wpAnyL_take (i := 8) (v := ?v335) rfl (by kernel_rfl) (by kernel_rfl) (by kernel_rfl) (by kernel_rfl) (fun _ _ _ h => h) (Or.inl ⟨by rfl, ?hy335⟩) (by assumption) ?rest335
              case hy335 =>
                intro w hSw
                go_simp
                try with_reducible rfl
              try simp only [Act.put, List.setIfInBounds_toArray, List.set_cons_zero, List.set_cons_succ, List.getElem_toArray, List.getElem_cons_succ, List.getElem_cons_zero]
              refine wpAnyL_take (i := 9) (v := ?v336) rfl (by kernel_rfl) (by kernel_rfl) (by kernel_rfl) (by kernel_rfl) (fun _ _ _ h => h) (Or.inl ⟨by rfl, ?hy336⟩) (by assumption) ?rest336
              case hy336 =>
                intro w hSw
                go_simp
                try with_reducible rfl
              try simp only [Act.put, List.setIfInBounds_toArray, List.set_cons_zero, List.set_cons_succ, List.getElem_toArray, List.getElem_cons_succ, List.getElem_cons_zero]
              refine wpAnyL_take (i := 10) (v := ?v337) rfl (by kernel_rfl) (by kernel_rfl) (by kernel_rfl) (by kernel_rfl) (fun _ _ _ h => h) (Or.inl ⟨by rfl, ?hy337⟩) (by assumption) ?rest337
              case hy337 =>
                intro w hSw
                (go_simp; rw [unhide M5]; try with_reducible rfl)
              try simp only [Act.put, List.setIfInBounds_toArray, List.set_cons_zero, List.set_cons_succ, List.getElem_toArray, List.getElem_cons_succ, List.getElem_cons_zero]
              refine wpAnyL_take (i := 11) (v := ?v338) rfl (by kernel_rfl) (by kernel_rfl) (by kernel_rfl) (by kernel_rfl) (fun _ _ _ h => h) (Or.inl ⟨by rfl, ?hy338⟩) (by assumption) ?rest338
              case hy338 =>
                intro w hSw
                go_simp
                try with_reducible rfl
              try simp only [Act.put, List.setIfInBounds_toArray, List.set_cons_zero, List.set_cons_succ, List.getElem_toArray, List.getElem_cons_succ, List.getElem_cons_zero]
              refine wpAnyL_take (i := 12) (v := ?v339) rfl (by kernel_rfl) (by kernel_rfl) (by kernel_rfl) (by kernel_rfl) (fun _ _ _ h => h) (Or.inl ⟨by rfl, ?hy339⟩) (by assumption) ?rest339
              case hy339 =>
                intro w hSw
                go_simp
                try with_reducible rfl
              try simp only [Act.put, List.setIfInBounds_toArray, List.set_cons_zero, List.set_cons_succ, List.getElem_toArray, List.getElem_cons_succ, List.getElem_cons_zero]
              refine wpAnyL_take (i := 13) (v := ?v340) rfl (by kernel_rfl) (by kernel_rfl) (by kernel_rfl) (by kernel_rfl) (fun _ _ _ h => h) (Or.inl ⟨by rfl, ?hy340⟩) (by assumption) ?rest340
              case hy340 =>
                intro w hSw
                go_simp
                try with_reducible rfl
              try simp only [Act.put, List.setIfInBounds_toArray, List.set_cons_zero, List.set_cons_succ, List.getElem_toArray, List.getElem_cons_succ, List.getElem_cons_zero]
              refine wpAnyL_take (i := 14) (v := ?v341) rfl (by kernel_rfl) (by kernel_rfl) (by kernel_rfl) (by kernel_rfl) (fun _ _ _ h => h) (Or.inl ⟨by rfl, ?hy341⟩) (by assumption) ?rest341
              case hy341 =>
                intro w hSw
                (have q := hSw.cell (unhide HGC) (fun e => e); go_simp; try with_reducible rfl)
              try simp only [Act.put, List.setIfInBounds_toArray, List.set_cons_zero, List.set_cons_succ, List.getElem_toArray, List.getElem_cons_succ, List.getElem_cons_zero]
              refine wpAnyL_take (i := 15) (v := ?v342) rfl (by kernel_rfl) (by kernel_rfl) (by kernel_rfl) (by kernel_rfl) (fun _ _ _ h => h) (Or.inl ⟨by rfl, ?hy342⟩) (by assumption) ?rest342
              case hy342 =>
                intro w hSw
                go_simp
                try with_reducible rfl
              try simp only [Act.put, List.setIfInBounds_toArray, List.set_cons_zero, List.set_cons_succ, List.getElem_toArray, List.getElem_cons_succ, List.getElem_cons_zero]
              refine wpAnyL_take (i := 16) (v := ?v343) rfl (by kernel_rfl) (by kernel_rfl) (by kernel_rfl) (by kernel_rfl) (fun _ _ _ h => h) (Or.inl ⟨by rfl, ?hy343⟩) (by assumption) ?rest343
              case hy343 =>
                intro w hSw
                go_simp
                try with_reducible rfl
              try simp only [Act.put, List.setIfInBounds_toArray, List.set_cons_zero, List.set_cons_succ, List.getElem_toArray, List.getElem_cons_succ, List.getElem_cons_zero]
              have hc8 := unhide HCA
              refine wpAnyL_ready (rs := [17]) (by kernel_rfl) (by simp) ?_
              refine AllReadyL.last rfl (fun K hK => ?_)
              go_simp
              refine hK.out _ _ (trivial) (fun hHeld => ?_)
              clear hK K
              try simp only [Act.put, List.setIfInBounds_toArray, List.set_cons_zero, List.set_cons_succ, List.getElem_toArray, List.getElem_cons_succ, List.getElem_cons_zero]
              refine wpAnyL_done (by kernel_rfl) ?_ _
              go_wp2
              go_roundw
              case rel => exact ⟨j + 1, by omega, by go_num, unhide HWn, (unhide HOn).drew⟩
              case measure => simp [intOf]; omega
            · obtain rfl : j = 4 := by omega
              have hat2 := unhide hat
              rw [mixd_all _ _ 4 (unhide HNL) (unhide HWL4)] at hat2
              obtain ⟨N, hN⟩ : ∃ N, N = NX := ⟨_, rfl⟩
              rw [← hN] at hat2 HND HNL
              obtain ⟨wd, hwd⟩ : ∃ wd, wd = wq := ⟨_, rfl⟩
              rw [← hwd] at hat2 hot ⊢
              have A9 := hide hat2
              have O9 : Hid (Only (fun j => j = b8) wa wd) := (unhide OBC).trans (unhide hot) (fun _ _ e => e)
              have hmk' : mk = mk := rfl
              clear hN hat hat2 hwd HNA
              have HMK' := hide hmk'
              clear hmk'
              have hgb : ∀ x, (Value.slice (some ⟨g, 0, none⟩) k cap).ownBlock = some x → w6.heap.size ≤ x ∧ x < wr.heap.size := (unhide HOWN).lt
              have OWD : Hid (Only (fun j => j = cb) w6 wd) := (unhide OWA).trans (unhide O9) (fun j hj e => by omega)
              have hblkd : wd.heap[cb]? = some (.cells ([Value.slice (some ⟨g, 0, none⟩) k cap] ++ (A.map bv ++ B.map bv)).toArray 83 (0, 0)) := (unhide O9).heap ((unhide OA).heap (unhide HBLK) (fun e => e)) (fun e => hne8 e.symm)
              have hownd : wd.drew.ownsRow w6.heap.size 86 4 (.slice (some ⟨g, 0, none⟩) k cap) k (ws.map bv) := (unhide O9).owns ((unhide OA).owns (unhide HOWN) (fun _ _ e => e)) (fun x hx e => by have := (hgb x hx).2; omega)
              have hc0d := rc_zero hblkd
              have hnc : ¬ ((Value.slice (some ⟨g, 0, none⟩) k cap).ownBlock = some cb) := fun e => by have := (hgb cb e).1; omega
              have hnb : ¬ ((Value.slice (some ⟨g, 0, none⟩) k cap).ownBlock = some b8) := fun e => by have := (hgb b8 e).2; omega
              have hwd6 := (unhide OWD).size
              obtain ⟨g2, cap2, w3, hrun, own3, op3⟩ := push4 wd.drew w6.heap.size (.slice (some ⟨g, 0, none⟩) k cap) k ws N (unhide HNL) hownd (by omega) hwd6
              have hblk3 : w3.heap[cb]? = some (.cells ([Value.slice (some ⟨g, 0, none⟩) k cap] ++ (A.map bv ++ B.map bv)).toArray 83 (0, 0)) := op3.heap hblkd hnc
              have hc3 := rc_zero hblk3
              have hf3 : w3.frozen? ⟨cb, 0, none⟩ = false := by simp [World.frozen?, hblk3]
              have HRUN := hide hrun
              have HB3 : Hid ((w3.setCell ⟨cb, 0, none⟩ (.slice (some ⟨g2, 0, none⟩) (k + 1) cap2)).heap[cb]? = some (.cells ([Value.slice (some ⟨g2, 0, none⟩) (k + 1) cap2] ++ (A.map bv ++ B.map bv)).toArray 83 (0, 0))) := by
                have h := two_setCell (i := 0) (u := Value.slice (some ⟨g2, 0, none⟩) (k + 1) cap2) hblk3
                show _ = _
                rw [h]
                simp
              have OW3 : Hid (Only (fun j => j = cb) w6 w3) := ((unhide OWD).drew).trans op3 (fun j hj e => by have := (hgb j e).1; omega)
              have HOW3 : Hid ((w3.setCell ⟨cb, 0, none⟩ (.slice (some ⟨g2, 0, none⟩) (k + 1) cap2)).ownsRow w6.heap.size 86 4 (.slice (some ⟨g2, 0, none⟩) (k + 1) cap2) (k + 1) ((rw' 32 key (k + 1)).1.map bv)) := by
                rw [unhide HND]
                exact ((Only.refl (fun j => j = cb) w3).here 0 _).owns own3 (fun x hx e => by have := (own3.lt x hx).1; omega)
              have HO3 : Hid (Only (fun j => j = cb) w6 (w3.setCell ⟨cb, 0, none⟩ (.slice (some ⟨g2, 0, none⟩) (k + 1) cap2))) := (unhide OW3).here 0 _
              have HC0D := hide hc0d
              have OP3 : Hid (Only (fun j => (Value.slice (some ⟨g, 0, none⟩) k cap).ownBlock = some j) wd w3) := ((Only.refl (fun j => (Value.slice (some ⟨g, 0, none⟩) k cap).ownBlock = some j) wd).drew).trans op3 (fun _ _ e => e)
              clear hrun own3 op3 hblkd hblk3 hownd hc0d hwd6
              go_wp2_with fail
              refine wp_region_last_drew (S := (fun w' => Only (fun j => (Value.slice (some ⟨g, 0, none⟩) k cap).ownBlock = some j) wd w')) 10 (by kernel_rfl) ((Only.refl _ _).drew) (fun hHeld => ?_)
              refine wpAnyL_take (i := 0) (v := ?v344) rfl (by kernel_rfl) (by kernel_rfl) (by kernel_rfl) (by kernel_rfl) (fun _ _ _ h => h) (Or.inl ⟨by rfl, ?hy344⟩) (by assumption) ?rest344
              case hy344 =>
                intro w hSw
                go_simp
                try with_reducible rfl
              try simp only [Act.put, List.setIfInBounds_toArray, List.set_cons_zero, List.set_cons_succ, List.getElem_toArray, List.getElem_cons_succ, List.getElem_cons_zero]
              refine wpAnyL_take (i := 1) (v := ?v345) rfl (by kernel_rfl) (by kernel_rfl) (by kernel_rfl) (by kernel_rfl) (fun _ _ _ h => h) (Or.inl ⟨by rfl, ?hy345⟩) (by assumption) ?rest345
              case hy345 =>
                intro w hSw
                go_simp
                try with_reducible rfl
              try simp only [Act.put, List.setIfInBounds_toArray, List.set_cons_zero, List.set_cons_succ, List.getElem_toArray, List.getElem_cons_succ, List.getElem_cons_zero]
              refine wpAnyL_take (i := 2) (v := ?v346) rfl (by kernel_rfl) (by kernel_rfl) (by kernel_rfl) (by kernel_rfl) (fun _ _ _ h => h) (Or.inl ⟨by rfl, ?hy346⟩) (by assumption) ?rest346
              case hy346 =>
                intro w hSw
                go_simp
                try with_reducible rfl
              try simp only [Act.put, List.setIfInBounds_toArray, List.set_cons_zero, List.set_cons_succ, List.getElem_toArray, List.getElem_cons_succ, List.getElem_cons_zero]
              refine wpAnyL_take (i := 3) (v := ?v347) rfl (by kernel_rfl) (by kernel_rfl) (by kernel_rfl) (by kernel_rfl) (fun _ _ _ h => h) (Or.inl ⟨by rfl, ?hy347⟩) (by assumption) ?rest347
              case hy347 =>
                intro w hSw
                go_simp
                try with_reducible rfl
              try simp only [Act.put, List.setIfInBounds_toArray, List.set_cons_zero, List.set_cons_succ, List.getElem_toArray, List.getElem_cons_succ, List.getElem_cons_zero]
              refine wpAnyL_take (i := 4) (v := ?v348) rfl (by kernel_rfl) (by kernel_rfl) (by kernel_rfl) (by kernel_rfl) (fun _ _ _ h => h) (Or.inl ⟨by rfl, ?hy348⟩) (by assumption) ?rest348
              case hy348 =>
                intro w hSw
                (have q := hSw.cell (unhide HC0D) hnc; go_simp; try with_reducible rfl)
              try simp only [Act.put, List.setIfInBounds_toArray, List.set_cons_zero, List.set_cons_succ, List.getElem_toArray, List.getElem_cons_succ, List.getElem_cons_zero]
              refine wpAnyL_take (i := 5) (v := ?v349) rfl (by kernel_rfl) (by kernel_rfl) (by kernel_rfl) (by kernel_rfl) (fun _ _ _ h => h) (Or.inl ⟨by rfl, ?hy349⟩) (by assumption) ?rest349
              case hy349 =>
                intro w hSw
                (refine exec_load_mid 86 (.tmp 8) ?_ b8 0 ?_ (N.map bv) _ (range_only (unhide A9).range hSw hnb) Try.underW rfl (by rw [Try.sizeW]; simp [unhide HNL]) <;> rfl)
              try simp only [Act.put, List.setIfInBounds_toArray, List.set_cons_zero, List.set_cons_succ, List.getElem_toArray, List.getElem_cons_succ, List.getElem_cons_zero]
              refine wpAnyL_ready (rs := [6]) (by kernel_rfl) (by simp) ?_
              refine AllReadyL.cons rfl (fun K hK => ?_) AllReadyL.nil
              refine step_rowW rfl (.tmp 165) rfl N (unhide HNL) rfl ?_
              refine hK.out _ _ ((((Only.refl _ wd).drew).alloc _)) (fun hHeld => ?_)
              clear hK K
              try simp only [Act.put, List.setIfInBounds_toArray, List.set_cons_zero, List.set_cons_succ, List.getElem_toArray, List.getElem_cons_succ, List.getElem_cons_zero]
              refine wpAnyL_ready (rs := [7]) (by kernel_rfl) (by simp) ?_
              refine AllReadyL.cons rfl (fun K hK => ?_) AllReadyL.nil
              refine step_append_run' rfl (.tmp 164) (.tmp 166) 80 rfl _ _ _ _ rfl rfl (unhide HRUN) ?_
              refine hK.out _ _ ((unhide OP3)) (fun hHeld => ?_)
              clear hK K
              try simp only [Act.put, List.setIfInBounds_toArray, List.set_cons_zero, List.set_cons_succ, List.getElem_toArray, List.getElem_cons_succ, List.getElem_cons_zero]
              refine wpAnyL_ready (rs := [8]) (by kernel_rfl) (by simp) ?_
              refine AllReadyL.cons rfl (fun K hK => ?_) AllReadyL.nil
              go_simp
              refine hK.out _ _ ((unhide OP3)) (fun hHeld => ?_)
              clear hK K
              try simp only [Act.put, List.setIfInBounds_toArray, List.set_cons_zero, List.set_cons_succ, List.getElem_toArray, List.getElem_cons_succ, List.getElem_cons_zero]
              refine wpAnyL_take (i := 9) (v := ?v350) rfl (by kernel_rfl) (by kernel_rfl) (by kernel_rfl) (by kernel_rfl) (fun _ _ _ h => h) (Or.inl ⟨by rfl, ?hy350⟩) (by assumption) ?rest350
              case hy350 =>
                intro w hSw
                go_simp
                try with_reducible rfl
              try simp only [Act.put, List.setIfInBounds_toArray, List.set_cons_zero, List.set_cons_succ, List.getElem_toArray, List.getElem_cons_succ, List.getElem_cons_zero]
              refine wpAnyL_ready (rs := [10]) (by kernel_rfl) (by simp) ?_
              refine AllReadyL.last rfl (fun K hK => ?_)
              go_simp
              refine hK.out _ _ (trivial) (fun hHeld => ?_)
              clear hK K
              try simp only [Act.put, List.setIfInBounds_toArray, List.set_cons_zero, List.set_cons_succ, List.getElem_toArray, List.getElem_cons_succ, List.getElem_cons_zero]
              refine wpAnyL_done (by kernel_rfl) ?_ _
              go_wp2
              go_roundw
              case rel => exact ⟨k + 1, by omega, by go_num, by rw [unhide HMD], some ⟨g2, 0, none⟩, cap2, unhide HB3, unhide HOW3, unhide HO3⟩
              case measure => simp [intOf]; omega
        · by_cases hd4 : d = 4
          · rw [if_neg hd0] at HWW HN2
            rw [if_pos (show 32 = 32 ∧ d = 4 from ⟨rfl, hd4⟩)] at HWW
            have hdb : ((d : Int) == 0) = false := by simp; omega
            have hdb4 : ((d : Int) == 4) = true := by simp; omega
            generalize box P0 = y0 at *
            generalize box P1 = y1 at *
            generalize box P2 = y2 at *
            generalize box P3 = y3 at *
            clear hd0 hd hd4
            have HT := hide (there4 (unhide AB) rfl (show ([y0, y1, y2, y3] : List UInt8).length = 4 from rfl))
            have HZ4 := hide (size4s (show ([y0, y1, y2, y3] : List UInt8).length = 4 from rfl))
            go_wp2_with fail
            refine wp_region_last_drew (S := (fun w' => Only (fun _ => False) wb w')) 29 (by kernel_rfl) ((Only.refl _ _).drew) (fun hHeld => ?_)
            refine wpAnyL_take (i := 0) (v := ?v351) rfl (by kernel_rfl) (by kernel_rfl) (by kernel_rfl) (by kernel_rfl) (fun _ _ _ h => h) (Or.inl ⟨by rfl, ?hy351⟩) (by assumption) ?rest351
            case hy351 =>
              intro w hSw
              go_simp
              try with_reducible rfl
            try simp only [Act.put, List.setIfInBounds_toArray, List.set_cons_zero, List.set_cons_succ, List.getElem_toArray, List.getElem_cons_succ, List.getElem_cons_zero]
            refine wpAnyL_take (i := 1) (v := ?v352) rfl (by kernel_rfl) (by kernel_rfl) (by kernel_rfl) (by kernel_rfl) (fun _ _ _ h => h) (Or.inl ⟨by rfl, ?hy352⟩) (by assumption) ?rest352
            case hy352 =>
              intro w hSw
              go_simp
              try with_reducible rfl
            try simp only [Act.put, List.setIfInBounds_toArray, List.set_cons_zero, List.set_cons_succ, List.getElem_toArray, List.getElem_cons_succ, List.getElem_cons_zero]
            refine wpAnyL_take (i := 2) (v := ?v353) rfl (by kernel_rfl) (by kernel_rfl) (by kernel_rfl) (by kernel_rfl) (fun _ _ _ h => h) (Or.inl ⟨by rfl, ?hy353⟩) (by assumption) ?rest353
            case hy353 =>
              intro w hSw
              (have q := hSw.cell (unhide E0) (fun e => e); go_simp; try with_reducible rfl)
            try simp only [Act.put, List.setIfInBounds_toArray, List.set_cons_zero, List.set_cons_succ, List.getElem_toArray, List.getElem_cons_succ, List.getElem_cons_zero]
            refine wpAnyL_take (i := 3) (v := ?v354) rfl (by kernel_rfl) (by kernel_rfl) (by kernel_rfl) (by kernel_rfl) (fun _ _ _ h => h) (Or.inl ⟨by rfl, ?hy354⟩) (by assumption) ?rest354
            case hy354 =>
              intro w hSw
              go_simp
              try with_reducible rfl
            try simp only [Act.put, List.setIfInBounds_toArray, List.set_cons_zero, List.set_cons_succ, List.getElem_toArray, List.getElem_cons_succ, List.getElem_cons_zero]
            refine wpAnyL_take (i := 4) (v := ?v355) rfl (by kernel_rfl) (by kernel_rfl) (by kernel_rfl) (by kernel_rfl) (fun _ _ _ h => h) (Or.inl ⟨by rfl, ?hy355⟩) (by assumption) ?rest355
            case hy355 =>
              intro w hSw
              go_simp
              try with_reducible rfl
            try simp only [Act.put, List.setIfInBounds_toArray, List.set_cons_zero, List.set_cons_succ, List.getElem_toArray, List.getElem_cons_succ, List.getElem_cons_zero]
            refine wpAnyL_take (i := 5) (v := ?v356) rfl (by kernel_rfl) (by kernel_rfl) (by kernel_rfl) (by kernel_rfl) (fun _ _ _ h => h) (Or.inl ⟨by rfl, ?hy356⟩) (by assumption) ?rest356
            case hy356 =>
              intro w hSw
              go_simp
              try with_reducible rfl
            try simp only [Act.put, List.setIfInBounds_toArray, List.set_cons_zero, List.set_cons_succ, List.getElem_toArray, List.getElem_cons_succ, List.getElem_cons_zero]
            refine wpAnyL_take (i := 6) (v := ?v357) rfl (by kernel_rfl) (by kernel_rfl) (by kernel_rfl) (by kernel_rfl) (fun _ _ _ h => h) (Or.inl ⟨by rfl, ?hy357⟩) (by assumption) ?rest357
            case hy357 =>
              intro w hSw
              (have q := hSw.cell (unhide T0) (fun e => e); go_simp; try with_reducible rfl)
            try simp only [Act.put, List.setIfInBounds_toArray, List.set_cons_zero, List.set_cons_succ, List.getElem_toArray, List.getElem_cons_succ, List.getElem_cons_zero]
            refine wpAnyL_take (i := 7) (v := ?v358) rfl (by kernel_rfl) (by kernel_rfl) (by kernel_rfl) (by kernel_rfl) (fun _ _ _ h => h) (Or.inl ⟨by rfl, ?hy358⟩) (by assumption) ?rest358
            case hy358 =>
              intro w hSw
              go_simp
              try with_reducible rfl
            try simp only [Act.put, List.setIfInBounds_toArray, List.set_cons_zero, List.set_cons_succ, List.getElem_toArray, List.getElem_cons_succ, List.getElem_cons_zero]
            refine wpAnyL_take (i := 8) (v := ?v359) rfl (by kernel_rfl) (by kernel_rfl) (by kernel_rfl) (by kernel_rfl) (fun _ _ _ h => h) (Or.inl ⟨by rfl, ?hy359⟩) (by assumption) ?rest359
            case hy359 =>
              intro w hSw
              go_simp
              try with_reducible rfl
            try simp only [Act.put, List.setIfInBounds_toArray, List.set_cons_zero, List.set_cons_succ, List.getElem_toArray, List.getElem_cons_succ, List.getElem_cons_zero]
            refine wpAnyL_take (i := 9) (v := ?v360) rfl (by kernel_rfl) (by kernel_rfl) (by kernel_rfl) (by kernel_rfl) (fun _ _ _ h => h) (Or.inl ⟨by rfl, ?hy360⟩) (by assumption) ?rest360
            case hy360 =>
              intro w hSw
              (have q := hSw.cell (unhide E1) (fun e => e); go_simp; try with_reducible rfl)
            try simp only [Act.put, List.setIfInBounds_toArray, List.set_cons_zero, List.set_cons_succ, List.getElem_toArray, List.getElem_cons_succ, List.getElem_cons_zero]
            refine wpAnyL_take (i := 10) (v := ?v361) rfl (by kernel_rfl) (by kernel_rfl) (by kernel_rfl) (by kernel_rfl) (fun _ _ _ h => h) (Or.inl ⟨by rfl, ?hy361⟩) (by assumption) ?rest361
            case hy361 =>
              intro w hSw
              go_simp
              try with_reducible rfl
            try simp only [Act.put, List.setIfInBounds_toArray, List.set_cons_zero, List.set_cons_succ, List.getElem_toArray, List.getElem_cons_succ, List.getElem_cons_zero]
            refine wpAnyL_take (i := 11) (v := ?v362) rfl (by kernel_rfl) (by kernel_rfl) (by kernel_rfl) (by kernel_rfl) (fun _ _ _ h => h) (Or.inl ⟨by rfl, ?hy362⟩) (by assumption) ?rest362
            case hy362 =>
              intro w hSw
              go_simp
              try with_reducible rfl
            try simp only [Act.put, List.setIfInBounds_toArray, List.set_cons_zero, List.set_cons_succ, List.getElem_toArray, List.getElem_cons_succ, List.getElem_cons_zero]
            refine wpAnyL_take (i := 12) (v := ?v363) rfl (by kernel_rfl) (by kernel_rfl) (by kernel_rfl) (by kernel_rfl) (fun _ _ _ h => h) (Or.inl ⟨by rfl, ?hy363⟩) (by assumption) ?rest363
            case hy363 =>
              intro w hSw
              go_simp
              try with_reducible rfl
            try simp only [Act.put, List.setIfInBounds_toArray, List.set_cons_zero, List.set_cons_succ, List.getElem_toArray, List.getElem_cons_succ, List.getElem_cons_zero]
            refine wpAnyL_take (i := 13) (v := ?v364) rfl (by kernel_rfl) (by kernel_rfl) (by kernel_rfl) (by kernel_rfl) (fun _ _ _ h => h) (Or.inl ⟨by rfl, ?hy364⟩) (by assumption) ?rest364
            case hy364 =>
              intro w hSw
              (have q := hSw.cell (unhide T1) (fun e => e); go_simp; try with_reducible rfl)
            try simp only [Act.put, List.setIfInBounds_toArray, List.set_cons_zero, List.set_cons_succ, List.getElem_toArray, List.getElem_cons_succ, List.getElem_cons_zero]
            refine wpAnyL_take (i := 14) (v := ?v365) rfl (by kernel_rfl) (by kernel_rfl) (by kernel_rfl) (by kernel_rfl) (fun _ _ _ h => h) (Or.inl ⟨by rfl, ?hy365⟩) (by assumption) ?rest365
            case hy365 =>
              intro w hSw
              go_simp
              try with_reducible rfl
            try simp only [Act.put, List.setIfInBounds_toArray, List.set_cons_zero, List.set_cons_succ, List.getElem_toArray, List.getElem_cons_succ, List.getElem_cons_zero]
            refine wpAnyL_take (i := 15) (v := ?v366) rfl (by kernel_rfl) (by kernel_rfl) (by kernel_rfl) (by kernel_rfl) (fun _ _ _ h => h) (Or.inl ⟨by rfl, ?hy366⟩) (by assumption) ?rest366
            case hy366 =>
              intro w hSw
              go_simp
              try with_reducible rfl
            try simp only [Act.put, List.setIfInBounds_toArray, List.set_cons_zero, List.set_cons_succ, List.getElem_toArray, List.getElem_cons_succ, List.getElem_cons_zero]
            refine wpAnyL_take (i := 16) (v := ?v367) rfl (by kernel_rfl) (by kernel_rfl) (by kernel_rfl) (by kernel_rfl) (fun _ _ _ h => h) (Or.inl ⟨by rfl, ?hy367⟩) (by assumption) ?rest367
            case hy367 =>
              intro w hSw
              (have q := hSw.cell (unhide E2) (fun e => e); go_simp; try with_reducible rfl)
            try simp only [Act.put, List.setIfInBounds_toArray, List.set_cons_zero, List.set_cons_succ, List.getElem_toArray, List.getElem_cons_succ, List.getElem_cons_zero]
            refine wpAnyL_take (i := 17) (v := ?v368) rfl (by kernel_rfl) (by kernel_rfl) (by kernel_rfl) (by kernel_rfl) (fun _ _ _ h => h) (Or.inl ⟨by rfl, ?hy368⟩) (by assumption) ?rest368
            case hy368 =>
              intro w hSw
              go_simp
              try with_reducible rfl
            try simp only [Act.put, List.setIfInBounds_toArray, List.set_cons_zero, List.set_cons_succ, List.getElem_toArray, List.getElem_cons_succ, List.getElem_cons_zero]
            refine wpAnyL_take (i := 18) (v := ?v369) rfl (by kernel_rfl) (by kernel_rfl) (by kernel_rfl) (by kernel_rfl) (fun _ _ _ h => h) (Or.inl ⟨by rfl, ?hy369⟩) (by assumption) ?rest369
            case hy369 =>
              intro w hSw
              go_simp
              try with_reducible rfl
            try simp only [Act.put, List.setIfInBounds_toArray, List.set_cons_zero, List.set_cons_succ, List.getElem_toArray, List.getElem_cons_succ, List.getElem_cons_zero]
            refine wpAnyL_take (i := 19) (v := ?v370) rfl (by kernel_rfl) (by kernel_rfl) (by kernel_rfl) (by kernel_rfl) (fun _ _ _ h => h) (Or.inl ⟨by rfl, ?hy370⟩) (by assumption) ?rest370
            case hy370 =>
              intro w hSw
              go_simp
              try with_reducible rfl
            try simp only [Act.put, List.setIfInBounds_toArray, List.set_cons_zero, List.set_cons_succ, List.getElem_toArray, List.getElem_cons_succ, List.getElem_cons_zero]
            refine wpAnyL_take (i := 20) (v := ?v371) rfl (by kernel_rfl) (by kernel_rfl) (by kernel_rfl) (by kernel_rfl) (fun _ _ _ h => h) (Or.inl ⟨by rfl, ?hy371⟩) (by assumption) ?rest371
            case hy371 =>
              intro w hSw
              (have q := hSw.cell (unhide T2) (fun e => e); go_simp; try with_reducible rfl)
            try simp only [Act.put, List.setIfInBounds_toArray, List.set_cons_zero, List.set_cons_succ, List.getElem_toArray, List.getElem_cons_succ, List.getElem_cons_zero]
            refine wpAnyL_take (i := 21) (v := ?v372) rfl (by kernel_rfl) (by kernel_rfl) (by kernel_rfl) (by kernel_rfl) (fun _ _ _ h => h) (Or.inl ⟨by rfl, ?hy372⟩) (by assumption) ?rest372
            case hy372 =>
              intro w hSw
              go_simp
              try with_reducible rfl
            try simp only [Act.put, List.setIfInBounds_toArray, List.set_cons_zero, List.set_cons_succ, List.getElem_toArray, List.getElem_cons_succ, List.getElem_cons_zero]
            refine wpAnyL_take (i := 22) (v := ?v373) rfl (by kernel_rfl) (by kernel_rfl) (by kernel_rfl) (by kernel_rfl) (fun _ _ _ h => h) (Or.inl ⟨by rfl, ?hy373⟩) (by assumption) ?rest373
            case hy373 =>
              intro w hSw
              go_simp
              try with_reducible rfl
            try simp only [Act.put, List.setIfInBounds_toArray, List.set_cons_zero, List.set_cons_succ, List.getElem_toArray, List.getElem_cons_succ, List.getElem_cons_zero]
            refine wpAnyL_take (i := 23) (v := ?v374) rfl (by kernel_rfl) (by kernel_rfl) (by kernel_rfl) (by kernel_rfl) (fun _ _ _ h => h) (Or.inl ⟨by rfl, ?hy374⟩) (by assumption) ?rest374
            case hy374 =>
              intro w hSw
              (have q := hSw.cell (unhide E3) (fun e => e); go_simp; try with_reducible rfl)
            try simp only [Act.put, List.setIfInBounds_toArray, List.set_cons_zero, List.set_cons_succ, List.getElem_toArray, List.getElem_cons_succ, List.getElem_cons_zero]
            refine wpAnyL_take (i := 24) (v := ?v375) rfl (by kernel_rfl) (by kernel_rfl) (by kernel_rfl) (by kernel_rfl) (fun _ _ _ h => h) (Or.inl ⟨by rfl, ?hy375⟩) (by assumption) ?rest375
            case hy375 =>
              intro w hSw
              go_simp
              try with_reducible rfl
            try simp only [Act.put, List.setIfInBounds_toArray, List.set_cons_zero, List.set_cons_succ, List.getElem_toArray, List.getElem_cons_succ, List.getElem_cons_zero]
            refine wpAnyL_take (i := 25) (v := ?v376) rfl (by kernel_rfl) (by kernel_rfl) (by kernel_rfl) (by kernel_rfl) (fun _ _ _ h => h) (Or.inl ⟨by rfl, ?hy376⟩) (by assumption) ?rest376
            case hy376 =>
              intro w hSw
              go_simp
              try with_reducible rfl
            try simp only [Act.put, List.setIfInBounds_toArray, List.set_cons_zero, List.set_cons_succ, List.getElem_toArray, List.getElem_cons_succ, List.getElem_cons_zero]
            refine wpAnyL_take (i := 26) (v := ?v377) rfl (by kernel_rfl) (by kernel_rfl) (by kernel_rfl) (by kernel_rfl) (fun _ _ _ h => h) (Or.inl ⟨by rfl, ?hy377⟩) (by assumption) ?rest377
            case hy377 =>
              intro w hSw
              go_simp
              try with_reducible rfl
            try simp only [Act.put, List.setIfInBounds_toArray, List.set_cons_zero, List.set_cons_succ, List.getElem_toArray, List.getElem_cons_succ, List.getElem_cons_zero]
            refine wpAnyL_take (i := 27) (v := ?v378) rfl (by kernel_rfl) (by kernel_rfl) (by kernel_rfl) (by kernel_rfl) (fun _ _ _ h => h) (Or.inl ⟨by rfl, ?hy378⟩) (by assumption) ?rest378
            case hy378 =>
              intro w hSw
              (have q := hSw.cell (unhide T3) (fun e => e); go_simp; try with_reducible rfl)
            try simp only [Act.put, List.setIfInBounds_toArray, List.set_cons_zero, List.set_cons_succ, List.getElem_toArray, List.getElem_cons_succ, List.getElem_cons_zero]
            refine wpAnyL_take (i := 28) (v := ?v379) rfl (by kernel_rfl) (by kernel_rfl) (by kernel_rfl) (by kernel_rfl) (fun _ _ _ h => h) (Or.inl ⟨by rfl, ?hy379⟩) (by assumption) ?rest379
            case hy379 =>
              intro w hSw
              go_simp
              try with_reducible rfl
            try simp only [Act.put, List.setIfInBounds_toArray, List.set_cons_zero, List.set_cons_succ, List.getElem_toArray, List.getElem_cons_succ, List.getElem_cons_zero]
            refine wpAnyL_ready (rs := [29]) (by kernel_rfl) (by simp) ?_
            refine AllReadyL.last rfl (fun K hK => ?_)
            refine step_store_mid rfl 86 (.tmp 8) (.tmp 138) rfl b8 0 (([y0, y1, y2, y3] : List UInt8).map bv).toArray rfl rfl (unhide HT) (unhide HZ4) (ag_one _) ?_
            refine hK.out _ _ (trivial) (fun hHeld => ?_)
            clear hK K
            try simp only [Act.put, List.setIfInBounds_toArray, List.set_cons_zero, List.set_cons_succ, List.getElem_toArray, List.getElem_cons_succ, List.getElem_cons_zero]
            refine wpAnyL_done (by kernel_rfl) ?_ _
            obtain ⟨wc, ec, ac, oc⟩ := restored4 wb.drew b8 [P0, P1, P2, P3] [y0, y1, y2, y3] (unhide AB) rfl
            first
              | rw [← ec]
              | (simp only [List.toList_toArray]; rw [← ec])
            have AC := hide ac
            have OC : Hid (Only (fun j => j = b8) wb wc) := ((Only.refl (fun j => j = b8) wb).drew).trans oc (fun _ _ e => e)
            obtain ⟨Wd, hWd⟩ : ∃ Wd : List UInt8, Wd = [y0, y1, y2, y3] := ⟨_, rfl⟩
            rw [unhide HWW] at HN1
            rw [← hWd] at AC HN1
            have hWl : Wd.length = 4 := by rw [hWd]; rfl
            have HWL4 := hide hWl
            clear ec ac oc hWd hWl HT HZ4 E0 E1 E2 E3 T0 T1 T2 T3 AB HWW hxb
            have HMD : Hid ((rw' 32 key (k + 1)).2 = mk) := HN2
            obtain ⟨NX, hNX⟩ : ∃ NX, NX = next 32 ws Wd 4 := ⟨_, rfl⟩
            have hNl : NX.length = 4 := by rw [hNX]; exact next_length _ _ _ _
            have hNat : ∀ j, j < 4 → NX[j]? = some (gt Wd j ^^^ gt ws (4 * (k - 8) + j)) := fun j hj => by
              rw [hNX, next_at 32 ws Wd j hj, unhide HWL, UInt8.xor_comm, show 4 * k - 32 + j = 4 * (k - 8) + j by omega]
            have HNA := hide hNat
            have HND : Hid ((rw' 32 key (k + 1)).1 = ws ++ NX) := by rw [hNX]; exact HN1
            have HNL := hide hNl
            have OBC : Hid (Only (fun j => j = b8) wa wc) := (unhide OB).trans (unhide OC) (fun _ _ e => e)
            have HCC := hide ((unhide OC).cell (unhide HCB) (fun e => hne8 e.symm))
            clear hNX hNl hNat HN1 HCB
            go_wp2
            go_loopw [9] (fun i wq => ∃ j : Nat, j ≤ 4 ∧ i = .int .i64 j ∧ Hid (Arr wq b8 86 (mixd NX Wd j)) ∧ Hid (Only (fun x => x = b8) wc wq)) (fun i _ => 4 - (intOf i).toNat)
            case atStart => exact ⟨0, Nat.zero_le _, rfl, by rw [mixd_zero]; exact AC, Only.refl _ _⟩
            case round =>
              rename World => wq
              obtain ⟨j, hj, rfl, hat, hot⟩ := hrel
              by_cases hjt : j < 4
              · have hm0 := mixd_at NX Wd 4 j (unhide HNL) (unhide HWL4) hjt
                rw [gt_some Wd j (by have := unhide HWL4; omega)] at hm0
                have HCA := hide ((unhide hat).cell j _ hm0)
                have hf8 := (unhide hat).free j
                have hw2 := (unhide hat).set j (gt Wd j ^^^ gt ws (4 * (k - 8) + j))
                rw [mixd_set _ _ 4 j (unhide HNL) (unhide HWL4) hjt _ (unhide HNA j hjt)] at hw2
                have HWn := hide hw2
                have HOn := hide ((unhide hot).here j (.int .u8 ((gt Wd j ^^^ gt ws (4 * (k - 8) + j)).toNat : Int)))
                have hx := xor_bv (gt Wd j) (gt ws (4 * (k - 8) + j))
                have HC0 := hide ((unhide hot).cell (unhide HCC) (fun e => hne8 e.symm))
                have hgc : wq.cell? ⟨g, (k - 8) * 4 + j, none⟩ = some (.int .u8 ((gt ws (4 * (k - 8) + j)).toNat : Int)) := (unhide hot).cell ((unhide OBC).cell ((unhide OA).cell (word_cell (unhide HOWN) (unhide HWL) (k - 8) j (by omega) hjt) (fun e => e)) hg8) hg8
                have HGC := hide hgc
                obtain ⟨kn, hkn2⟩ : ∃ kn, kn = k - 8 := ⟨_, rfl⟩
                have M5 : Hid (IntKind.i64.wrap ((k : Int) - 8) = (kn : Int)) := by show _ = _; rw [wrap_small _ (by omega) (by omega)]; omega
                have hknk : (kn : Int) < (k : Int) := by omega
                rw [← hkn2] at HGC HWn HOn hx
                clear hm0 hat hot hw2 hgc hkn2
                generalize gt Wd j ^^^ gt ws (4 * kn + j) = z' at *
                generalize gt Wd j = x' at *
                generalize gt ws (4 * kn + j) = y' at *
                have hj4 : (j : Int) < 4 := by omega
                go_wp2_with fail
                refine wp_region_last_drew (S := (fun w' => Only (fun _ => False) wq w')) 17 (by kernel_rfl) ((Only.refl _ _).drew) (fun hHeld => ?_)
                refine wpAnyL_take (i := 0) (v := ?v380) rfl (by kernel_rfl) (by kernel_rfl) (by kernel_rfl) (by kernel_rfl) (fun _ _ _ h => h) (Or.inl ⟨by rfl, ?hy380⟩) (by assumption) ?rest380
                case hy380 =>
                  intro w hSw
                  go_simp
                  try with_reducible rfl
                try simp only [Act.put, List.setIfInBounds_toArray, List.set_cons_zero, List.set_cons_succ, List.getElem_toArray, List.getElem_cons_succ, List.getElem_cons_zero]
                refine wpAnyL_take (i := 1) (v := ?v381) rfl (by kernel_rfl) (by kernel_rfl) (by kernel_rfl) (by kernel_rfl) (fun _ _ _ h => h) (Or.inl ⟨by rfl, ?hy381⟩) (by assumption) ?rest381
                case hy381 =>
                  intro w hSw
                  go_simp
                  try with_reducible rfl
                try simp only [Act.put, List.setIfInBounds_toArray, List.set_cons_zero, List.set_cons_succ, List.getElem_toArray, List.getElem_cons_succ, List.getElem_cons_zero]
                refine wpAnyL_take (i := 2) (v := ?v382) rfl (by kernel_rfl) (by kernel_rfl) (by kernel_rfl) (by kernel_rfl) (fun _ _ _ h => h) (Or.inl ⟨by rfl, ?hy382⟩) (by assumption) ?rest382
                case hy382 =>
                  intro w hSw
                  go_simp
                  try with_reducible rfl
                try simp only [Act.put, List.setIfInBounds_toArray, List.set_cons_zero, List.set_cons_succ, List.getElem_toArray, List.getElem_cons_succ, List.getElem_cons_zero]
                refine wpAnyL_take (i := 3) (v := ?v383) rfl (by kernel_rfl) (by kernel_rfl) (by kernel_rfl) (by kernel_rfl) (fun _ _ _ h => h) (Or.inl ⟨by rfl, ?hy383⟩) (by assumption) ?rest383
                case hy383 =>
                  intro w hSw
                  (have q := hSw.cell (unhide HCA) (fun e => e); go_simp; try with_reducible rfl)
                try simp only [Act.put, List.setIfInBounds_toArray, List.set_cons_zero, List.set_cons_succ, List.getElem_toArray, List.getElem_cons_succ, List.getElem_cons_zero]
                refine wpAnyL_take (i := 4) (v := ?v384) rfl (by kernel_rfl) (by kernel_rfl) (by kernel_rfl) (by kernel_rfl) (fun _ _ _ h => h) (Or.inl ⟨by rfl, ?hy384⟩) (by assumption) ?rest384
                case hy384 =>
                  intro w hSw
                  go_simp
                  try with_reducible rfl
                try simp only [Act.put, List.setIfInBounds_toArray, List.set_cons_zero, List.set_cons_succ, List.getElem_toArray, List.getElem_cons_succ, List.getElem_cons_zero]
                refine wpAnyL_take (i := 5) (v := ?v385) rfl (by kernel_rfl) (by kernel_rfl) (by kernel_rfl) (by kernel_rfl) (fun _ _ _ h => h) (Or.inl ⟨by rfl, ?hy385⟩) (by assumption) ?rest385
                case hy385 =>
                  intro w hSw
                  go_simp
                  try with_reducible rfl
                try simp only [Act.put, List.setIfInBounds_toArray, List.set_cons_zero, List.set_cons_succ, List.getElem_toArray, List.getElem_cons_succ, List.getElem_cons_zero]
                refine wpAnyL_take (i := 6) (v := ?v386) rfl (by kernel_rfl) (by kernel_rfl) (by kernel_rfl) (by kernel_rfl) (fun _ _ _ h => h) (Or.inl ⟨by rfl, ?hy386⟩) (by assumption) ?rest386
                case hy386 =>
                  intro w hSw
                  go_simp
                  try with_reducible rfl
                try simp only [Act.put, List.setIfInBounds_toArray, List.set_cons_zero, List.set_cons_succ, List.getElem_toArray, List.getElem_cons_succ, List.getElem_cons_zero]
                refine wpAnyL_take (i := 7) (v := ?v387) rfl (by kernel_rfl) (by kernel_rfl) (by kernel_rfl) (by kernel_rfl) (fun _ _ _ h => h) (Or.inl ⟨by rfl, ?hy387⟩) (by assumption) ?rest387
                case hy387 =>
                  intro w hSw
                  (have q := hSw.cell (unhide HC0) (fun e => e); go_simp; try with_reducible rfl)
                try simp only [Act.put, List.setIfInBounds_toArray, List.set_cons_zero, List.set_cons_succ, List.getElem_toArray, List.getElem_cons_succ, List.getElem_cons_zero]
                refine wpAnyL_take (i := 8) (v := ?v388) rfl (by kernel_rfl) (by kernel_rfl) (by kernel_rfl) (by kernel_rfl) (fun _ _ _ h => h) (Or.inl ⟨by rfl, ?hy388⟩) (by assumption) ?rest388
                case hy388 =>
                  intro w hSw
                  go_simp
                  try with_reducible rfl
                try simp only [Act.put, List.setIfInBounds_toArray, List.set_cons_zero, List.set_cons_succ, List.getElem_toArray, List.getElem_cons_succ, List.getElem_cons_zero]
                refine wpAnyL_take (i := 9) (v := ?v389) rfl (by kernel_rfl) (by kernel_rfl) (by kernel_rfl) (by kernel_rfl) (fun _ _ _ h => h) (Or.inl ⟨by rfl, ?hy389⟩) (by assumption) ?rest389
                case hy389 =>
                  intro w hSw
                  go_simp
                  try with_reducible rfl
                try simp only [Act.put, List.setIfInBounds_toArray, List.set_cons_zero, List.set_cons_succ, List.getElem_toArray, List.getElem_cons_succ, List.getElem_cons_zero]
                refine wpAnyL_take (i := 10) (v := ?v390) rfl (by kernel_rfl) (by kernel_rfl) (by kernel_rfl) (by kernel_rfl) (fun _ _ _ h => h) (Or.inl ⟨by rfl, ?hy390⟩) (by assumption) ?rest390
                case hy390 =>
                  intro w hSw
                  (go_simp; rw [unhide M5]; try with_reducible rfl)
                try simp only [Act.put, List.setIfInBounds_toArray, List.set_cons_zero, List.set_cons_succ, List.getElem_toArray, List.getElem_cons_succ, List.getElem_cons_zero]
                refine wpAnyL_take (i := 11) (v := ?v391) rfl (by kernel_rfl) (by kernel_rfl) (by kernel_rfl) (by kernel_rfl) (fun _ _ _ h => h) (Or.inl ⟨by rfl, ?hy391⟩) (by assumption) ?rest391
                case hy391 =>
                  intro w hSw
                  go_simp
                  try with_reducible rfl
                try simp only [Act.put, List.setIfInBounds_toArray, List.set_cons_zero, List.set_cons_succ, List.getElem_toArray, List.getElem_cons_succ, List.getElem_cons_zero]
                refine wpAnyL_take (i := 12) (v := ?v392) rfl (by kernel_rfl) (by kernel_rfl) (by kernel_rfl) (by kernel_rfl) (fun _ _ _ h => h) (Or.inl ⟨by rfl, ?hy392⟩) (by assumption) ?rest392
                case hy392 =>
                  intro w hSw
                  go_simp
                  try with_reducible rfl
                try simp only [Act.put, List.setIfInBounds_toArray, List.set_cons_zero, List.set_cons_succ, List.getElem_toArray, List.getElem_cons_succ, List.getElem_cons_zero]
                refine wpAnyL_take (i := 13) (v := ?v393) rfl (by kernel_rfl) (by kernel_rfl) (by kernel_rfl) (by kernel_rfl) (fun _ _ _ h => h) (Or.inl ⟨by rfl, ?hy393⟩) (by assumption) ?rest393
                case hy393 =>
                  intro w hSw
                  go_simp
                  try with_reducible rfl
                try simp only [Act.put, List.setIfInBounds_toArray, List.set_cons_zero, List.set_cons_succ, List.getElem_toArray, List.getElem_cons_succ, List.getElem_cons_zero]
                refine wpAnyL_take (i := 14) (v := ?v394) rfl (by kernel_rfl) (by kernel_rfl) (by kernel_rfl) (by kernel_rfl) (fun _ _ _ h => h) (Or.inl ⟨by rfl, ?hy394⟩) (by assumption) ?rest394
                case hy394 =>
                  intro w hSw
                  (have q := hSw.cell (unhide HGC) (fun e => e); go_simp; try with_reducible rfl)
                try simp only [Act.put, List.setIfInBounds_toArray, List.set_cons_zero, List.set_cons_succ, List.getElem_toArray, List.getElem_cons_succ, List.getElem_cons_zero]
                refine wpAnyL_take (i := 15) (v := ?v395) rfl (by kernel_rfl) (by kernel_rfl) (by kernel_rfl) (by kernel_rfl) (fun _ _ _ h => h) (Or.inl ⟨by rfl, ?hy395⟩) (by assumption) ?rest395
                case hy395 =>
                  intro w hSw
                  go_simp
                  try with_reducible rfl
                try simp only [Act.put, List.setIfInBounds_toArray, List.set_cons_zero, List.set_cons_succ, List.getElem_toArray, List.getElem_cons_succ, List.getElem_cons_zero]
                refine wpAnyL_take (i := 16) (v := ?v396) rfl (by kernel_rfl) (by kernel_rfl) (by kernel_rfl) (by kernel_rfl) (fun _ _ _ h => h) (Or.inl ⟨by rfl, ?hy396⟩) (by assumption) ?rest396
                case hy396 =>
                  intro w hSw
                  go_simp
                  try with_reducible rfl
                try simp only [Act.put, List.setIfInBounds_toArray, List.set_cons_zero, List.set_cons_succ, List.getElem_toArray, List.getElem_cons_succ, List.getElem_cons_zero]
                have hc8 := unhide HCA
                refine wpAnyL_ready (rs := [17]) (by kernel_rfl) (by simp) ?_
                refine AllReadyL.last rfl (fun K hK => ?_)
                go_simp
                refine hK.out _ _ (trivial) (fun hHeld => ?_)
                clear hK K
                try simp only [Act.put, List.setIfInBounds_toArray, List.set_cons_zero, List.set_cons_succ, List.getElem_toArray, List.getElem_cons_succ, List.getElem_cons_zero]
                refine wpAnyL_done (by kernel_rfl) ?_ _
                go_wp2
                go_roundw
                case rel => exact ⟨j + 1, by omega, by go_num, unhide HWn, (unhide HOn).drew⟩
                case measure => simp [intOf]; omega
              · obtain rfl : j = 4 := by omega
                have hat2 := unhide hat
                rw [mixd_all _ _ 4 (unhide HNL) (unhide HWL4)] at hat2
                obtain ⟨N, hN⟩ : ∃ N, N = NX := ⟨_, rfl⟩
                rw [← hN] at hat2 HND HNL
                obtain ⟨wd, hwd⟩ : ∃ wd, wd = wq := ⟨_, rfl⟩
                rw [← hwd] at hat2 hot ⊢
                have A9 := hide hat2
                have O9 : Hid (Only (fun j => j = b8) wa wd) := (unhide OBC).trans (unhide hot) (fun _ _ e => e)
                have hmk' : mk = mk := rfl
                clear hN hat hat2 hwd HNA
                have HMK' := hide hmk'
                clear hmk'
                have hgb : ∀ x, (Value.slice (some ⟨g, 0, none⟩) k cap).ownBlock = some x → w6.heap.size ≤ x ∧ x < wr.heap.size := (unhide HOWN).lt
                have OWD : Hid (Only (fun j => j = cb) w6 wd) := (unhide OWA).trans (unhide O9) (fun j hj e => by omega)
                have hblkd : wd.heap[cb]? = some (.cells ([Value.slice (some ⟨g, 0, none⟩) k cap] ++ (A.map bv ++ B.map bv)).toArray 83 (0, 0)) := (unhide O9).heap ((unhide OA).heap (unhide HBLK) (fun e => e)) (fun e => hne8 e.symm)
                have hownd : wd.drew.ownsRow w6.heap.size 86 4 (.slice (some ⟨g, 0, none⟩) k cap) k (ws.map bv) := (unhide O9).owns ((unhide OA).owns (unhide HOWN) (fun _ _ e => e)) (fun x hx e => by have := (hgb x hx).2; omega)
                have hc0d := rc_zero hblkd
                have hnc : ¬ ((Value.slice (some ⟨g, 0, none⟩) k cap).ownBlock = some cb) := fun e => by have := (hgb cb e).1; omega
                have hnb : ¬ ((Value.slice (some ⟨g, 0, none⟩) k cap).ownBlock = some b8) := fun e => by have := (hgb b8 e).2; omega
                have hwd6 := (unhide OWD).size
                obtain ⟨g2, cap2, w3, hrun, own3, op3⟩ := push4 wd.drew w6.heap.size (.slice (some ⟨g, 0, none⟩) k cap) k ws N (unhide HNL) hownd (by omega) hwd6
                have hblk3 : w3.heap[cb]? = some (.cells ([Value.slice (some ⟨g, 0, none⟩) k cap] ++ (A.map bv ++ B.map bv)).toArray 83 (0, 0)) := op3.heap hblkd hnc
                have hc3 := rc_zero hblk3
                have hf3 : w3.frozen? ⟨cb, 0, none⟩ = false := by simp [World.frozen?, hblk3]
                have HRUN := hide hrun
                have HB3 : Hid ((w3.setCell ⟨cb, 0, none⟩ (.slice (some ⟨g2, 0, none⟩) (k + 1) cap2)).heap[cb]? = some (.cells ([Value.slice (some ⟨g2, 0, none⟩) (k + 1) cap2] ++ (A.map bv ++ B.map bv)).toArray 83 (0, 0))) := by
                  have h := two_setCell (i := 0) (u := Value.slice (some ⟨g2, 0, none⟩) (k + 1) cap2) hblk3
                  show _ = _
                  rw [h]
                  simp
                have OW3 : Hid (Only (fun j => j = cb) w6 w3) := ((unhide OWD).drew).trans op3 (fun j hj e => by have := (hgb j e).1; omega)
                have HOW3 : Hid ((w3.setCell ⟨cb, 0, none⟩ (.slice (some ⟨g2, 0, none⟩) (k + 1) cap2)).ownsRow w6.heap.size 86 4 (.slice (some ⟨g2, 0, none⟩) (k + 1) cap2) (k + 1) ((rw' 32 key (k + 1)).1.map bv)) := by
                  rw [unhide HND]
                  exact ((Only.refl (fun j => j = cb) w3).here 0 _).owns own3 (fun x hx e => by have := (own3.lt x hx).1; omega)
                have HO3 : Hid (Only (fun j => j = cb) w6 (w3.setCell ⟨cb, 0, none⟩ (.slice (some ⟨g2, 0, none⟩) (k + 1) cap2))) := (unhide OW3).here 0 _
                have HC0D := hide hc0d
                have OP3 : Hid (Only (fun j => (Value.slice (some ⟨g, 0, none⟩) k cap).ownBlock = some j) wd w3) := ((Only.refl (fun j => (Value.slice (some ⟨g, 0, none⟩) k cap).ownBlock = some j) wd).drew).trans op3 (fun _ _ e => e)
                clear hrun own3 op3 hblkd hblk3 hownd hc0d hwd6
                go_wp2_with fail
                refine wp_region_last_drew (S := (fun w' => Only (fun j => (Value.slice (some ⟨g, 0, none⟩) k cap).ownBlock = some j) wd w')) 10 (by kernel_rfl) ((Only.refl _ _).drew) (fun hHeld => ?_)
                refine wpAnyL_take (i := 0) (v := ?v397) rfl (by kernel_rfl) (by kernel_rfl) (by kernel_rfl) (by kernel_rfl) (fun _ _ _ h => h) (Or.inl ⟨by rfl, ?hy397⟩) (by assumption) ?rest397
                case hy397 =>
                  intro w hSw
                  go_simp
                  try with_reducible rfl
                try simp only [Act.put, List.setIfInBounds_toArray, List.set_cons_zero, List.set_cons_succ, List.getElem_toArray, List.getElem_cons_succ, List.getElem_cons_zero]
                refine wpAnyL_take (i := 1) (v := ?v398) rfl (by kernel_rfl) (by kernel_rfl) (by kernel_rfl) (by kernel_rfl) (fun _ _ _ h => h) (Or.inl ⟨by rfl, ?hy398⟩) (by assumption) ?rest398
                case hy398 =>
                  intro w hSw
                  go_simp
                  try with_reducible rfl
                try simp only [Act.put, List.setIfInBounds_toArray, List.set_cons_zero, List.set_cons_succ, List.getElem_toArray, List.getElem_cons_succ, List.getElem_cons_zero]
                refine wpAnyL_take (i := 2) (v := ?v399) rfl (by kernel_rfl) (by kernel_rfl) (by kernel_rfl) (by kernel_rfl) (fun _ _ _ h => h) (Or.inl ⟨by rfl, ?hy399⟩) (by assumption) ?rest399
                case hy399 =>
                  intro w hSw
                  go_simp
                  try with_reducible rfl
                try simp only [Act.put, List.setIfInBounds_toArray, List.set_cons_zero, List.set_cons_succ, List.getElem_toArray, List.getElem_cons_succ, List.getElem_cons_zero]
                refine wpAnyL_take (i := 3) (v := ?v400) rfl (by kernel_rfl) (by kernel_rfl) (by kernel_rfl) (by kernel_rfl) (fun _ _ _ h => h) (Or.inl ⟨by rfl, ?hy400⟩) (by assumption) ?rest400
                case hy400 =>
                  intro w hSw
                  go_simp
                  try with_reducible rfl
                try simp only [Act.put, List.setIfInBounds_toArray, List.set_cons_zero, List.set_cons_succ, List.getElem_toArray, List.getElem_cons_succ, List.getElem_cons_zero]
                refine wpAnyL_take (i := 4) (v := ?v401) rfl (by kernel_rfl) (by kernel_rfl) (by kernel_rfl) (by kernel_rfl) (fun _ _ _ h => h) (Or.inl ⟨by rfl, ?hy401⟩) (by assumption) ?rest401
                case hy401 =>
                  intro w hSw
                  (have q := hSw.cell (unhide HC0D) hnc; go_simp; try with_reducible rfl)
                try simp only [Act.put, List.setIfInBounds_toArray, List.set_cons_zero, List.set_cons_succ, List.getElem_toArray, List.getElem_cons_succ, List.getElem_cons_zero]
                refine wpAnyL_take (i := 5) (v := ?v402) rfl (by kernel_rfl) (by kernel_rfl) (by kernel_rfl) (by kernel_rfl) (fun _ _ _ h => h) (Or.inl ⟨by rfl, ?hy402⟩) (by assumption) ?rest402
                case hy402 =>
                  intro w hSw
                  (refine exec_load_mid 86 (.tmp 8) ?_ b8 0 ?_ (N.map bv) _ (range_only (unhide A9).range hSw hnb) Try.underW rfl (by rw [Try.sizeW]; simp [unhide HNL]) <;> rfl)
                try simp only [Act.put, List.setIfInBounds_toArray, List.set_cons_zero, List.set_cons_succ, List.getElem_toArray, List.getElem_cons_succ, List.getElem_cons_zero]
                refine wpAnyL_ready (rs := [6]) (by kernel_rfl) (by simp) ?_
                refine AllReadyL.cons rfl (fun K hK => ?_) AllReadyL.nil
                refine step_rowW rfl (.tmp 165) rfl N (unhide HNL) rfl ?_
                refine hK.out _ _ ((((Only.refl _ wd).drew).alloc _)) (fun hHeld => ?_)
                clear hK K
                try simp only [Act.put, List.setIfInBounds_toArray, List.set_cons_zero, List.set_cons_succ, List.getElem_toArray, List.getElem_cons_succ, List.getElem_cons_zero]
                refine wpAnyL_ready (rs := [7]) (by kernel_rfl) (by simp) ?_
                refine AllReadyL.cons rfl (fun K hK => ?_) AllReadyL.nil
                refine step_append_run' rfl (.tmp 164) (.tmp 166) 80 rfl _ _ _ _ rfl rfl (unhide HRUN) ?_
                refine hK.out _ _ ((unhide OP3)) (fun hHeld => ?_)
                clear hK K
                try simp only [Act.put, List.setIfInBounds_toArray, List.set_cons_zero, List.set_cons_succ, List.getElem_toArray, List.getElem_cons_succ, List.getElem_cons_zero]
                refine wpAnyL_ready (rs := [8]) (by kernel_rfl) (by simp) ?_
                refine AllReadyL.cons rfl (fun K hK => ?_) AllReadyL.nil
                go_simp
                refine hK.out _ _ ((unhide OP3)) (fun hHeld => ?_)
                clear hK K
                try simp only [Act.put, List.setIfInBounds_toArray, List.set_cons_zero, List.set_cons_succ, List.getElem_toArray, List.getElem_cons_succ, List.getElem_cons_zero]
                refine wpAnyL_take (i := 9) (v := ?v403) rfl (by kernel_rfl) (by kernel_rfl) (by kernel_rfl) (by kernel_rfl) (fun _ _ _ h => h) (Or.inl ⟨by rfl, ?hy403⟩) (by assumption) ?rest403
                case hy403 =>
                  intro w hSw
                  go_simp
                  try with_reducible rfl
                try simp only [Act.put, List.setIfInBounds_toArray, List.set_cons_zero, List.set_cons_succ, List.getElem_toArray, List.getElem_cons_succ, List.getElem_cons_zero]
                refine wpAnyL_ready (rs := [10]) (by kernel_rfl) (by simp) ?_
                refine AllReadyL.last rfl (fun K hK => ?_)
                go_simp
                refine hK.out _ _ (trivial) (fun hHeld => ?_)
                clear hK K
                try simp only [Act.put, List.setIfInBounds_toArray, List.set_cons_zero, List.set_cons_succ, List.getElem_toArray, List.getElem_cons_succ, List.getElem_cons_zero]
                refine wpAnyL_done (by kernel_rfl) ?_ _
                go_wp2
                go_roundw
                case rel => exact ⟨k + 1, by omega, by go_num, by rw [unhide HMD], some ⟨g2, 0, none⟩, cap2, unhide HB3, unhide HOW3, unhide HO3⟩
                case measure => simp [intOf]; omega
          · rw [if_neg hd0] at HWW HN2
            rw [if_neg (show ¬ (32 = 32 ∧ d = 4) from fun e => hd4 e.2)] at HWW
            have hdb : ((d : Int) == 0) = false := by simp; omega
            have hdb4 : ((d : Int) == 4) = false := by simp; omega
            clear hd0 hd
            obtain ⟨Wd, hWd⟩ : ∃ Wd : List UInt8, Wd = [P0, P1, P2, P3] := ⟨_, rfl⟩
            rw [unhide HWW] at HN1
            rw [← hWd] at AB HN1
            have hWl : Wd.length = 4 := by rw [hWd]; rfl
            have HWL4 := hide hWl
            have AC := AB
            have OC : Hid (Only (fun j => j = b8) wb wb) := Only.refl _ _
            obtain ⟨wc, hwc⟩ : ∃ wc, wc = wb := ⟨_, rfl⟩
            have HQC := hide hwc
            clear hWd hWl E0 E1 E2 E3 T0 T1 T2 T3 AB HWW hxb hwc
            have HMD : Hid ((rw' 32 key (k + 1)).2 = mk) := HN2
            obtain ⟨NX, hNX⟩ : ∃ NX, NX = next 32 ws Wd 4 := ⟨_, rfl⟩
            have hNl : NX.length = 4 := by rw [hNX]; exact next_length _ _ _ _
            have hNat : ∀ j, j < 4 → NX[j]? = some (gt Wd j ^^^ gt ws (4 * (k - 8) + j)) := fun j hj => by
              rw [hNX, next_at 32 ws Wd j hj, unhide HWL, UInt8.xor_comm, show 4 * k - 32 + j = 4 * (k - 8) + j by omega]
            have HNA := hide hNat
            have HND : Hid ((rw' 32 key (k + 1)).1 = ws ++ NX) := by rw [hNX]; exact HN1
            have HNL := hide hNl
            have OBC : Hid (Only (fun j => j = b8) wa wb) := (unhide OB).trans (unhide OC) (fun _ _ e => e)
            have HCC := hide ((unhide OC).cell (unhide HCB) (fun e => hne8 e.symm))
            clear hNX hNl hNat HN1 HCB
            go_wp2
            go_loopw [9] (fun i wq => ∃ j : Nat, j ≤ 4 ∧ i = .int .i64 j ∧ Hid (Arr wq b8 86 (mixd NX Wd j)) ∧ Hid (Only (fun x => x = b8) wb wq)) (fun i _ => 4 - (intOf i).toNat)
            case atStart => exact ⟨0, Nat.zero_le _, rfl, by rw [mixd_zero]; exact AC, Only.refl _ _⟩
            case round =>
              rename World => wq
              obtain ⟨j, hj, rfl, hat, hot⟩ := hrel
              by_cases hjt : j < 4
              · have hm0 := mixd_at NX Wd 4 j (unhide HNL) (unhide HWL4) hjt
                rw [gt_some Wd j (by have := unhide HWL4; omega)] at hm0
                have HCA := hide ((unhide hat).cell j _ hm0)
                have hf8 := (unhide hat).free j
                have hw2 := (unhide hat).set j (gt Wd j ^^^ gt ws (4 * (k - 8) + j))
                rw [mixd_set _ _ 4 j (unhide HNL) (unhide HWL4) hjt _ (unhide HNA j hjt)] at hw2
                have HWn := hide hw2
                have HOn := hide ((unhide hot).here j (.int .u8 ((gt Wd j ^^^ gt ws (4 * (k - 8) + j)).toNat : Int)))
                have hx := xor_bv (gt Wd j) (gt ws (4 * (k - 8) + j))
                have HC0 := hide ((unhide hot).cell (unhide HCC) (fun e => hne8 e.symm))
                have hgc : wq.cell? ⟨g, (k - 8) * 4 + j, none⟩ = some (.int .u8 ((gt ws (4 * (k - 8) + j)).toNat : Int)) := (unhide hot).cell ((unhide OBC).cell ((unhide OA).cell (word_cell (unhide HOWN) (unhide HWL) (k - 8) j (by omega) hjt) (fun e => e)) hg8) hg8
                have HGC := hide hgc
                obtain ⟨kn, hkn2⟩ : ∃ kn, kn = k - 8 := ⟨_, rfl⟩
                have M5 : Hid (IntKind.i64.wrap ((k : Int) - 8) = (kn : Int)) := by show _ = _; rw [wrap_small _ (by omega) (by omega)]; omega
                have hknk : (kn : Int) < (k : Int) := by omega
                rw [← hkn2] at HGC HWn HOn hx
                clear hm0 hat hot hw2 hgc hkn2
                generalize gt Wd j ^^^ gt ws (4 * kn + j) = z' at *
                generalize gt Wd j = x' at *
                generalize gt ws (4 * kn + j) = y' at *
                have hj4 : (j : Int) < 4 := by omega
                go_wp2_with fail
                refine wp_region_last_drew (S := (fun w' => Only (fun _ => False) wq w')) 17 (by kernel_rfl) ((Only.refl _ _).drew) (fun hHeld => ?_)
                refine wpAnyL_take (i := 0) (v := ?v404) rfl (by kernel_rfl) (by kernel_rfl) (by kernel_rfl) (by kernel_rfl) (fun _ _ _ h => h) (Or.inl ⟨by rfl, ?hy404⟩) (by assumption) ?rest404
                case hy404 =>
                  intro w hSw
                  go_simp
                  try with_reducible rfl
                try simp only [Act.put, List.setIfInBounds_toArray, List.set_cons_zero, List.set_cons_succ, List.getElem_toArray, List.getElem_cons_succ, List.getElem_cons_zero]
                refine wpAnyL_take (i := 1) (v := ?v405) rfl (by kernel_rfl) (by kernel_rfl) (by kernel_rfl) (by kernel_rfl) (fun _ _ _ h => h) (Or.inl ⟨by rfl, ?hy405⟩) (by assumption) ?rest405
                case hy405 =>
                  intro w hSw
                  go_simp
                  try with_reducible rfl
                try simp only [Act.put, List.setIfInBounds_toArray, List.set_cons_zero, List.set_cons_succ, List.getElem_toArray, List.getElem_cons_succ, List.getElem_cons_zero]
                refine wpAnyL_take (i := 2) (v := ?v406) rfl (by kernel_rfl) (by kernel_rfl) (by kernel_rfl) (by kernel_rfl) (fun _ _ _ h => h) (Or.inl ⟨by rfl, ?hy406⟩) (by assumption) ?rest406
                case hy406 =>
                  intro w hSw
                  go_simp
                  try with_reducible rfl
                try simp only [Act.put, List.setIfInBounds_toArray, List.set_cons_zero, List.set_cons_succ, List.getElem_toArray, List.getElem_cons_succ, List.getElem_cons_zero]
                refine wpAnyL_take (i := 3) (v := ?v407) rfl (by kernel_rfl) (by kernel_rfl) (by kernel_rfl) (by kernel_rfl) (fun _ _ _ h => h) (Or.inl ⟨by rfl, ?hy407⟩) (by assumption) ?rest407
                case hy407 =>
                  intro w hSw
                  (have q := hSw.cell (unhide HCA) (fun e => e); go_simp; try with_reducible rfl)
                try simp only [Act.put, List.setIfInBounds_toArray, List.set_cons_zero, List.set_cons_succ, List.getElem_toArray, List.getElem_cons_succ, List.getElem_cons_zero]
                refine wpAnyL_take (i := 4) (v := ?v408) rfl (by kernel_rfl) (by kernel_rfl) (by kernel_rfl) (by kernel_rfl) (fun _ _ _ h => h) (Or.inl ⟨by rfl, ?hy408⟩) (by assumption) ?rest408
                case hy408 =>
                  intro w hSw
                  go_simp
                  try with_reducible rfl
                try simp only [Act.put, List.setIfInBounds_toArray, List.set_cons_zero, List.set_cons_succ, List.getElem_toArray, List.getElem_cons_succ, List.getElem_cons_zero]
                refine wpAnyL_take (i := 5) (v := ?v409) rfl (by kernel_rfl) (by kernel_rfl) (by kernel_rfl) (by kernel_rfl) (fun _ _ _ h => h) (Or.inl ⟨by rfl, ?hy409⟩) (by assumption) ?rest409
                case hy409 =>
                  intro w hSw
                  go_simp
                  try with_reducible rfl
                try simp only [Act.put, List.setIfInBounds_toArray, List.set_cons_zero, List.set_cons_succ, List.getElem_toArray, List.getElem_cons_succ, List.getElem_cons_zero]
                refine wpAnyL_take (i := 6) (v := ?v410) rfl (by kernel_rfl) (by kernel_rfl) (by kernel_rfl) (by kernel_rfl) (fun _ _ _ h => h) (Or.inl ⟨by rfl, ?hy410⟩) (by assumption) ?rest410
                case hy410 =>
                  intro w hSw
                  go_simp
                  try with_reducible rfl
                try simp only [Act.put, List.setIfInBounds_toArray, List.set_cons_zero, List.set_cons_succ, List.getElem_toArray, List.getElem_cons_succ, List.getElem_cons_zero]
                refine wpAnyL_take (i := 7) (v := ?v411) rfl (by kernel_rfl) (by kernel_rfl) (by kernel_rfl) (by kernel_rfl) (fun _ _ _ h => h) (Or.inl ⟨by rfl, ?hy411⟩) (by assumption) ?rest411
                case hy411 =>
                  intro w hSw
                  (have q := hSw.cell (unhide HC0) (fun e => e); go_simp; try with_reducible rfl)
                try simp only [Act.put, List.setIfInBounds_toArray, List.set_cons_zero, List.set_cons_succ, List.getElem_toArray, List.getElem_cons_succ, List.getElem_cons_zero]
                refine wpAnyL_take (i := 8) (v := ?v412) rfl (by kernel_rfl) (by kernel_rfl) (by kernel_rfl) (by kernel_rfl) (fun _ _ _ h => h) (Or.inl ⟨by rfl, ?hy412⟩) (by assumption) ?rest412
                case hy412 =>
                  intro w hSw
                  go_simp
                  try with_reducible rfl
                try simp only [Act.put, List.setIfInBounds_toArray, List.set_cons_zero, List.set_cons_succ, List.getElem_toArray, List.getElem_cons_succ, List.getElem_cons_zero]
                refine wpAnyL_take (i := 9) (v := ?v413) rfl (by kernel_rfl) (by kernel_rfl) (by kernel_rfl) (by kernel_rfl) (fun _ _ _ h => h) (Or.inl ⟨by rfl, ?hy413⟩) (by assumption) ?rest413
                case hy413 =>
                  intro w hSw
                  go_simp
                  try with_reducible rfl
                try simp only [Act.put, List.setIfInBounds_toArray, List.set_cons_zero, List.set_cons_succ, List.getElem_toArray, List.getElem_cons_succ, List.getElem_cons_zero]
                refine wpAnyL_take (i := 10) (v := ?v414) rfl (by kernel_rfl) (by kernel_rfl) (by kernel_rfl) (by kernel_rfl) (fun _ _ _ h => h) (Or.inl ⟨by rfl, ?hy414⟩) (by assumption) ?rest414
                case hy414 =>
                  intro w hSw
                  (go_simp; rw [unhide M5]; try with_reducible rfl)
                try simp only [Act.put, List.setIfInBounds_toArray, List.set_cons_zero, List.set_cons_succ, List.getElem_toArray, List.getElem_cons_succ, List.getElem_cons_zero]
                refine wpAnyL_take (i := 11) (v := ?v415) rfl (by kernel_rfl) (by kernel_rfl) (by kernel_rfl) (by kernel_rfl) (fun _ _ _ h => h) (Or.inl ⟨by rfl, ?hy415⟩) (by assumption) ?rest415
                case hy415 =>
                  intro w hSw
                  go_simp
                  try with_reducible rfl
                try simp only [Act.put, List.setIfInBounds_toArray, List.set_cons_zero, List.set_cons_succ, List.getElem_toArray, List.getElem_cons_succ, List.getElem_cons_zero]
                refine wpAnyL_take (i := 12) (v := ?v416) rfl (by kernel_rfl) (by kernel_rfl) (by kernel_rfl) (by kernel_rfl) (fun _ _ _ h => h) (Or.inl ⟨by rfl, ?hy416⟩) (by assumption) ?rest416
                case hy416 =>
                  intro w hSw
                  go_simp
                  try with_reducible rfl
                try simp only [Act.put, List.setIfInBounds_toArray, List.set_cons_zero, List.set_cons_succ, List.getElem_toArray, List.getElem_cons_succ, List.getElem_cons_zero]
                refine wpAnyL_take (i := 13) (v := ?v417) rfl (by kernel_rfl) (by kernel_rfl) (by kernel_rfl) (by kernel_rfl) (fun _ _ _ h => h) (Or.inl ⟨by rfl, ?hy417⟩) (by assumption) ?rest417
                case hy417 =>
                  intro w hSw
                  go_simp
                  try with_reducible rfl
                try simp only [Act.put, List.setIfInBounds_toArray, List.set_cons_zero, List.set_cons_succ, List.getElem_toArray, List.getElem_cons_succ, List.getElem_cons_zero]
                refine wpAnyL_take (i := 14) (v := ?v418) rfl (by kernel_rfl) (by kernel_rfl) (by kernel_rfl) (by kernel_rfl) (fun _ _ _ h => h) (Or.inl ⟨by rfl, ?hy418⟩) (by assumption) ?rest418
                case hy418 =>
                  intro w hSw
                  (have q := hSw.cell (unhide HGC) (fun e => e); go_simp; try with_reducible rfl)
                try simp only [Act.put, List.setIfInBounds_toArray, List.set_cons_zero, List.set_cons_succ, List.getElem_toArray, List.getElem_cons_succ, List.getElem_cons_zero]
                refine wpAnyL_take (i := 15) (v := ?v419) rfl (by kernel_rfl) (by kernel_rfl) (by kernel_rfl) (by kernel_rfl) (fun _ _ _ h => h) (Or.inl ⟨by rfl, ?hy419⟩) (by assumption) ?rest419
                case hy419 =>
                  intro w hSw
                  go_simp
                  try with_reducible rfl
                try simp only [Act.put, List.setIfInBounds_toArray, List.set_cons_zero, List.set_cons_succ, List.getElem_toArray, List.getElem_cons_succ, List.getElem_cons_zero]
                refine wpAnyL_take (i := 16) (v := ?v420) rfl (by kernel_rfl) (by kernel_rfl) (by kernel_rfl) (by kernel_rfl) (fun _ _ _ h => h) (Or.inl ⟨by rfl, ?hy420⟩) (by assumption) ?rest420
                case hy420 =>
                  intro w hSw
                  go_simp
                  try with_reducible rfl
                try simp only [Act.put, List.setIfInBounds_toArray, List.set_cons_zero, List.set_cons_succ, List.getElem_toArray, List.getElem_cons_succ, List.getElem_cons_zero]
                have hc8 := unhide HCA
                refine wpAnyL_ready (rs := [17]) (by kernel_rfl) (by simp) ?_
                refine AllReadyL.last rfl (fun K hK => ?_)
                go_simp
                refine hK.out _ _ (trivial) (fun hHeld => ?_)
                clear hK K
                try simp only [Act.put, List.setIfInBounds_toArray, List.set_cons_zero, List.set_cons_succ, List.getElem_toArray, List.getElem_cons_succ, List.getElem_cons_zero]
                refine wpAnyL_done (by kernel_rfl) ?_ _
                go_wp2
                go_roundw
                case rel => exact ⟨j + 1, by omega, by go_num, unhide HWn, (unhide HOn).drew⟩
                case measure => simp [intOf]; omega
              · obtain rfl : j = 4 := by omega
                have hat2 := unhide hat
                rw [mixd_all _ _ 4 (unhide HNL) (unhide HWL4)] at hat2
                obtain ⟨N, hN⟩ : ∃ N, N = NX := ⟨_, rfl⟩
                rw [← hN] at hat2 HND HNL
                obtain ⟨wd, hwd⟩ : ∃ wd, wd = wq := ⟨_, rfl⟩
                rw [← hwd] at hat2 hot ⊢
                have A9 := hide hat2
                have O9 : Hid (Only (fun j => j = b8) wa wd) := (unhide OBC).trans (unhide hot) (fun _ _ e => e)
                have hmk' : mk = mk := rfl
                clear hN hat hat2 hwd HNA
                have HMK' := hide hmk'
                clear hmk'
                have hgb : ∀ x, (Value.slice (some ⟨g, 0, none⟩) k cap).ownBlock = some x → w6.heap.size ≤ x ∧ x < wr.heap.size := (unhide HOWN).lt
                have OWD : Hid (Only (fun j => j = cb) w6 wd) := (unhide OWA).trans (unhide O9) (fun j hj e => by omega)
                have hblkd : wd.heap[cb]? = some (.cells ([Value.slice (some ⟨g, 0, none⟩) k cap] ++ (A.map bv ++ B.map bv)).toArray 83 (0, 0)) := (unhide O9).heap ((unhide OA).heap (unhide HBLK) (fun e => e)) (fun e => hne8 e.symm)
                have hownd : wd.drew.ownsRow w6.heap.size 86 4 (.slice (some ⟨g, 0, none⟩) k cap) k (ws.map bv) := (unhide O9).owns ((unhide OA).owns (unhide HOWN) (fun _ _ e => e)) (fun x hx e => by have := (hgb x hx).2; omega)
                have hc0d := rc_zero hblkd
                have hnc : ¬ ((Value.slice (some ⟨g, 0, none⟩) k cap).ownBlock = some cb) := fun e => by have := (hgb cb e).1; omega
                have hnb : ¬ ((Value.slice (some ⟨g, 0, none⟩) k cap).ownBlock = some b8) := fun e => by have := (hgb b8 e).2; omega
                have hwd6 := (unhide OWD).size
                obtain ⟨g2, cap2, w3, hrun, own3, op3⟩ := push4 wd.drew w6.heap.size (.slice (some ⟨g, 0, none⟩) k cap) k ws N (unhide HNL) hownd (by omega) hwd6
                have hblk3 : w3.heap[cb]? = some (.cells ([Value.slice (some ⟨g, 0, none⟩) k cap] ++ (A.map bv ++ B.map bv)).toArray 83 (0, 0)) := op3.heap hblkd hnc
                have hc3 := rc_zero hblk3
                have hf3 : w3.frozen? ⟨cb, 0, none⟩ = false := by simp [World.frozen?, hblk3]
                have HRUN := hide hrun
                have HB3 : Hid ((w3.setCell ⟨cb, 0, none⟩ (.slice (some ⟨g2, 0, none⟩) (k + 1) cap2)).heap[cb]? = some (.cells ([Value.slice (some ⟨g2, 0, none⟩) (k + 1) cap2] ++ (A.map bv ++ B.map bv)).toArray 83 (0, 0))) := by
                  have h := two_setCell (i := 0) (u := Value.slice (some ⟨g2, 0, none⟩) (k + 1) cap2) hblk3
                  show _ = _
                  rw [h]
                  simp
                have OW3 : Hid (Only (fun j => j = cb) w6 w3) := ((unhide OWD).drew).trans op3 (fun j hj e => by have := (hgb j e).1; omega)
                have HOW3 : Hid ((w3.setCell ⟨cb, 0, none⟩ (.slice (some ⟨g2, 0, none⟩) (k + 1) cap2)).ownsRow w6.heap.size 86 4 (.slice (some ⟨g2, 0, none⟩) (k + 1) cap2) (k + 1) ((rw' 32 key (k + 1)).1.map bv)) := by
                  rw [unhide HND]
                  exact ((Only.refl (fun j => j = cb) w3).here 0 _).owns own3 (fun x hx e => by have := (own3.lt x hx).1; omega)
                have HO3 : Hid (Only (fun j => j = cb) w6 (w3.setCell ⟨cb, 0, none⟩ (.slice (some ⟨g2, 0, none⟩) (k + 1) cap2))) := (unhide OW3).here 0 _
                have HC0D := hide hc0d
                have OP3 : Hid (Only (fun j => (Value.slice (some ⟨g, 0, none⟩) k cap).ownBlock = some j) wd w3) := ((Only.refl (fun j => (Value.slice (some ⟨g, 0, none⟩) k cap).ownBlock = some j) wd).drew).trans op3 (fun _ _ e => e)
                clear hrun own3 op3 hblkd hblk3 hownd hc0d hwd6
                go_wp2_with fail
                refine wp_region_last_drew (S := (fun w' => Only (fun j => (Value.slice (some ⟨g, 0, none⟩) k cap).ownBlock = some j) wd w')) 10 (by kernel_rfl) ((Only.refl _ _).drew) (fun hHeld => ?_)
                refine wpAnyL_take (i := 0) (v := ?v421) rfl (by kernel_rfl) (by kernel_rfl) (by kernel_rfl) (by kernel_rfl) (fun _ _ _ h => h) (Or.inl ⟨by rfl, ?hy421⟩) (by assumption) ?rest421
                case hy421 =>
                  intro w hSw
                  go_simp
                  try with_reducible rfl
                try simp only [Act.put, List.setIfInBounds_toArray, List.set_cons_zero, List.set_cons_succ, List.getElem_toArray, List.getElem_cons_succ, List.getElem_cons_zero]
                refine wpAnyL_take (i := 1) (v := ?v422) rfl (by kernel_rfl) (by kernel_rfl) (by kernel_rfl) (by kernel_rfl) (fun _ _ _ h => h) (Or.inl ⟨by rfl, ?hy422⟩) (by assumption) ?rest422
                case hy422 =>
                  intro w hSw
                  go_simp
                  try with_reducible rfl
                try simp only [Act.put, List.setIfInBounds_toArray, List.set_cons_zero, List.set_cons_succ, List.getElem_toArray, List.getElem_cons_succ, List.getElem_cons_zero]
                refine wpAnyL_take (i := 2) (v := ?v423) rfl (by kernel_rfl) (by kernel_rfl) (by kernel_rfl) (by kernel_rfl) (fun _ _ _ h => h) (Or.inl ⟨by rfl, ?hy423⟩) (by assumption) ?rest423
                case hy423 =>
                  intro w hSw
                  go_simp
                  try with_reducible rfl
                try simp only [Act.put, List.setIfInBounds_toArray, List.set_cons_zero, List.set_cons_succ, List.getElem_toArray, List.getElem_cons_succ, List.getElem_cons_zero]
                refine wpAnyL_take (i := 3) (v := ?v424) rfl (by kernel_rfl) (by kernel_rfl) (by kernel_rfl) (by kernel_rfl) (fun _ _ _ h => h) (Or.inl ⟨by rfl, ?hy424⟩) (by assumption) ?rest424
                case hy424 =>
                  intro w hSw
                  go_simp
                  try with_reducible rfl
                try simp only [Act.put, List.setIfInBounds_toArray, List.set_cons_zero, List.set_cons_succ, List.getElem_toArray, List.getElem_cons_succ, List.getElem_cons_zero]
                refine wpAnyL_take (i := 4) (v := ?v425) rfl (by kernel_rfl) (by kernel_rfl) (by kernel_rfl) (by kernel_rfl) (fun _ _ _ h => h) (Or.inl ⟨by rfl, ?hy425⟩) (by assumption) ?rest425
                case hy425 =>
                  intro w hSw
                  (have q := hSw.cell (unhide HC0D) hnc; go_simp; try with_reducible rfl)
                try simp only [Act.put, List.setIfInBounds_toArray, List.set_cons_zero, List.set_cons_succ, List.getElem_toArray, List.getElem_cons_succ, List.getElem_cons_zero]
                refine wpAnyL_take (i := 5) (v := ?v426) rfl (by kernel_rfl) (by kernel_rfl) (by kernel_rfl) (by kernel_rfl) (fun _ _ _ h => h) (Or.inl ⟨by rfl, ?hy426⟩) (by assumption) ?rest426
                case hy426 =>
                  intro w hSw
                  (refine exec_load_mid 86 (.tmp 8) ?_ b8 0 ?_ (N.map bv) _ (range_only (unhide A9).range hSw hnb) Try.underW rfl (by rw [Try.sizeW]; simp [unhide HNL]) <;> rfl)
                try simp only [Act.put, List.setIfInBounds_toArray, List.set_cons_zero, List.set_cons_succ, List.getElem_toArray, List.getElem_cons_succ, List.getElem_cons_zero]
                refine wpAnyL_ready (rs := [6]) (by kernel_rfl) (by simp) ?_
                refine AllReadyL.cons rfl (fun K hK => ?_) AllReadyL.nil
                refine step_rowW rfl (.tmp 165) rfl N (unhide HNL) rfl ?_
                refine hK.out _ _ ((((Only.refl _ wd).drew).alloc _)) (fun hHeld => ?_)
                clear hK K
                try simp only [Act.put, List.setIfInBounds_toArray, List.set_cons_zero, List.set_cons_succ, List.getElem_toArray, List.getElem_cons_succ, List.getElem_cons_zero]
                refine wpAnyL_ready (rs := [7]) (by kernel_rfl) (by simp) ?_
                refine AllReadyL.cons rfl (fun K hK => ?_) AllReadyL.nil
                refine step_append_run' rfl (.tmp 164) (.tmp 166) 80 rfl _ _ _ _ rfl rfl (unhide HRUN) ?_
                refine hK.out _ _ ((unhide OP3)) (fun hHeld => ?_)
                clear hK K
                try simp only [Act.put, List.setIfInBounds_toArray, List.set_cons_zero, List.set_cons_succ, List.getElem_toArray, List.getElem_cons_succ, List.getElem_cons_zero]
                refine wpAnyL_ready (rs := [8]) (by kernel_rfl) (by simp) ?_
                refine AllReadyL.cons rfl (fun K hK => ?_) AllReadyL.nil
                go_simp
                refine hK.out _ _ ((unhide OP3)) (fun hHeld => ?_)
                clear hK K
                try simp only [Act.put, List.setIfInBounds_toArray, List.set_cons_zero, List.set_cons_succ, List.getElem_toArray, List.getElem_cons_succ, List.getElem_cons_zero]
                refine wpAnyL_take (i := 9) (v := ?v427) rfl (by kernel_rfl) (by kernel_rfl) (by kernel_rfl) (by kernel_rfl) (fun _ _ _ h => h) (Or.inl ⟨by rfl, ?hy427⟩) (by assumption) ?rest427
                case hy427 =>
                  intro w hSw
                  go_simp
                  try with_reducible rfl
                try simp only [Act.put, List.setIfInBounds_toArray, List.set_cons_zero, List.set_cons_succ, List.getElem_toArray, List.getElem_cons_succ, List.getElem_cons_zero]
                refine wpAnyL_ready (rs := [10]) (by kernel_rfl) (by simp) ?_
                refine AllReadyL.last rfl (fun K hK => ?_)
                go_simp
                refine hK.out _ _ (trivial) (fun hHeld => ?_)
                clear hK K
                try simp only [Act.put, List.setIfInBounds_toArray, List.set_cons_zero, List.set_cons_succ, List.getElem_toArray, List.getElem_cons_succ, List.getElem_cons_zero]
                refine wpAnyL_done (by kernel_rfl) ?_ _
                go_wp2
                go_roundw
                case rel => exact ⟨k + 1, by omega, by go_num, by rw [unhide HMD], some ⟨g2, 0, none⟩, cap2, unhide HB3, unhide HOW3, unhide HO3⟩
                case measure => simp [intOf]; omega
    · obtain rfl : k = 60 := by omega
      obtain ⟨ao, cap, hblk, hown, hor⟩ := unhide hin
      have hlen := rw_length 32 key (unhide HKL) (by decide) 60
      obtain ⟨g, rfl⟩ : ∃ g, ao = some ⟨g, 0, none⟩ := by
        rcases hown.2 with ⟨e, h0⟩ | ⟨g, c2, cur, e, _⟩
        · simp at e
        · simp only [Value.slice.injEq] at e
          exact ⟨g, e.1⟩
      have hw : (rw' 32 key 60).1 = (expd 32 key 52).1 := by unfold rw'; rw [if_neg (by decide)]
      rw [hw] at hown hlen
      have HRC : Hid (RCip wr cb 15 (expd 32 key 52).1) := ⟨hlen, g, cap, by rw [← (unhide HAB).1, ← (unhide HAB).2]; exact hblk, ownsRow_base hown (Nat.zero_le _)⟩
      have HOR : Hid (Only (fun _ => False) w wr) := (unhide O6).trans hor (fun j hj e => by have := unhide HCW; omega)
      clear hblk hown hor hlen hw hin
      go_wp2
      go_ret2
      exact ⟨cb, rfl, unhide HRC, unhide HOR⟩

end Ae
end Go.Proofs.Ytdmcnblnoiahcaa
