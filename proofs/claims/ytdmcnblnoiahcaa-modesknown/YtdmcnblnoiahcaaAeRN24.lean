/-
  locksmithref8: New of a key of 24 bytes.
-/
import Derived.Test.YtdmcnblnoiahcaaAeRW
namespace Go.Proofs.Ytdmcnblnoiahcaa
open Go.RowKit
set_option linter.unusedSimpArgs false
set_option linter.unusedVariables false
namespace Ae
attribute [local go_sem ↓] execOp_loadW4

set_option maxRecDepth 100000 in
set_option maxHeartbeats 8000000 in
theorem rnew_24 (kb ko kcap : Nat) (key : List UInt8) (hk : key.length = 24) (w : World) (hx : Has w (.slice (some ⟨kb, ko, none⟩) 24 kcap) key) :
    Calls Try.prog 30 #[.slice (some ⟨kb, ko, none⟩) 24 kcap] w fun e w' => ∃ cb, e = .returned (.tuple #[.pointer (some ⟨cb, 0, none⟩), .bool true]) ∧ RCip w' cb 13 (expd 24 key 46).1 ∧ Only (fun _ => False) w w' := by
  obtain ⟨i4, hi4, hz40, hz41, hz42⟩ := info_parts Try.infoW
  have hkcap : 24 ≤ kcap := by obtain ⟨_, _, e, h, _⟩ := hx.shape; simp only [Value.slice.injEq] at e; omega
  have hkc : ∀ j (hj : j < key.length), w.cell? ⟨kb, ko + j, none⟩ = some (bv key[j]) := by
    obtain ⟨bb, off, e, _, hc⟩ := hx.at (by decide)
    simp only [Option.some.injEq, Addr.mk.injEq, and_true] at e
    obtain ⟨rfl, rfl⟩ := e
    exact hc
  have hkblt : kb < w.heap.size := hx.blk_lt (by intro e; rw [e] at hk; simp at hk) kb rfl
  have HKB := hide hkblt
  have HKC := hide hkc
  have HKL := hide hk
  have hzv := zvC
  have hzl : zeroC.length = 513 := by simp [zeroC, zero256]
  have hz : ∃ X Y : List Value, X.length = 256 ∧ Y.length = 256 ∧ zeroC = [Value.slice none 0 0] ++ (X ++ Y) := ⟨_, _, by simp [zero256], by simp [zero256], rfl⟩
  have HZ := hide hz
  clear hz hzl hx hkc hk hkblt
  generalize zeroC = Z at *
  obtain ⟨A, hA⟩ : ∃ A, A = tbox := ⟨_, rfl⟩
  obtain ⟨B, hB⟩ : ∃ B, B = tback 256 := ⟨_, rfl⟩
  have hbx := fun W => boxes_any W
  rw [← hA, ← hB] at hbx
  have HBX := hide hbx
  have hAl : A.length = 256 := by rw [hA]; exact tbox_len
  have hBl : B.length = 256 := by rw [hB]; exact tback_len 256
  have HAB := hide (And.intro hA hB)
  clear hA hB hbx
  go_enter Try.func30, Try.ntmps30
  go_wp2_with fail
  refine (unhide HBX _).mono ?_
  rintro e w1 ⟨rfl, o1⟩
  obtain ⟨cb, hcb⟩ : ∃ cb, cb = w.heap.size := ⟨_, rfl⟩
  rw [← hcb]
  have hblk : w1.heap[cb]? = some (.cells Z.toArray 83 (0, 0)) := o1.heap (by rw [hcb]; exact heap_alloc_last w _) (fun e => e)
  obtain ⟨X, Y, hX, hY, hZ⟩ := unhide HZ
  rw [hZ] at hblk
  have hzl : ([Value.slice none 0 0] ++ (X ++ Y)).length = 513 := by simp [hX, hY]
  have sA : (A.map bv).toArray.size = 256 := by simp [hAl]
  have sB : (B.map bv).toArray.size = 256 := by simp [hBl]
  have t1 : w1.there cb 1 (A.map bv).toArray.size := by rw [sA]; exact there_at hblk 1 256 (by rw [List.size_toArray, hzl]; decide)
  have t2 : (w1.setCells cb 1 (A.map bv).toArray.toList).there cb 257 (B.map bv).toArray.size := by rw [sB]; exact there_two _ hblk 1 (by rw [hzl]; simp [hAl]) 257 256 (by rw [hzl]; decide)
  have z1 : (Try.prog.info? 81).map (·.size) = some (A.map bv).toArray.size := by rw [sA]; exact Try.size256
  have z2 : (Try.prog.info? 81).map (·.size) = some (B.map bv).toArray.size := by rw [sB]; exact Try.size256
  have T1 := hide t1
  have T2 := hide t2
  have Z1 := hide z1
  have Z2 := hide z2
  obtain ⟨w6, e6, hb6, o6⟩ := tables (v := Value.slice none 0 0) X Y (A.map bv).toArray.toList (B.map bv).toArray.toList hX hY (by simp [hAl]) (by simp [hBl]) hblk
  have hcb1 : cb < w1.heap.size := lt_of_block hblk
  have HCW : Hid (cb = w.heap.size) := hcb
  clear t1 t2 z1 z2 hzl sA sB hblk hX hY hzv hZ HZ HBX hcb
  go_upto_region 6 with (first
    | (refine wpList_store_mid rfl 81 (.tmp 35) (.tmp 32) rfl cb 1 (A.map bv).toArray rfl rfl (unhide T1) (unhide Z1) (ag_one _) ?_)
    | (refine wpList_store_mid rfl 81 (.tmp 37) (.tmp 33) rfl cb 257 (B.map bv).toArray rfl rfl (unhide T2) (unhide Z2) (ag_one _) ?_))
  first
    | rw [← e6]
    | (simp only [List.toList_toArray] at e6 ⊢; rw [← e6])
  have O6 : Hid (Only (fun _ => False) w w6) := (((Only.refl (fun _ => False) w).alloc _).trans o1 (fun _ _ e => e)).trans o6 (fun j hj e => by have := unhide HCW; omega)
  have hb6' : w6.heap[cb]? = some (.cells ([Value.slice none 0 0] ++ (A.map bv ++ B.map bv)).toArray 83 (0, 0)) := by simpa using hb6
  have hcb6 : cb < w6.heap.size := lt_of_block hb6'
  have HI : Hid (RIn w6 w6.heap.size cb 0 (rw' 24 key 0).1 A B w6) := ⟨none, 0, hb6', by rw [show (rw' 24 key 0).1 = [] from by unfold rw'; rw [if_pos (by decide)]; rfl]; exact World.ownsRow_nil _ _ _ _, Only.refl _ _⟩
  have h20 : (rw' 24 key 0).2 = 1 := rfl
  have HKC6 : Hid (∀ j (hj : j < key.length), w6.cell? ⟨kb, ko + j, none⟩ = some (bv key[j])) := fun j hj => (unhide O6).cell (unhide HKC j hj) (fun e => e)
  clear T1 T2 Z1 Z2 e6 o6 hb6 hb6' o1 hcb1 HKC
  go_wp2
  go_loopw [6, 7, 8, 9] (fun c i _ _ wr => ∃ k : Nat, k ≤ 52 ∧ i = .int .i64 k ∧ c = .int .u8 ((rw' 24 key k).2.toNat : Int) ∧ Hid (RIn w6 w6.heap.size cb k (rw' 24 key k).1 A B wr)) (fun _ i _ _ _ => 52 - (intOf i).toNat)
  case atStart => exact ⟨0, Nat.zero_le _, rfl, by rw [h20]; rfl, HI⟩
  case round =>
    rename World => wr
    obtain ⟨k, hk, rfl, rfl, hin⟩ := hrel
    clear HI h20
    by_cases hlt : k < 52
    · obtain ⟨ao, cap, hblk, hown, hor⟩ := unhide hin
      obtain ⟨ws, hws⟩ : ∃ ws, ws = (rw' 24 key k).1 := ⟨_, rfl⟩
      obtain ⟨mk, hmk⟩ : ∃ mk, mk = (rw' 24 key k).2 := ⟨_, rfl⟩
      have hwl : ws.length = 4 * k := by rw [hws]; exact rw_length 24 key (unhide HKL) (by decide) k
      rw [← hws] at hown
      rw [← hmk]
      have HWL := hide hwl
      have HWS := hide hws
      have HMK := hide hmk
      clear hwl hws hmk hin
      have hkI : (k : Int) < 52 := by omega
      have hk100 : k < 100 := by omega
      have HBLK := hide hblk
      have HOWN := hide hown
      have HOR := hide hor
      clear hblk hown hor
      go_upto_region 11 with fail
      obtain ⟨wa, b8, ea, eb8, a8, oa⟩ := fresh4 wr
      rw [zeros4_eq, ← ea, ← eb8]
      have A8 := hide a8
      have OA := hide oa
      have hb8 : wr.heap.size ≤ b8 := by omega
      have hor6 := (unhide HOR).size
      have hne8 : b8 ≠ cb := by omega
      clear ea eb8 a8 oa
      have OWA : Hid (Only (fun j => j = cb) w6 wa) := (unhide HOR).trans (unhide OA) (fun _ _ e => e.elim)
      by_cases hkn : k < 6
      · have hkn' : (k : Int) < 6 := by omega
        obtain ⟨p, hp⟩ : ∃ p, p = 4 * k := ⟨_, rfl⟩
        obtain ⟨q, hq⟩ : ∃ q, q = p + 4 := ⟨_, rfl⟩
        have M1 : Hid (IntKind.i64.wrap (4 * (k : Int)) = (p : Int)) := by show _ = _; rw [wrap_small _ (by omega) (by omega)]; omega
        have M2 : Hid (IntKind.i64.wrap ((p : Int) + 4) = (q : Int)) := by show _ = _; rw [wrap_small _ (by omega) (by omega)]; omega
        obtain ⟨N, hN⟩ : ∃ N, N = (key.drop p).take 4 := ⟨_, rfl⟩
        have hkl := unhide HKL
        have hNl : N.length = 4 := by rw [hN]; simp; omega
        have hsrc : ∀ j v, (N.map bv)[j]? = some v → wa.drew.cell? ((⟨kb, ko + p, none⟩ : Addr).add j) = some v := by
          intro j v hv
          have hj : j < 4 := by have := (List.getElem?_eq_some_iff.1 hv).1; simpa [hNl] using this
          rw [addr_add _ rfl]
          have h1 : wa.cell? ⟨kb, ko + (p + j), none⟩ = _ := (unhide OWA).cell (unhide HKC6 (p + j) (by omega)) (fun e => by have e' : kb = cb := e; have := unhide HKB; have := unhide HCW; omega)
          rw [hN, List.getElem?_map, List.getElem?_take, if_pos hj, List.getElem?_drop, List.getElem?_eq_getElem (by omega)] at hv
          simp only [Option.map_some, Option.some.injEq] at hv
          rw [← hv, show (⟨kb, ko + p + j, none⟩ : Addr) = ⟨kb, ko + (p + j), none⟩ by rw [Nat.add_assoc]]
          exact h1
        obtain ⟨wd, hcp, a9, o9⟩ := copy4 (x := wa.drew) (unhide A8) rfl hNl ⟨kb, ko + p, none⟩ (kcap - p) hsrc
        have hsub : q - p = 4 := by omega
        have hpq : p ≤ q := by omega
        have hqk : (q : Int) ≤ (kcap : Int) := by omega
        have hqk2 : q ≤ kcap := by omega
        have hnep : ¬ kcap = p := by omega
        have HND : Hid ((rw' 24 key (k + 1)).1 = ws ++ N) := by show _ = _; rw [rw_first 24 key hkl (by decide) k hkn, ← unhide HWS, hN, hp]
        have HMD : Hid ((rw' 24 key (k + 1)).2 = mk) := by show _ = _; rw [rw_first 24 key hkl (by decide) k hkn, ← unhide HMK]
        have HNL := hide hNl
        have A9 := hide a9
        have O9 : Hid (Only (fun j => j = b8) wa wd) := ((Only.refl (fun j => j = b8) wa).drew).trans o9 (fun _ _ e => e)
        clear hN hsrc hNl hp hq a9 o9 hkl
        go_wp2_with fail
        refine wp_region_held_drew (S := (fun _ => True)) (by kernel_rfl) (trivial) (fun hHeld => ?_)
        refine wpAnyH_take (i := 0) (v := ?v187) rfl (by kernel_rfl) (by kernel_rfl) (by kernel_rfl) (fun _ _ _ h => h) (Or.inl ⟨by rfl, ?hy187⟩) (by assumption) ?rest187
        case hy187 =>
          intro w hSw
          go_simp
          try with_reducible rfl
        try simp only [Act.put, List.setIfInBounds_toArray, List.set_cons_zero, List.set_cons_succ, List.getElem_toArray, List.getElem_cons_succ, List.getElem_cons_zero]
        refine wpAnyH_take (i := 1) (v := ?v188) rfl (by kernel_rfl) (by kernel_rfl) (by kernel_rfl) (fun _ _ _ h => h) (Or.inl ⟨by rfl, ?hy188⟩) (by assumption) ?rest188
        case hy188 =>
          intro w hSw
          go_simp
          try with_reducible rfl
        try simp only [Act.put, List.setIfInBounds_toArray, List.set_cons_zero, List.set_cons_succ, List.getElem_toArray, List.getElem_cons_succ, List.getElem_cons_zero]
        refine wpAnyH_take (i := 2) (v := ?v189) rfl (by kernel_rfl) (by kernel_rfl) (by kernel_rfl) (fun _ _ _ h => h) (Or.inl ⟨by rfl, ?hy189⟩) (by assumption) ?rest189
        case hy189 =>
          intro w hSw
          go_simp
          try with_reducible rfl
        try simp only [Act.put, List.setIfInBounds_toArray, List.set_cons_zero, List.set_cons_succ, List.getElem_toArray, List.getElem_cons_succ, List.getElem_cons_zero]
        refine wpAnyH_take (i := 3) (v := ?v190) rfl (by kernel_rfl) (by kernel_rfl) (by kernel_rfl) (fun _ _ _ h => h) (Or.inl ⟨by rfl, ?hy190⟩) (by assumption) ?rest190
        case hy190 =>
          intro w hSw
          (go_simp; rw [unhide M1]; try with_reducible rfl)
        try simp only [Act.put, List.setIfInBounds_toArray, List.set_cons_zero, List.set_cons_succ, List.getElem_toArray, List.getElem_cons_succ, List.getElem_cons_zero]
        refine wpAnyH_take (i := 4) (v := ?v191) rfl (by kernel_rfl) (by kernel_rfl) (by kernel_rfl) (fun _ _ _ h => h) (Or.inl ⟨by rfl, ?hy191⟩) (by assumption) ?rest191
        case hy191 =>
          intro w hSw
          go_simp
          try with_reducible rfl
        try simp only [Act.put, List.setIfInBounds_toArray, List.set_cons_zero, List.set_cons_succ, List.getElem_toArray, List.getElem_cons_succ, List.getElem_cons_zero]
        refine wpAnyH_take (i := 5) (v := ?v192) rfl (by kernel_rfl) (by kernel_rfl) (by kernel_rfl) (fun _ _ _ h => h) (Or.inl ⟨by rfl, ?hy192⟩) (by assumption) ?rest192
        case hy192 =>
          intro w hSw
          (go_simp; rw [unhide M1]; try with_reducible rfl)
        try simp only [Act.put, List.setIfInBounds_toArray, List.set_cons_zero, List.set_cons_succ, List.getElem_toArray, List.getElem_cons_succ, List.getElem_cons_zero]
        refine wpAnyH_take (i := 6) (v := ?v193) rfl (by kernel_rfl) (by kernel_rfl) (by kernel_rfl) (fun _ _ _ h => h) (Or.inl ⟨by rfl, ?hy193⟩) (by assumption) ?rest193
        case hy193 =>
          intro w hSw
          (go_simp; rw [unhide M2]; try with_reducible rfl)
        try simp only [Act.put, List.setIfInBounds_toArray, List.set_cons_zero, List.set_cons_succ, List.getElem_toArray, List.getElem_cons_succ, List.getElem_cons_zero]
        refine wpAnyH_take (i := 7) (v := ?v194) rfl (by kernel_rfl) (by kernel_rfl) (by kernel_rfl) (fun _ _ _ h => h) (Or.inl ⟨by rfl, ?hy194⟩) (by assumption) ?rest194
        case hy194 =>
          intro w hSw
          go_simp
          try with_reducible rfl
        try simp only [Act.put, List.setIfInBounds_toArray, List.set_cons_zero, List.set_cons_succ, List.getElem_toArray, List.getElem_cons_succ, List.getElem_cons_zero]
        refine wpAnyH_ready (rs := [8]) (by kernel_rfl) (by simp) ?_
        refine AllReadyH.cons rfl (fun K hK => ?_) AllReadyH.nil
        go_simp
        refine hK.out _ _ (trivial) (fun hHeld => ?_)
        clear hK K
        try simp only [Act.put, List.setIfInBounds_toArray, List.set_cons_zero, List.set_cons_succ, List.getElem_toArray, List.getElem_cons_succ, List.getElem_cons_zero]
        refine wpAnyH_done (by kernel_rfl) ?_ _
        clear hcp M1 M2 hsub hpq hqk hqk2 hnep
        obtain ⟨mk', hmk'⟩ : ∃ mk', mk' = mk := ⟨_, rfl⟩
        rw [← hmk'] at HMD
        have HMK' := hide hmk'
        clear hmk'
        have hgb : ∀ x, (Value.slice ao k cap).ownBlock = some x → w6.heap.size ≤ x ∧ x < wr.heap.size := (unhide HOWN).lt
        have OWD : Hid (Only (fun j => j = cb) w6 wd) := (unhide OWA).trans (unhide O9) (fun j hj e => by omega)
        have hblkd : wd.heap[cb]? = some (.cells ([Value.slice ao k cap] ++ (A.map bv ++ B.map bv)).toArray 83 (0, 0)) := (unhide O9).heap ((unhide OA).heap (unhide HBLK) (fun e => e)) (fun e => hne8 e.symm)
        have hownd : wd.drew.ownsRow w6.heap.size 86 4 (.slice ao k cap) k (ws.map bv) := (unhide O9).owns ((unhide OA).owns (unhide HOWN) (fun _ _ e => e)) (fun x hx e => by have := (hgb x hx).2; omega)
        have hc0d := rc_zero hblkd
        have hnc : ¬ ((Value.slice ao k cap).ownBlock = some cb) := fun e => by have := (hgb cb e).1; omega
        have hnb : ¬ ((Value.slice ao k cap).ownBlock = some b8) := fun e => by have := (hgb b8 e).2; omega
        have hwd6 := (unhide OWD).size
        obtain ⟨g2, cap2, w3, hrun, own3, op3⟩ := push4 wd.drew w6.heap.size (.slice ao k cap) k ws N (unhide HNL) hownd (by omega) hwd6
        have hblk3 : w3.heap[cb]? = some (.cells ([Value.slice ao k cap] ++ (A.map bv ++ B.map bv)).toArray 83 (0, 0)) := op3.heap hblkd hnc
        have hc3 := rc_zero hblk3
        have hf3 : w3.frozen? ⟨cb, 0, none⟩ = false := by simp [World.frozen?, hblk3]
        have HRUN := hide hrun
        have HB3 : Hid ((w3.setCell ⟨cb, 0, none⟩ (.slice (some ⟨g2, 0, none⟩) (k + 1) cap2)).heap[cb]? = some (.cells ([Value.slice (some ⟨g2, 0, none⟩) (k + 1) cap2] ++ (A.map bv ++ B.map bv)).toArray 83 (0, 0))) := by
          have h := two_setCell (i := 0) (u := Value.slice (some ⟨g2, 0, none⟩) (k + 1) cap2) hblk3
          show _ = _
          rw [h]
          simp
        have OW3 : Hid (Only (fun j => j = cb) w6 w3) := ((unhide OWD).drew).trans op3 (fun j hj e => by have := (hgb j e).1; omega)
        have HOW3 : Hid ((w3.setCell ⟨cb, 0, none⟩ (.slice (some ⟨g2, 0, none⟩) (k + 1) cap2)).ownsRow w6.heap.size 86 4 (.slice (some ⟨g2, 0, none⟩) (k + 1) cap2) (k + 1) ((rw' 24 key (k + 1)).1.map bv)) := by
          rw [unhide HND]
          exact ((Only.refl (fun j => j = cb) w3).here 0 _).owns own3 (fun x hx e => by have := (own3.lt x hx).1; omega)
        have HO3 : Hid (Only (fun j => j = cb) w6 (w3.setCell ⟨cb, 0, none⟩ (.slice (some ⟨g2, 0, none⟩) (k + 1) cap2))) := (unhide OW3).here 0 _
        have HC0D := hide hc0d
        have OP3 : Hid (Only (fun j => (Value.slice ao k cap).ownBlock = some j) wd w3) := ((Only.refl (fun j => (Value.slice ao k cap).ownBlock = some j) wd).drew).trans op3 (fun _ _ e => e)
        clear hrun own3 op3 hblkd hblk3 hownd hc0d hwd6
        go_wp2_with fail
        refine wp_region_last_drew (S := (fun w' => Only (fun j => (Value.slice ao k cap).ownBlock = some j) wd w')) 10 (by kernel_rfl) ((Only.refl _ _).drew) (fun hHeld => ?_)
        refine wpAnyL_take (i := 0) (v := ?v195) rfl (by kernel_rfl) (by kernel_rfl) (by kernel_rfl) (by kernel_rfl) (fun _ _ _ h => h) (Or.inl ⟨by rfl, ?hy195⟩) (by assumption) ?rest195
        case hy195 =>
          intro w hSw
          go_simp
          try with_reducible rfl
        try simp only [Act.put, List.setIfInBounds_toArray, List.set_cons_zero, List.set_cons_succ, List.getElem_toArray, List.getElem_cons_succ, List.getElem_cons_zero]
        refine wpAnyL_take (i := 1) (v := ?v196) rfl (by kernel_rfl) (by kernel_rfl) (by kernel_rfl) (by kernel_rfl) (fun _ _ _ h => h) (Or.inl ⟨by rfl, ?hy196⟩) (by assumption) ?rest196
        case hy196 =>
          intro w hSw
          go_simp
          try with_reducible rfl
        try simp only [Act.put, List.setIfInBounds_toArray, List.set_cons_zero, List.set_cons_succ, List.getElem_toArray, List.getElem_cons_succ, List.getElem_cons_zero]
        refine wpAnyL_take (i := 2) (v := ?v197) rfl (by kernel_rfl) (by kernel_rfl) (by kernel_rfl) (by kernel_rfl) (fun _ _ _ h => h) (Or.inl ⟨by rfl, ?hy197⟩) (by assumption) ?rest197
        case hy197 =>
          intro w hSw
          go_simp
          try with_reducible rfl
        try simp only [Act.put, List.setIfInBounds_toArray, List.set_cons_zero, List.set_cons_succ, List.getElem_toArray, List.getElem_cons_succ, List.getElem_cons_zero]
        refine wpAnyL_take (i := 3) (v := ?v198) rfl (by kernel_rfl) (by kernel_rfl) (by kernel_rfl) (by kernel_rfl) (fun _ _ _ h => h) (Or.inl ⟨by rfl, ?hy198⟩) (by assumption) ?rest198
        case hy198 =>
          intro w hSw
          go_simp
          try with_reducible rfl
        try simp only [Act.put, List.setIfInBounds_toArray, List.set_cons_zero, List.set_cons_succ, List.getElem_toArray, List.getElem_cons_succ, List.getElem_cons_zero]
        refine wpAnyL_take (i := 4) (v := ?v199) rfl (by kernel_rfl) (by kernel_rfl) (by kernel_rfl) (by kernel_rfl) (fun _ _ _ h => h) (Or.inl ⟨by rfl, ?hy199⟩) (by assumption) ?rest199
        case hy199 =>
          intro w hSw
          (have q := hSw.cell (unhide HC0D) hnc; go_simp; try with_reducible rfl)
        try simp only [Act.put, List.setIfInBounds_toArray, List.set_cons_zero, List.set_cons_succ, List.getElem_toArray, List.getElem_cons_succ, List.getElem_cons_zero]
        refine wpAnyL_take (i := 5) (v := ?v200) rfl (by kernel_rfl) (by kernel_rfl) (by kernel_rfl) (by kernel_rfl) (fun _ _ _ h => h) (Or.inl ⟨by rfl, ?hy200⟩) (by assumption) ?rest200
        case hy200 =>
          intro w hSw
          (refine exec_load_mid 86 (.tmp 8) ?_ b8 0 ?_ (N.map bv) _ (range_only (unhide A9).range hSw hnb) Try.underW rfl (by rw [Try.sizeW]; simp [unhide HNL]) <;> rfl)
        try simp only [Act.put, List.setIfInBounds_toArray, List.set_cons_zero, List.set_cons_succ, List.getElem_toArray, List.getElem_cons_succ, List.getElem_cons_zero]
        refine wpAnyL_ready (rs := [6]) (by kernel_rfl) (by simp) ?_
        refine AllReadyL.cons rfl (fun K hK => ?_) AllReadyL.nil
        refine step_rowW rfl (.tmp 165) rfl N (unhide HNL) rfl ?_
        refine hK.out _ _ ((((Only.refl _ wd).drew).alloc _)) (fun hHeld => ?_)
        clear hK K
        try simp only [Act.put, List.setIfInBounds_toArray, List.set_cons_zero, List.set_cons_succ, List.getElem_toArray, List.getElem_cons_succ, List.getElem_cons_zero]
        refine wpAnyL_ready (rs := [7]) (by kernel_rfl) (by simp) ?_
        refine AllReadyL.cons rfl (fun K hK => ?_) AllReadyL.nil
        refine step_append_run' rfl (.tmp 164) (.tmp 166) 80 rfl _ _ _ _ rfl rfl (unhide HRUN) ?_
        refine hK.out _ _ ((unhide OP3)) (fun hHeld => ?_)
        clear hK K
        try simp only [Act.put, List.setIfInBounds_toArray, List.set_cons_zero, List.set_cons_succ, List.getElem_toArray, List.getElem_cons_succ, List.getElem_cons_zero]
        refine wpAnyL_ready (rs := [8]) (by kernel_rfl) (by simp) ?_
        refine AllReadyL.cons rfl (fun K hK => ?_) AllReadyL.nil
        go_simp
        refine hK.out _ _ ((unhide OP3)) (fun hHeld => ?_)
        clear hK K
        try simp only [Act.put, List.setIfInBounds_toArray, List.set_cons_zero, List.set_cons_succ, List.getElem_toArray, List.getElem_cons_succ, List.getElem_cons_zero]
        refine wpAnyL_take (i := 9) (v := ?v201) rfl (by kernel_rfl) (by kernel_rfl) (by kernel_rfl) (by kernel_rfl) (fun _ _ _ h => h) (Or.inl ⟨by rfl, ?hy201⟩) (by assumption) ?rest201
        case hy201 =>
          intro w hSw
          go_simp
          try with_reducible rfl
        try simp only [Act.put, List.setIfInBounds_toArray, List.set_cons_zero, List.set_cons_succ, List.getElem_toArray, List.getElem_cons_succ, List.getElem_cons_zero]
        refine wpAnyL_ready (rs := [10]) (by kernel_rfl) (by simp) ?_
        refine AllReadyL.last rfl (fun K hK => ?_)
        go_simp
        refine hK.out _ _ (trivial) (fun hHeld => ?_)
        clear hK K
        try simp only [Act.put, List.setIfInBounds_toArray, List.set_cons_zero, List.set_cons_succ, List.getElem_toArray, List.getElem_cons_succ, List.getElem_cons_zero]
        refine wpAnyL_done (by kernel_rfl) ?_ _
        go_wp2
        go_roundw
        case rel => exact ⟨k + 1, by omega, by go_num, by rw [unhide HMD, unhide HMK'], some ⟨g2, 0, none⟩, cap2, unhide HB3, unhide HOW3, unhide HO3⟩
        case measure => simp [intOf]; omega
      · have hkn' : ¬ (k : Int) < 6 := by omega
        obtain ⟨g, rfl⟩ : ∃ g, ao = some ⟨g, 0, none⟩ := by
          rcases (unhide HOWN).2 with ⟨e, h0⟩ | ⟨g, c2, cur, e, _⟩
          · simp at e; omega
          · simp only [Value.slice.injEq] at e
            exact ⟨g, e.1⟩
        have hgr := (unhide HOWN).lt g rfl
        have hg8 : g ≠ b8 := by omega
        have hc0 : wa.cell? ⟨cb, 0, none⟩ = some (.slice (some ⟨g, 0, none⟩) k cap) := (unhide OA).cell (rc_zero (unhide HBLK)) (fun e => e)
        obtain ⟨P, hP⟩ : ∃ P, P = prev ws := ⟨_, rfl⟩
        have hPl : P.length = 4 := by rw [hP]; rfl
        have hwl := unhide HWL
        have hPd : P = (ws.drop (4 * (k - 1))).take 4 := by
          rw [hP, prev_drop ws (by omega), hwl, show 4 * k - 4 = 4 * (k - 1) by omega, List.take_of_length_le (by simp; omega)]
        have hrg : wa.rangeAt g ((k - 1) * 4) (P.map bv) := by
          rw [hPd]
          exact range_only (word_rangeAt (unhide HOWN) hwl (k - 1) (by omega)) (unhide OA) (fun e => e)
        have hld := loadW4_run hrg hPl
        have hk1I : (k : Int) - 1 = ((k - 1 : Nat) : Int) := by omega
        have hk1b : ((k - 1 : Nat) : Int) < (k : Int) := by omega
        have HT := hide (there4 (unhide A8) rfl hPl)
        have HZ4 := hide (size4s hPl)
        have HPP := hide hP
        have HPL := hide hPl
        clear hP hPl hPd hrg hwl
        go_upto_region 14 with (refine wpList_store_mid rfl 86 (.tmp 8) (.tmp 64) rfl b8 0 (P.map bv).toArray rfl rfl (unhide HT) (unhide HZ4) (ag_one _) ?_)
        obtain ⟨wb, eb, ab, ob⟩ := restored4 wa b8 zero4 P (unhide A8) (by rw [unhide HPL]; rfl)
        first
          | rw [← eb]
          | (simp only [List.toList_toArray]; rw [← eb])
        have AB := hide ab
        have OB := hide ob
        have HCB := hide (ob.cell hc0 (fun e => hne8 e.symm))
        clear eb ab ob hld hc0 HT HZ4 hk1I hk1b
        obtain ⟨d, hd⟩ : ∃ d, d = k % 6 := ⟨_, rfl⟩
        have hr1 : (k : Int).tmod 6 = (d : Int) := by rw [Int.tmod_eq_emod_of_nonneg (by omega)]; omega
        have hr2 : (k : Int) % 6 = (d : Int) := by omega
        have HND0 : Hid (rw' 24 key (k + 1) = (ws ++ next 24 ws (word 24 ws mk) 4, if ws.length % 24 = 0 then mul mk 2 else mk)) := by
          show _ = _
          rw [rw_then 24 key k hkn]
          unfold stepK
          rw [← unhide HWS, ← unhide HMK]
        have hwd0 : ws.length % 24 = 0 ↔ d = 0 := by have := unhide HWL; omega
        have hwd4 : ws.length % 24 = 16 ↔ d = 4 := by have := unhide HWL; omega
        obtain ⟨P0, P1, P2, P3, hP4⟩ : ∃ P0 P1 P2 P3, P = [P0, P1, P2, P3] := by
          have h := unhide HPL
          match P, h with
          | [x0, x1, x2, x3], _ => exact ⟨_, _, _, _, rfl⟩
        subst hP4
        have hW : word 24 ws mk = if d = 0 then [box P1 ^^^ mk, box P2, box P3, box P0] else if 24 = 32 ∧ d = 4 then [box P0, box P1, box P2, box P3] else [P0, P1, P2, P3] := by
          have h := unhide HPP
          unfold prev at h
          simp only [List.cons.injEq, and_true] at h
          obtain ⟨h0, h1, h2, h3⟩ := h
          unfold word
          rw [← h0, ← h1, ← h2, ← h3]
          by_cases e0 : d = 0
          · rw [if_pos e0, if_pos (hwd0.2 e0)]
          · rw [if_neg e0, if_neg (fun e => e0 (hwd0.1 e))]
            by_cases e4 : d = 4
            · rw [if_neg (show ¬ (24 = 32 ∧ ws.length % 24 = 16) from fun e => absurd e.1 (by decide)), if_neg (show ¬ (24 = 32 ∧ d = 4) from fun e => absurd e.1 (by decide))]
            · rw [if_neg (fun e => e4 (hwd4.1 e.2)), if_neg (fun e => e4 e.2)]
        have E0 : Hid (wb.cell? ⟨b8, 0, none⟩ = some (.int .u8 (P0.toNat : Int))) := (unhide AB).cell 0 P0 rfl
        have E1 : Hid (wb.cell? ⟨b8, 1, none⟩ = some (.int .u8 (P1.toNat : Int))) := (unhide AB).cell 1 P1 rfl
        have E2 : Hid (wb.cell? ⟨b8, 2, none⟩ = some (.int .u8 (P2.toNat : Int))) := (unhide AB).cell 2 P2 rfl
        have E3 : Hid (wb.cell? ⟨b8, 3, none⟩ = some (.int .u8 (P3.toNat : Int))) := (unhide AB).cell 3 P3 rfl
        have hblkb : wb.heap[cb]? = some (.cells ([Value.slice (some ⟨g, 0, none⟩) k cap] ++ (A.map bv ++ B.map bv)).toArray 83 (0, 0)) := (unhide OB).heap ((unhide OA).heap (unhide HBLK) (fun e => e)) (fun e => hne8 e.symm)
        have hta : ∀ x : UInt8, A[x.toNat]? = some (box x) := fun x => by rw [(unhide HAB).1]; exact tbox_all x
        have T0 := hide (rc_there hblkb P0.toNat (box P0) (hta P0))
        have T1 := hide (rc_there hblkb P1.toNat (box P1) (hta P1))
        have T2 := hide (rc_there hblkb P2.toNat (box P2) (hta P2))
        have T3 := hide (rc_there hblkb P3.toNat (box P3) (hta P3))
        have hxb := xor_bv (box P1) mk
        have HWW := hide hW
        clear hW hblkb hta hwd4
        have l0 : (P0.toNat : Int) < 256 := by have := P0.toNat_lt; omega
        have l1 : (P1.toNat : Int) < 256 := by have := P1.toNat_lt; omega
        have l2 : (P2.toNat : Int) < 256 := by have := P2.toNat_lt; omega
        have l3 : (P3.toNat : Int) < 256 := by have := P3.toNat_lt; omega
        have HN1 : Hid ((rw' 24 key (k + 1)).1 = ws ++ next 24 ws (word 24 ws mk) 4) := by show _ = _; rw [unhide HND0]
        have HN2 : Hid ((rw' 24 key (k + 1)).2 = if d = 0 then mul mk 2 else mk) := by show _ = _; rw [unhide HND0]; simp only [hwd0]
        clear HND0 hwd0
        by_cases hd0 : d = 0
        · rw [if_pos hd0] at HWW HN2
          have hdb : ((d : Int) == 0) = true := by simp; omega
          generalize hz : box P1 ^^^ mk = z at *
          generalize box P0 = y0 at *
          generalize box P1 = y1 at *
          generalize box P2 = y2 at *
          generalize box P3 = y3 at *
          clear hz hd0 hd
          have HT := hide (there4 (unhide AB) rfl (show ([z, y2, y3, y0] : List UInt8).length = 4 from rfl))
          have HZ4 := hide (size4s (show ([z, y2, y3, y0] : List UInt8).length = 4 from rfl))
          go_wp2_with fail
          refine wp_region_last_drew (S := (fun w' => Only (fun _ => False) wb w')) 31 (by kernel_rfl) ((Only.refl _ _).drew) (fun hHeld => ?_)
          refine wpAnyL_take (i := 0) (v := ?v202) rfl (by kernel_rfl) (by kernel_rfl) (by kernel_rfl) (by kernel_rfl) (fun _ _ _ h => h) (Or.inl ⟨by rfl, ?hy202⟩) (by assumption) ?rest202
          case hy202 =>
            intro w hSw
            go_simp
            try with_reducible rfl
          try simp only [Act.put, List.setIfInBounds_toArray, List.set_cons_zero, List.set_cons_succ, List.getElem_toArray, List.getElem_cons_succ, List.getElem_cons_zero]
          refine wpAnyL_take (i := 1) (v := ?v203) rfl (by kernel_rfl) (by kernel_rfl) (by kernel_rfl) (by kernel_rfl) (fun _ _ _ h => h) (Or.inl ⟨by rfl, ?hy203⟩) (by assumption) ?rest203
          case hy203 =>
            intro w hSw
            go_simp
            try with_reducible rfl
          try simp only [Act.put, List.setIfInBounds_toArray, List.set_cons_zero, List.set_cons_succ, List.getElem_toArray, List.getElem_cons_succ, List.getElem_cons_zero]
          refine wpAnyL_take (i := 2) (v := ?v204) rfl (by kernel_rfl) (by kernel_rfl) (by kernel_rfl) (by kernel_rfl) (fun _ _ _ h => h) (Or.inl ⟨by rfl, ?hy204⟩) (by assumption) ?rest204
          case hy204 =>
            intro w hSw
            (have q := hSw.cell (unhide E1) (fun e => e); go_simp; try with_reducible rfl)
          try simp only [Act.put, List.setIfInBounds_toArray, List.set_cons_zero, List.set_cons_succ, List.getElem_toArray, List.getElem_cons_succ, List.getElem_cons_zero]
          refine wpAnyL_take (i := 3) (v := ?v205) rfl (by kernel_rfl) (by kernel_rfl) (by kernel_rfl) (by kernel_rfl) (fun _ _ _ h => h) (Or.inl ⟨by rfl, ?hy205⟩) (by assumption) ?rest205
          case hy205 =>
            intro w hSw
            go_simp
            try with_reducible rfl
          try simp only [Act.put, List.setIfInBounds_toArray, List.set_cons_zero, List.set_cons_succ, List.getElem_toArray, List.getElem_cons_succ, List.getElem_cons_zero]
          refine wpAnyL_take (i := 4) (v := ?v206) rfl (by kernel_rfl) (by kernel_rfl) (by kernel_rfl) (by kernel_rfl) (fun _ _ _ h => h) (Or.inl ⟨by rfl, ?hy206⟩) (by assumption) ?rest206
          case hy206 =>
            intro w hSw
            go_simp
            try with_reducible rfl
          try simp only [Act.put, List.setIfInBounds_toArray, List.set_cons_zero, List.set_cons_succ, List.getElem_toArray, List.getElem_cons_succ, List.getElem_cons_zero]
          refine wpAnyL_take (i := 5) (v := ?v207) rfl (by kernel_rfl) (by kernel_rfl) (by kernel_rfl) (by kernel_rfl) (fun _ _ _ h => h) (Or.inl ⟨by rfl, ?hy207⟩) (by assumption) ?rest207
          case hy207 =>
            intro w hSw
            go_simp
            try with_reducible rfl
          try simp only [Act.put, List.setIfInBounds_toArray, List.set_cons_zero, List.set_cons_succ, List.getElem_toArray, List.getElem_cons_succ, List.getElem_cons_zero]
          refine wpAnyL_take (i := 6) (v := ?v208) rfl (by kernel_rfl) (by kernel_rfl) (by kernel_rfl) (by kernel_rfl) (fun _ _ _ h => h) (Or.inl ⟨by rfl, ?hy208⟩) (by assumption) ?rest208
          case hy208 =>
            intro w hSw
            (have q := hSw.cell (unhide T1) (fun e => e); go_simp; try with_reducible rfl)
          try simp only [Act.put, List.setIfInBounds_toArray, List.set_cons_zero, List.set_cons_succ, List.getElem_toArray, List.getElem_cons_succ, List.getElem_cons_zero]
          refine wpAnyL_take (i := 7) (v := ?v209) rfl (by kernel_rfl) (by kernel_rfl) (by kernel_rfl) (by kernel_rfl) (fun _ _ _ h => h) (Or.inl ⟨by rfl, ?hy209⟩) (by assumption) ?rest209
          case hy209 =>
            intro w hSw
            go_simp
            try with_reducible rfl
          try simp only [Act.put, List.setIfInBounds_toArray, List.set_cons_zero, List.set_cons_succ, List.getElem_toArray, List.getElem_cons_succ, List.getElem_cons_zero]
          refine wpAnyL_take (i := 8) (v := ?v210) rfl (by kernel_rfl) (by kernel_rfl) (by kernel_rfl) (by kernel_rfl) (fun _ _ _ h => h) (Or.inl ⟨by rfl, ?hy210⟩) (by assumption) ?rest210
          case hy210 =>
            intro w hSw
            go_simp
            try with_reducible rfl
          try simp only [Act.put, List.setIfInBounds_toArray, List.set_cons_zero, List.set_cons_succ, List.getElem_toArray, List.getElem_cons_succ, List.getElem_cons_zero]
          refine wpAnyL_take (i := 9) (v := ?v211) rfl (by kernel_rfl) (by kernel_rfl) (by kernel_rfl) (by kernel_rfl) (fun _ _ _ h => h) (Or.inl ⟨by rfl, ?hy211⟩) (by assumption) ?rest211
          case hy211 =>
            intro w hSw
            go_simp
            try with_reducible rfl
          try simp only [Act.put, List.setIfInBounds_toArray, List.set_cons_zero, List.set_cons_succ, List.getElem_toArray, List.getElem_cons_succ, List.getElem_cons_zero]
          refine wpAnyL_take (i := 10) (v := ?v212) rfl (by kernel_rfl) (by kernel_rfl) (by kernel_rfl) (by kernel_rfl) (fun _ _ _ h => h) (Or.inl ⟨by rfl, ?hy212⟩) (by assumption) ?rest212
          case hy212 =>
            intro w hSw
            go_simp
            try with_reducible rfl
          try simp only [Act.put, List.setIfInBounds_toArray, List.set_cons_zero, List.set_cons_succ, List.getElem_toArray, List.getElem_cons_succ, List.getElem_cons_zero]
          refine wpAnyL_take (i := 11) (v := ?v213) rfl (by kernel_rfl) (by kernel_rfl) (by kernel_rfl) (by kernel_rfl) (fun _ _ _ h => h) (Or.inl ⟨by rfl, ?hy213⟩) (by assumption) ?rest213
          case hy213 =>
            intro w hSw
            (have q := hSw.cell (unhide E2) (fun e => e); go_simp; try with_reducible rfl)
          try simp only [Act.put, List.setIfInBounds_toArray, List.set_cons_zero, List.set_cons_succ, List.getElem_toArray, List.getElem_cons_succ, List.getElem_cons_zero]
          refine wpAnyL_take (i := 12) (v := ?v214) rfl (by kernel_rfl) (by kernel_rfl) (by kernel_rfl) (by kernel_rfl) (fun _ _ _ h => h) (Or.inl ⟨by rfl, ?hy214⟩) (by assumption) ?rest214
          case hy214 =>
            intro w hSw
            go_simp
            try with_reducible rfl
          try simp only [Act.put, List.setIfInBounds_toArray, List.set_cons_zero, List.set_cons_succ, List.getElem_toArray, List.getElem_cons_succ, List.getElem_cons_zero]
          refine wpAnyL_take (i := 13) (v := ?v215) rfl (by kernel_rfl) (by kernel_rfl) (by kernel_rfl) (by kernel_rfl) (fun _ _ _ h => h) (Or.inl ⟨by rfl, ?hy215⟩) (by assumption) ?rest215
          case hy215 =>
            intro w hSw
            go_simp
            try with_reducible rfl
          try simp only [Act.put, List.setIfInBounds_toArray, List.set_cons_zero, List.set_cons_succ, List.getElem_toArray, List.getElem_cons_succ, List.getElem_cons_zero]
          refine wpAnyL_take (i := 14) (v := ?v216) rfl (by kernel_rfl) (by kernel_rfl) (by kernel_rfl) (by kernel_rfl) (fun _ _ _ h => h) (Or.inl ⟨by rfl, ?hy216⟩) (by assumption) ?rest216
          case hy216 =>
            intro w hSw
            go_simp
            try with_reducible rfl
          try simp only [Act.put, List.setIfInBounds_toArray, List.set_cons_zero, List.set_cons_succ, List.getElem_toArray, List.getElem_cons_succ, List.getElem_cons_zero]
          refine wpAnyL_take (i := 15) (v := ?v217) rfl (by kernel_rfl) (by kernel_rfl) (by kernel_rfl) (by kernel_rfl) (fun _ _ _ h => h) (Or.inl ⟨by rfl, ?hy217⟩) (by assumption) ?rest217
          case hy217 =>
            intro w hSw
            (have q := hSw.cell (unhide T2) (fun e => e); go_simp; try with_reducible rfl)
          try simp only [Act.put, List.setIfInBounds_toArray, List.set_cons_zero, List.set_cons_succ, List.getElem_toArray, List.getElem_cons_succ, List.getElem_cons_zero]
          refine wpAnyL_take (i := 16) (v := ?v218) rfl (by kernel_rfl) (by kernel_rfl) (by kernel_rfl) (by kernel_rfl) (fun _ _ _ h => h) (Or.inl ⟨by rfl, ?hy218⟩) (by assumption) ?rest218
          case hy218 =>
            intro w hSw
            go_simp
            try with_reducible rfl
          try simp only [Act.put, List.setIfInBounds_toArray, List.set_cons_zero, List.set_cons_succ, List.getElem_toArray, List.getElem_cons_succ, List.getElem_cons_zero]
          refine wpAnyL_take (i := 17) (v := ?v219) rfl (by kernel_rfl) (by kernel_rfl) (by kernel_rfl) (by kernel_rfl) (fun _ _ _ h => h) (Or.inl ⟨by rfl, ?hy219⟩) (by assumption) ?rest219
          case hy219 =>
            intro w hSw
            go_simp
            try with_reducible rfl
          try simp only [Act.put, List.setIfInBounds_toArray, List.set_cons_zero, List.set_cons_succ, List.getElem_toArray, List.getElem_cons_succ, List.getElem_cons_zero]
          refine wpAnyL_take (i := 18) (v := ?v220) rfl (by kernel_rfl) (by kernel_rfl) (by kernel_rfl) (by kernel_rfl) (fun _ _ _ h => h) (Or.inl ⟨by rfl, ?hy220⟩) (by assumption) ?rest220
          case hy220 =>
            intro w hSw
            (have q := hSw.cell (unhide E3) (fun e => e); go_simp; try with_reducible rfl)
          try simp only [Act.put, List.setIfInBounds_toArray, List.set_cons_zero, List.set_cons_succ, List.getElem_toArray, List.getElem_cons_succ, List.getElem_cons_zero]
          refine wpAnyL_take (i := 19) (v := ?v221) rfl (by kernel_rfl) (by kernel_rfl) (by kernel_rfl) (by kernel_rfl) (fun _ _ _ h => h) (Or.inl ⟨by rfl, ?hy221⟩) (by assumption) ?rest221
          case hy221 =>
            intro w hSw
            go_simp
            try with_reducible rfl
          try simp only [Act.put, List.setIfInBounds_toArray, List.set_cons_zero, List.set_cons_succ, List.getElem_toArray, List.getElem_cons_succ, List.getElem_cons_zero]
          refine wpAnyL_take (i := 20) (v := ?v222) rfl (by kernel_rfl) (by kernel_rfl) (by kernel_rfl) (by kernel_rfl) (fun _ _ _ h => h) (Or.inl ⟨by rfl, ?hy222⟩) (by assumption) ?rest222
          case hy222 =>
            intro w hSw
            go_simp
            try with_reducible rfl
          try simp only [Act.put, List.setIfInBounds_toArray, List.set_cons_zero, List.set_cons_succ, List.getElem_toArray, List.getElem_cons_succ, List.getElem_cons_zero]
          refine wpAnyL_take (i := 21) (v := ?v223) rfl (by kernel_rfl) (by kernel_rfl) (by kernel_rfl) (by kernel_rfl) (fun _ _ _ h => h) (Or.inl ⟨by rfl, ?hy223⟩) (by assumption) ?rest223
          case hy223 =>
            intro w hSw
            go_simp
            try with_reducible rfl
          try simp only [Act.put, List.setIfInBounds_toArray, List.set_cons_zero, List.set_cons_succ, List.getElem_toArray, List.getElem_cons_succ, List.getElem_cons_zero]
          refine wpAnyL_take (i := 22) (v := ?v224) rfl (by kernel_rfl) (by kernel_rfl) (by kernel_rfl) (by kernel_rfl) (fun _ _ _ h => h) (Or.inl ⟨by rfl, ?hy224⟩) (by assumption) ?rest224
          case hy224 =>
            intro w hSw
            (have q := hSw.cell (unhide T3) (fun e => e); go_simp; try with_reducible rfl)
          try simp only [Act.put, List.setIfInBounds_toArray, List.set_cons_zero, List.set_cons_succ, List.getElem_toArray, List.getElem_cons_succ, List.getElem_cons_zero]
          refine wpAnyL_take (i := 23) (v := ?v225) rfl (by kernel_rfl) (by kernel_rfl) (by kernel_rfl) (by kernel_rfl) (fun _ _ _ h => h) (Or.inl ⟨by rfl, ?hy225⟩) (by assumption) ?rest225
          case hy225 =>
            intro w hSw
            go_simp
            try with_reducible rfl
          try simp only [Act.put, List.setIfInBounds_toArray, List.set_cons_zero, List.set_cons_succ, List.getElem_toArray, List.getElem_cons_succ, List.getElem_cons_zero]
          refine wpAnyL_take (i := 24) (v := ?v226) rfl (by kernel_rfl) (by kernel_rfl) (by kernel_rfl) (by kernel_rfl) (fun _ _ _ h => h) (Or.inl ⟨by rfl, ?hy226⟩) (by assumption) ?rest226
          case hy226 =>
            intro w hSw
            go_simp
            try with_reducible rfl
          try simp only [Act.put, List.setIfInBounds_toArray, List.set_cons_zero, List.set_cons_succ, List.getElem_toArray, List.getElem_cons_succ, List.getElem_cons_zero]
          refine wpAnyL_take (i := 25) (v := ?v227) rfl (by kernel_rfl) (by kernel_rfl) (by kernel_rfl) (by kernel_rfl) (fun _ _ _ h => h) (Or.inl ⟨by rfl, ?hy227⟩) (by assumption) ?rest227
          case hy227 =>
            intro w hSw
            (have q := hSw.cell (unhide E0) (fun e => e); go_simp; try with_reducible rfl)
          try simp only [Act.put, List.setIfInBounds_toArray, List.set_cons_zero, List.set_cons_succ, List.getElem_toArray, List.getElem_cons_succ, List.getElem_cons_zero]
          refine wpAnyL_take (i := 26) (v := ?v228) rfl (by kernel_rfl) (by kernel_rfl) (by kernel_rfl) (by kernel_rfl) (fun _ _ _ h => h) (Or.inl ⟨by rfl, ?hy228⟩) (by assumption) ?rest228
          case hy228 =>
            intro w hSw
            go_simp
            try with_reducible rfl
          try simp only [Act.put, List.setIfInBounds_toArray, List.set_cons_zero, List.set_cons_succ, List.getElem_toArray, List.getElem_cons_succ, List.getElem_cons_zero]
          refine wpAnyL_take (i := 27) (v := ?v229) rfl (by kernel_rfl) (by kernel_rfl) (by kernel_rfl) (by kernel_rfl) (fun _ _ _ h => h) (Or.inl ⟨by rfl, ?hy229⟩) (by assumption) ?rest229
          case hy229 =>
            intro w hSw
            go_simp
            try with_reducible rfl
          try simp only [Act.put, List.setIfInBounds_toArray, List.set_cons_zero, List.set_cons_succ, List.getElem_toArray, List.getElem_cons_succ, List.getElem_cons_zero]
          refine wpAnyL_take (i := 28) (v := ?v230) rfl (by kernel_rfl) (by kernel_rfl) (by kernel_rfl) (by kernel_rfl) (fun _ _ _ h => h) (Or.inl ⟨by rfl, ?hy230⟩) (by assumption) ?rest230
          case hy230 =>
            intro w hSw
            go_simp
            try with_reducible rfl
          try simp only [Act.put, List.setIfInBounds_toArray, List.set_cons_zero, List.set_cons_succ, List.getElem_toArray, List.getElem_cons_succ, List.getElem_cons_zero]
          refine wpAnyL_take (i := 29) (v := ?v231) rfl (by kernel_rfl) (by kernel_rfl) (by kernel_rfl) (by kernel_rfl) (fun _ _ _ h => h) (Or.inl ⟨by rfl, ?hy231⟩) (by assumption) ?rest231
          case hy231 =>
            intro w hSw
            (have q := hSw.cell (unhide T0) (fun e => e); go_simp; try with_reducible rfl)
          try simp only [Act.put, List.setIfInBounds_toArray, List.set_cons_zero, List.set_cons_succ, List.getElem_toArray, List.getElem_cons_succ, List.getElem_cons_zero]
          refine wpAnyL_take (i := 30) (v := ?v232) rfl (by kernel_rfl) (by kernel_rfl) (by kernel_rfl) (by kernel_rfl) (fun _ _ _ h => h) (Or.inl ⟨by rfl, ?hy232⟩) (by assumption) ?rest232
          case hy232 =>
            intro w hSw
            go_simp
            try with_reducible rfl
          try simp only [Act.put, List.setIfInBounds_toArray, List.set_cons_zero, List.set_cons_succ, List.getElem_toArray, List.getElem_cons_succ, List.getElem_cons_zero]
          refine wpAnyL_ready (rs := [31]) (by kernel_rfl) (by simp) ?_
          refine AllReadyL.last rfl (fun K hK => ?_)
          refine step_store_mid rfl 86 (.tmp 8) (.tmp 99) rfl b8 0 (([z, y2, y3, y0] : List UInt8).map bv).toArray rfl rfl (unhide HT) (unhide HZ4) (ag_one _) ?_
          refine hK.out _ _ (trivial) (fun hHeld => ?_)
          clear hK K
          try simp only [Act.put, List.setIfInBounds_toArray, List.set_cons_zero, List.set_cons_succ, List.getElem_toArray, List.getElem_cons_succ, List.getElem_cons_zero]
          refine wpAnyL_done (by kernel_rfl) ?_ _
          obtain ⟨wc, ec, ac, oc⟩ := restored4 wb.drew b8 [P0, P1, P2, P3] [z, y2, y3, y0] (unhide AB) rfl
          first
            | rw [← ec]
            | (simp only [List.toList_toArray]; rw [← ec])
          have AC := hide ac
          have OC : Hid (Only (fun j => j = b8) wb wc) := ((Only.refl (fun j => j = b8) wb).drew).trans oc (fun _ _ e => e)
          obtain ⟨Wd, hWd⟩ : ∃ Wd : List UInt8, Wd = [z, y2, y3, y0] := ⟨_, rfl⟩
          rw [unhide HWW] at HN1
          rw [← hWd] at AC HN1
          have hWl : Wd.length = 4 := by rw [hWd]; rfl
          have HWL4 := hide hWl
          clear ec ac oc hWd hWl HT HZ4 E0 E1 E2 E3 T0 T1 T2 T3 AB HWW hxb
          have HRT : Hid (∀ W, Calls Try.prog 49 #[.int .u8 (mk.toNat : Int), .int .u8 2] W fun e w' => e = .returned (.int .u8 ((mul mk 2).toNat : Int)) ∧ w' = W) := fun W => rtimes_any mk 2 W
          generalize mul mk 2 = mk2 at *
          go_wp2_with fail
          refine (unhide HRT _).mono ?_
          rintro e wt ⟨rfl, hwt⟩
          rw [hwt]
          clear hwt wt HRT
          have HMD : Hid ((rw' 24 key (k + 1)).2 = mk2) := HN2
          obtain ⟨NX, hNX⟩ : ∃ NX, NX = next 24 ws Wd 4 := ⟨_, rfl⟩
          have hNl : NX.length = 4 := by rw [hNX]; exact next_length _ _ _ _
          have hNat : ∀ j, j < 4 → NX[j]? = some (gt Wd j ^^^ gt ws (4 * (k - 6) + j)) := fun j hj => by
            rw [hNX, next_at 24 ws Wd j hj, unhide HWL, UInt8.xor_comm, show 4 * k - 24 + j = 4 * (k - 6) + j by omega]
          have HNA := hide hNat
          have HND : Hid ((rw' 24 key (k + 1)).1 = ws ++ NX) := by rw [hNX]; exact HN1
          have HNL := hide hNl
          have OBC : Hid (Only (fun j => j = b8) wa wc) := (unhide OB).trans (unhide OC) (fun _ _ e => e)
          have HCC := hide ((unhide OC).cell (unhide HCB) (fun e => hne8 e.symm))
          clear hNX hNl hNat HN1 HCB
          go_wp2
          go_loopw [9] (fun i wq => ∃ j : Nat, j ≤ 4 ∧ i = .int .i64 j ∧ Hid (Arr wq b8 86 (mixd NX Wd j)) ∧ Hid (Only (fun x => x = b8) wc wq)) (fun i _ => 4 - (intOf i).toNat)
          case atStart => exact ⟨0, Nat.zero_le _, rfl, by rw [mixd_zero]; exact AC, Only.refl _ _⟩
          case round =>
            rename World => wq
            obtain ⟨j, hj, rfl, hat, hot⟩ := hrel
            by_cases hjt : j < 4
            · have hm0 := mixd_at NX Wd 4 j (unhide HNL) (unhide HWL4) hjt
              rw [gt_some Wd j (by have := unhide HWL4; omega)] at hm0
              have HCA := hide ((unhide hat).cell j _ hm0)
              have hf8 := (unhide hat).free j
              have hw2 := (unhide hat).set j (gt Wd j ^^^ gt ws (4 * (k - 6) + j))
              rw [mixd_set _ _ 4 j (unhide HNL) (unhide HWL4) hjt _ (unhide HNA j hjt)] at hw2
              have HWn := hide hw2
              have HOn := hide ((unhide hot).here j (.int .u8 ((gt Wd j ^^^ gt ws (4 * (k - 6) + j)).toNat : Int)))
              have hx := xor_bv (gt Wd j) (gt ws (4 * (k - 6) + j))
              have HC0 := hide ((unhide hot).cell (unhide HCC) (fun e => hne8 e.symm))
              have hgc : wq.cell? ⟨g, (k - 6) * 4 + j, none⟩ = some (.int .u8 ((gt ws (4 * (k - 6) + j)).toNat : Int)) := (unhide hot).cell ((unhide OBC).cell ((unhide OA).cell (word_cell (unhide HOWN) (unhide HWL) (k - 6) j (by omega) hjt) (fun e => e)) hg8) hg8
              have HGC := hide hgc
              obtain ⟨kn, hkn2⟩ : ∃ kn, kn = k - 6 := ⟨_, rfl⟩
              have M5 : Hid (IntKind.i64.wrap ((k : Int) - 6) = (kn : Int)) := by show _ = _; rw [wrap_small _ (by omega) (by omega)]; omega
              have hknk : (kn : Int) < (k : Int) := by omega
              rw [← hkn2] at HGC HWn HOn hx
              clear hm0 hat hot hw2 hgc hkn2
              generalize gt Wd j ^^^ gt ws (4 * kn + j) = z' at *
              generalize gt Wd j = x' at *
              generalize gt ws (4 * kn + j) = y' at *
              have hj4 : (j : Int) < 4 := by omega
              go_wp2_with fail
              refine wp_region_last_drew (S := (fun w' => Only (fun _ => False) wq w')) 17 (by kernel_rfl) ((Only.refl _ _).drew) (fun hHeld => ?_)
              refine wpAnyL_take (i := 0) (v := ?v233) rfl (by kernel_rfl) (by kernel_rfl) (by kernel_rfl) (by kernel_rfl) (fun _ _ _ h => h) (Or.inl ⟨by rfl, ?hy233⟩) (by assumption) ?rest233
              case hy233 =>
                intro w hSw
                go_simp
                try with_reducible rfl
              try simp only [Act.put, List.setIfInBounds_toArray, List.set_cons_zero, List.set_cons_succ, List.getElem_toArray, List.getElem_cons_succ, List.getElem_cons_zero]
              refine wpAnyL_take (i := 1) (v := ?v234) rfl (by kernel_rfl) (by kernel_rfl) (by kernel_rfl) (by kernel_rfl) (fun _ _ _ h => h) (Or.inl ⟨by rfl, ?hy234⟩) (by assumption) ?rest234
              case hy234 =>
                intro w hSw
                go_simp
                try with_reducible rfl
              try simp only [Act.put, List.setIfInBounds_toArray, List.set_cons_zero, List.set_cons_succ, List.getElem_toArray, List.getElem_cons_succ, List.getElem_cons_zero]
              refine wpAnyL_take (i := 2) (v := ?v235) rfl (by kernel_rfl) (by kernel_rfl) (by kernel_rfl) (by kernel_rfl) (fun _ _ _ h => h) (Or.inl ⟨by rfl, ?hy235⟩) (by assumption) ?rest235
              case hy235 =>
                intro w hSw
                go_simp
                try with_reducible rfl
              try simp only [Act.put, List.setIfInBounds_toArray, List.set_cons_zero, List.set_cons_succ, List.getElem_toArray, List.getElem_cons_succ, List.getElem_cons_zero]
              refine wpAnyL_take (i := 3) (v := ?v236) rfl (by kernel_rfl) (by kernel_rfl) (by kernel_rfl) (by kernel_rfl) (fun _ _ _ h => h) (Or.inl ⟨by rfl, ?hy236⟩) (by assumption) ?rest236
              case hy236 =>
                intro w hSw
                (have q := hSw.cell (unhide HCA) (fun e => e); go_simp; try with_reducible rfl)
              try simp only [Act.put, List.setIfInBounds_toArray, List.set_cons_zero, List.set_cons_succ, List.getElem_toArray, List.getElem_cons_succ, List.getElem_cons_zero]
              refine wpAnyL_take (i := 4) (v := ?v237) rfl (by kernel_rfl) (by kernel_rfl) (by kernel_rfl) (by kernel_rfl) (fun _ _ _ h => h) (Or.inl ⟨by rfl, ?hy237⟩) (by assumption) ?rest237
              case hy237 =>
                intro w hSw
                go_simp
                try with_reducible rfl
              try simp only [Act.put, List.setIfInBounds_toArray, List.set_cons_zero, List.set_cons_succ, List.getElem_toArray, List.getElem_cons_succ, List.getElem_cons_zero]
              refine wpAnyL_take (i := 5) (v := ?v238) rfl (by kernel_rfl) (by kernel_rfl) (by kernel_rfl) (by kernel_rfl) (fun _ _ _ h => h) (Or.inl ⟨by rfl, ?hy238⟩) (by assumption) ?rest238
              case hy238 =>
                intro w hSw
                go_simp
                try with_reducible rfl
              try simp only [Act.put, List.setIfInBounds_toArray, List.set_cons_zero, List.set_cons_succ, List.getElem_toArray, List.getElem_cons_succ, List.getElem_cons_zero]
              refine wpAnyL_take (i := 6) (v := ?v239) rfl (by kernel_rfl) (by kernel_rfl) (by kernel_rfl) (by kernel_rfl) (fun _ _ _ h => h) (Or.inl ⟨by rfl, ?hy239⟩) (by assumption) ?rest239
              case hy239 =>
                intro w hSw
                go_simp
                try with_reducible rfl
              try simp only [Act.put, List.setIfInBounds_toArray, List.set_cons_zero, List.set_cons_succ, List.getElem_toArray, List.getElem_cons_succ, List.getElem_cons_zero]
              refine wpAnyL_take (i := 7) (v := ?v240) rfl (by kernel_rfl) (by kernel_rfl) (by kernel_rfl) (by kernel_rfl) (fun _ _ _ h => h) (Or.inl ⟨by rfl, ?hy240⟩) (by assumption) ?rest240
              case hy240 =>
                intro w hSw
                (have q := hSw.cell (unhide HC0) (fun e => e); go_simp; try with_reducible rfl)
              try simp only [Act.put, List.setIfInBounds_toArray, List.set_cons_zero, List.set_cons_succ, List.getElem_toArray, List.getElem_cons_succ, List.getElem_cons_zero]
              refine wpAnyL_take (i := 8) (v := ?v241) rfl (by kernel_rfl) (by kernel_rfl) (by kernel_rfl) (by kernel_rfl) (fun _ _ _ h => h) (Or.inl ⟨by rfl, ?hy241⟩) (by assumption) ?rest241
              case hy241 =>
                intro w hSw
                go_simp
                try with_reducible rfl
              try simp only [Act.put, List.setIfInBounds_toArray, List.set_cons_zero, List.set_cons_succ, List.getElem_toArray, List.getElem_cons_succ, List.getElem_cons_zero]
              refine wpAnyL_take (i := 9) (v := ?v242) rfl (by kernel_rfl) (by kernel_rfl) (by kernel_rfl) (by kernel_rfl) (fun _ _ _ h => h) (Or.inl ⟨by rfl, ?hy242⟩) (by assumption) ?rest242
              case hy242 =>
                intro w hSw
                go_simp
                try with_reducible rfl
              try simp only [Act.put, List.setIfInBounds_toArray, List.set_cons_zero, List.set_cons_succ, List.getElem_toArray, List.getElem_cons_succ, List.getElem_cons_zero]
              refine wpAnyL_take (i := 10) (v := ?v243) rfl (by kernel_rfl) (by kernel_rfl) (by kernel_rfl) (by kernel_rfl) (fun _ _ _ h => h) (Or.inl ⟨by rfl, ?hy243⟩) (by assumption) ?rest243
              case hy243 =>
                intro w hSw
                (go_simp; rw [unhide M5]; try with_reducible rfl)
              try simp only [Act.put, List.setIfInBounds_toArray, List.set_cons_zero, List.set_cons_succ, List.getElem_toArray, List.getElem_cons_succ, List.getElem_cons_zero]
              refine wpAnyL_take (i := 11) (v := ?v244) rfl (by kernel_rfl) (by kernel_rfl) (by kernel_rfl) (by kernel_rfl) (fun _ _ _ h => h) (Or.inl ⟨by rfl, ?hy244⟩) (by assumption) ?rest244
              case hy244 =>
                intro w hSw
                go_simp
                try with_reducible rfl
              try simp only [Act.put, List.setIfInBounds_toArray, List.set_cons_zero, List.set_cons_succ, List.getElem_toArray, List.getElem_cons_succ, List.getElem_cons_zero]
              refine wpAnyL_take (i := 12) (v := ?v245) rfl (by kernel_rfl) (by kernel_rfl) (by kernel_rfl) (by kernel_rfl) (fun _ _ _ h => h) (Or.inl ⟨by rfl, ?hy245⟩) (by assumption) ?rest245
              case hy245 =>
                intro w hSw
                go_simp
                try with_reducible rfl
              try simp only [Act.put, List.setIfInBounds_toArray, List.set_cons_zero, List.set_cons_succ, List.getElem_toArray, List.getElem_cons_succ, List.getElem_cons_zero]
              refine wpAnyL_take (i := 13) (v := ?v246) rfl (by kernel_rfl) (by kernel_rfl) (by kernel_rfl) (by kernel_rfl) (fun _ _ _ h => h) (Or.inl ⟨by rfl, ?hy246⟩) (by assumption) ?rest246
              case hy246 =>
                intro w hSw
                go_simp
                try with_reducible rfl
              try simp only [Act.put, List.setIfInBounds_toArray, List.set_cons_zero, List.set_cons_succ, List.getElem_toArray, List.getElem_cons_succ, List.getElem_cons_zero]
              refine wpAnyL_take (i := 14) (v := ?v247) rfl (by kernel_rfl) (by kernel_rfl) (by kernel_rfl) (by kernel_rfl) (fun _ _ _ h => h) (Or.inl ⟨by rfl, ?hy247⟩) (by assumption) ?rest247
              case hy247 =>
                intro w hSw
                (have q := hSw.cell (unhide HGC) (fun e => e); go_simp; try with_reducible rfl)
              try simp only [Act.put, List.setIfInBounds_toArray, List.set_cons_zero, List.set_cons_succ, List.getElem_toArray, List.getElem_cons_succ, List.getElem_cons_zero]
              refine wpAnyL_take (i := 15) (v := ?v248) rfl (by kernel_rfl) (by kernel_rfl) (by kernel_rfl) (by kernel_rfl) (fun _ _ _ h => h) (Or.inl ⟨by rfl, ?hy248⟩) (by assumption) ?rest248
              case hy248 =>
                intro w hSw
                go_simp
                try with_reducible rfl
              try simp only [Act.put, List.setIfInBounds_toArray, List.set_cons_zero, List.set_cons_succ, List.getElem_toArray, List.getElem_cons_succ, List.getElem_cons_zero]
              refine wpAnyL_take (i := 16) (v := ?v249) rfl (by kernel_rfl) (by kernel_rfl) (by kernel_rfl) (by kernel_rfl) (fun _ _ _ h => h) (Or.inl ⟨by rfl, ?hy249⟩) (by assumption) ?rest249
              case hy249 =>
                intro w hSw
                go_simp
                try with_reducible rfl
              try simp only [Act.put, List.setIfInBounds_toArray, List.set_cons_zero, List.set_cons_succ, List.getElem_toArray, List.getElem_cons_succ, List.getElem_cons_zero]
              have hc8 := unhide HCA
              refine wpAnyL_ready (rs := [17]) (by kernel_rfl) (by simp) ?_
              refine AllReadyL.last rfl (fun K hK => ?_)
              go_simp
              refine hK.out _ _ (trivial) (fun hHeld => ?_)
              clear hK K
              try simp only [Act.put, List.setIfInBounds_toArray, List.set_cons_zero, List.set_cons_succ, List.getElem_toArray, List.getElem_cons_succ, List.getElem_cons_zero]
              refine wpAnyL_done (by kernel_rfl) ?_ _
              go_wp2
              go_roundw
              case rel => exact ⟨j + 1, by omega, by go_num, unhide HWn, (unhide HOn).drew⟩
              case measure => simp [intOf]; omega
            · obtain rfl : j = 4 := by omega
              have hat2 := unhide hat
              rw [mixd_all _ _ 4 (unhide HNL) (unhide HWL4)] at hat2
              obtain ⟨N, hN⟩ : ∃ N, N = NX := ⟨_, rfl⟩
              rw [← hN] at hat2 HND HNL
              obtain ⟨wd, hwd⟩ : ∃ wd, wd = wq := ⟨_, rfl⟩
              rw [← hwd] at hat2 hot ⊢
              have A9 := hide hat2
              have O9 : Hid (Only (fun j => j = b8) wa wd) := (unhide OBC).trans (unhide hot) (fun _ _ e => e)
              have hmk' : mk = mk := rfl
              clear hN hat hat2 hwd HNA
              have HMK' := hide hmk'
              clear hmk'
              have hgb : ∀ x, (Value.slice (some ⟨g, 0, none⟩) k cap).ownBlock = some x → w6.heap.size ≤ x ∧ x < wr.heap.size := (unhide HOWN).lt
              have OWD : Hid (Only (fun j => j = cb) w6 wd) := (unhide OWA).trans (unhide O9) (fun j hj e => by omega)
              have hblkd : wd.heap[cb]? = some (.cells ([Value.slice (some ⟨g, 0, none⟩) k cap] ++ (A.map bv ++ B.map bv)).toArray 83 (0, 0)) := (unhide O9).heap ((unhide OA).heap (unhide HBLK) (fun e => e)) (fun e => hne8 e.symm)
              have hownd : wd.drew.ownsRow w6.heap.size 86 4 (.slice (some ⟨g, 0, none⟩) k cap) k (ws.map bv) := (unhide O9).owns ((unhide OA).owns (unhide HOWN) (fun _ _ e => e)) (fun x hx e => by have := (hgb x hx).2; omega)
              have hc0d := rc_zero hblkd
              have hnc : ¬ ((Value.slice (some ⟨g, 0, none⟩) k cap).ownBlock = some cb) := fun e => by have := (hgb cb e).1; omega
              have hnb : ¬ ((Value.slice (some ⟨g, 0, none⟩) k cap).ownBlock = some b8) := fun e => by have := (hgb b8 e).2; omega
              have hwd6 := (unhide OWD).size
              obtain ⟨g2, cap2, w3, hrun, own3, op3⟩ := push4 wd.drew w6.heap.size (.slice (some ⟨g, 0, none⟩) k cap) k ws N (unhide HNL) hownd (by omega) hwd6
              have hblk3 : w3.heap[cb]? = some (.cells ([Value.slice (some ⟨g, 0, none⟩) k cap] ++ (A.map bv ++ B.map bv)).toArray 83 (0, 0)) := op3.heap hblkd hnc
              have hc3 := rc_zero hblk3
              have hf3 : w3.frozen? ⟨cb, 0, none⟩ = false := by simp [World.frozen?, hblk3]
              have HRUN := hide hrun
              have HB3 : Hid ((w3.setCell ⟨cb, 0, none⟩ (.slice (some ⟨g2, 0, none⟩) (k + 1) cap2)).heap[cb]? = some (.cells ([Value.slice (some ⟨g2, 0, none⟩) (k + 1) cap2] ++ (A.map bv ++ B.map bv)).toArray 83 (0, 0))) := by
                have h := two_setCell (i := 0) (u := Value.slice (some ⟨g2, 0, none⟩) (k + 1) cap2) hblk3
                show _ = _
                rw [h]
                simp
              have OW3 : Hid (Only (fun j => j = cb) w6 w3) := ((unhide OWD).drew).trans op3 (fun j hj e => by have := (hgb j e).1; omega)
              have HOW3 : Hid ((w3.setCell ⟨cb, 0, none⟩ (.slice (some ⟨g2, 0, none⟩) (k + 1) cap2)).ownsRow w6.heap.size 86 4 (.slice (some ⟨g2, 0, none⟩) (k + 1) cap2) (k + 1) ((rw' 24 key (k + 1)).1.map bv)) := by
                rw [unhide HND]
                exact ((Only.refl (fun j => j = cb) w3).here 0 _).owns own3 (fun x hx e => by have := (own3.lt x hx).1; omega)
              have HO3 : Hid (Only (fun j => j = cb) w6 (w3.setCell ⟨cb, 0, none⟩ (.slice (some ⟨g2, 0, none⟩) (k + 1) cap2))) := (unhide OW3).here 0 _
              have HC0D := hide hc0d
              have OP3 : Hid (Only (fun j => (Value.slice (some ⟨g, 0, none⟩) k cap).ownBlock = some j) wd w3) := ((Only.refl (fun j => (Value.slice (some ⟨g, 0, none⟩) k cap).ownBlock = some j) wd).drew).trans op3 (fun _ _ e => e)
              clear hrun own3 op3 hblkd hblk3 hownd hc0d hwd6
              go_wp2_with fail
              refine wp_region_last_drew (S := (fun w' => Only (fun j => (Value.slice (some ⟨g, 0, none⟩) k cap).ownBlock = some j) wd w')) 10 (by kernel_rfl) ((Only.refl _ _).drew) (fun hHeld => ?_)
              refine wpAnyL_take (i := 0) (v := ?v250) rfl (by kernel_rfl) (by kernel_rfl) (by kernel_rfl) (by kernel_rfl) (fun _ _ _ h => h) (Or.inl ⟨by rfl, ?hy250⟩) (by assumption) ?rest250
              case hy250 =>
                intro w hSw
                go_simp
                try with_reducible rfl
              try simp only [Act.put, List.setIfInBounds_toArray, List.set_cons_zero, List.set_cons_succ, List.getElem_toArray, List.getElem_cons_succ, List.getElem_cons_zero]
              refine wpAnyL_take (i := 1) (v := ?v251) rfl (by kernel_rfl) (by kernel_rfl) (by kernel_rfl) (by kernel_rfl) (fun _ _ _ h => h) (Or.inl ⟨by rfl, ?hy251⟩) (by assumption) ?rest251
              case hy251 =>
                intro w hSw
                go_simp
                try with_reducible rfl
              try simp only [Act.put, List.setIfInBounds_toArray, List.set_cons_zero, List.set_cons_succ, List.getElem_toArray, List.getElem_cons_succ, List.getElem_cons_zero]
              refine wpAnyL_take (i := 2) (v := ?v252) rfl (by kernel_rfl) (by kernel_rfl) (by kernel_rfl) (by kernel_rfl) (fun _ _ _ h => h) (Or.inl ⟨by rfl, ?hy252⟩) (by assumption) ?rest252
              case hy252 =>
                intro w hSw
                go_simp
                try with_reducible rfl
              try simp only [Act.put, List.setIfInBounds_toArray, List.set_cons_zero, List.set_cons_succ, List.getElem_toArray, List.getElem_cons_succ, List.getElem_cons_zero]
              refine wpAnyL_take (i := 3) (v := ?v253) rfl (by kernel_rfl) (by kernel_rfl) (by kernel_rfl) (by kernel_rfl) (fun _ _ _ h => h) (Or.inl ⟨by rfl, ?hy253⟩) (by assumption) ?rest253
              case hy253 =>
                intro w hSw
                go_simp
                try with_reducible rfl
              try simp only [Act.put, List.setIfInBounds_toArray, List.set_cons_zero, List.set_cons_succ, List.getElem_toArray, List.getElem_cons_succ, List.getElem_cons_zero]
              refine wpAnyL_take (i := 4) (v := ?v254) rfl (by kernel_rfl) (by kernel_rfl) (by kernel_rfl) (by kernel_rfl) (fun _ _ _ h => h) (Or.inl ⟨by rfl, ?hy254⟩) (by assumption) ?rest254
              case hy254 =>
                intro w hSw
                (have q := hSw.cell (unhide HC0D) hnc; go_simp; try with_reducible rfl)
              try simp only [Act.put, List.setIfInBounds_toArray, List.set_cons_zero, List.set_cons_succ, List.getElem_toArray, List.getElem_cons_succ, List.getElem_cons_zero]
              refine wpAnyL_take (i := 5) (v := ?v255) rfl (by kernel_rfl) (by kernel_rfl) (by kernel_rfl) (by kernel_rfl) (fun _ _ _ h => h) (Or.inl ⟨by rfl, ?hy255⟩) (by assumption) ?rest255
              case hy255 =>
                intro w hSw
                (refine exec_load_mid 86 (.tmp 8) ?_ b8 0 ?_ (N.map bv) _ (range_only (unhide A9).range hSw hnb) Try.underW rfl (by rw [Try.sizeW]; simp [unhide HNL]) <;> rfl)
              try simp only [Act.put, List.setIfInBounds_toArray, List.set_cons_zero, List.set_cons_succ, List.getElem_toArray, List.getElem_cons_succ, List.getElem_cons_zero]
              refine wpAnyL_ready (rs := [6]) (by kernel_rfl) (by simp) ?_
              refine AllReadyL.cons rfl (fun K hK => ?_) AllReadyL.nil
              refine step_rowW rfl (.tmp 165) rfl N (unhide HNL) rfl ?_
              refine hK.out _ _ ((((Only.refl _ wd).drew).alloc _)) (fun hHeld => ?_)
              clear hK K
              try simp only [Act.put, List.setIfInBounds_toArray, List.set_cons_zero, List.set_cons_succ, List.getElem_toArray, List.getElem_cons_succ, List.getElem_cons_zero]
              refine wpAnyL_ready (rs := [7]) (by kernel_rfl) (by simp) ?_
              refine AllReadyL.cons rfl (fun K hK => ?_) AllReadyL.nil
              refine step_append_run' rfl (.tmp 164) (.tmp 166) 80 rfl _ _ _ _ rfl rfl (unhide HRUN) ?_
              refine hK.out _ _ ((unhide OP3)) (fun hHeld => ?_)
              clear hK K
              try simp only [Act.put, List.setIfInBounds_toArray, List.set_cons_zero, List.set_cons_succ, List.getElem_toArray, List.getElem_cons_succ, List.getElem_cons_zero]
              refine wpAnyL_ready (rs := [8]) (by kernel_rfl) (by simp) ?_
              refine AllReadyL.cons rfl (fun K hK => ?_) AllReadyL.nil
              go_simp
              refine hK.out _ _ ((unhide OP3)) (fun hHeld => ?_)
              clear hK K
              try simp only [Act.put, List.setIfInBounds_toArray, List.set_cons_zero, List.set_cons_succ, List.getElem_toArray, List.getElem_cons_succ, List.getElem_cons_zero]
              refine wpAnyL_take (i := 9) (v := ?v256) rfl (by kernel_rfl) (by kernel_rfl) (by kernel_rfl) (by kernel_rfl) (fun _ _ _ h => h) (Or.inl ⟨by rfl, ?hy256⟩) (by assumption) ?rest256
              case hy256 =>
                intro w hSw
                go_simp
                try with_reducible rfl
              try simp only [Act.put, List.setIfInBounds_toArray, List.set_cons_zero, List.set_cons_succ, List.getElem_toArray, List.getElem_cons_succ, List.getElem_cons_zero]
              refine wpAnyL_ready (rs := [10]) (by kernel_rfl) (by simp) ?_
              refine AllReadyL.last rfl (fun K hK => ?_)
              go_simp
              refine hK.out _ _ (trivial) (fun hHeld => ?_)
              clear hK K
              try simp only [Act.put, List.setIfInBounds_toArray, List.set_cons_zero, List.set_cons_succ, List.getElem_toArray, List.getElem_cons_succ, List.getElem_cons_zero]
              refine wpAnyL_done (by kernel_rfl) ?_ _
              go_wp2
              go_roundw
              case rel => exact ⟨k + 1, by omega, by go_num, by rw [unhide HMD], some ⟨g2, 0, none⟩, cap2, unhide HB3, unhide HOW3, unhide HO3⟩
              case measure => simp [intOf]; omega
        · rw [if_neg hd0] at HWW HN2
          rw [if_neg (show ¬ (24 = 32 ∧ d = 4) from fun e => absurd e.1 (by decide))] at HWW
          have hdb : ((d : Int) == 0) = false := by simp; omega
          clear hd0 hd
          obtain ⟨Wd, hWd⟩ : ∃ Wd : List UInt8, Wd = [P0, P1, P2, P3] := ⟨_, rfl⟩
          rw [unhide HWW] at HN1
          rw [← hWd] at AB HN1
          have hWl : Wd.length = 4 := by rw [hWd]; rfl
          have HWL4 := hide hWl
          have AC := AB
          have OC : Hid (Only (fun j => j = b8) wb wb) := Only.refl _ _
          obtain ⟨wc, hwc⟩ : ∃ wc, wc = wb := ⟨_, rfl⟩
          have HQC := hide hwc
          clear hWd hWl E0 E1 E2 E3 T0 T1 T2 T3 AB HWW hxb hwc
          have HMD : Hid ((rw' 24 key (k + 1)).2 = mk) := HN2
          obtain ⟨NX, hNX⟩ : ∃ NX, NX = next 24 ws Wd 4 := ⟨_, rfl⟩
          have hNl : NX.length = 4 := by rw [hNX]; exact next_length _ _ _ _
          have hNat : ∀ j, j < 4 → NX[j]? = some (gt Wd j ^^^ gt ws (4 * (k - 6) + j)) := fun j hj => by
            rw [hNX, next_at 24 ws Wd j hj, unhide HWL, UInt8.xor_comm, show 4 * k - 24 + j = 4 * (k - 6) + j by omega]
          have HNA := hide hNat
          have HND : Hid ((rw' 24 key (k + 1)).1 = ws ++ NX) := by rw [hNX]; exact HN1
          have HNL := hide hNl
          have OBC : Hid (Only (fun j => j = b8) wa wb) := (unhide OB).trans (unhide OC) (fun _ _ e => e)
          have HCC := hide ((unhide OC).cell (unhide HCB) (fun e => hne8 e.symm))
          clear hNX hNl hNat HN1 HCB
          go_wp2
          go_loopw [9] (fun i wq => ∃ j : Nat, j ≤ 4 ∧ i = .int .i64 j ∧ Hid (Arr wq b8 86 (mixd NX Wd j)) ∧ Hid (Only (fun x => x = b8) wb wq)) (fun i _ => 4 - (intOf i).toNat)
          case atStart => exact ⟨0, Nat.zero_le _, rfl, by rw [mixd_zero]; exact AC, Only.refl _ _⟩
          case round =>
            rename World => wq
            obtain ⟨j, hj, rfl, hat, hot⟩ := hrel
            by_cases hjt : j < 4
            · have hm0 := mixd_at NX Wd 4 j (unhide HNL) (unhide HWL4) hjt
              rw [gt_some Wd j (by have := unhide HWL4; omega)] at hm0
              have HCA := hide ((unhide hat).cell j _ hm0)
              have hf8 := (unhide hat).free j
              have hw2 := (unhide hat).set j (gt Wd j ^^^ gt ws (4 * (k - 6) + j))
              rw [mixd_set _ _ 4 j (unhide HNL) (unhide HWL4) hjt _ (unhide HNA j hjt)] at hw2
              have HWn := hide hw2
              have HOn := hide ((unhide hot).here j (.int .u8 ((gt Wd j ^^^ gt ws (4 * (k - 6) + j)).toNat : Int)))
              have hx := xor_bv (gt Wd j) (gt ws (4 * (k - 6) + j))
              have HC0 := hide ((unhide hot).cell (unhide HCC) (fun e => hne8 e.symm))
              have hgc : wq.cell? ⟨g, (k - 6) * 4 + j, none⟩ = some (.int .u8 ((gt ws (4 * (k - 6) + j)).toNat : Int)) := (unhide hot).cell ((unhide OBC).cell ((unhide OA).cell (word_cell (unhide HOWN) (unhide HWL) (k - 6) j (by omega) hjt) (fun e => e)) hg8) hg8
              have HGC := hide hgc
              obtain ⟨kn, hkn2⟩ : ∃ kn, kn = k - 6 := ⟨_, rfl⟩
              have M5 : Hid (IntKind.i64.wrap ((k : Int) - 6) = (kn : Int)) := by show _ = _; rw [wrap_small _ (by omega) (by omega)]; omega
              have hknk : (kn : Int) < (k : Int) := by omega
              rw [← hkn2] at HGC HWn HOn hx
              clear hm0 hat hot hw2 hgc hkn2
              generalize gt Wd j ^^^ gt ws (4 * kn + j) = z' at *
              generalize gt Wd j = x' at *
              generalize gt ws (4 * kn + j) = y' at *
              have hj4 : (j : Int) < 4 := by omega
              go_wp2_with fail
              refine wp_region_last_drew (S := (fun w' => Only (fun _ => False) wq w')) 17 (by kernel_rfl) ((Only.refl _ _).drew) (fun hHeld => ?_)
              refine wpAnyL_take (i := 0) (v := ?v257) rfl (by kernel_rfl) (by kernel_rfl) (by kernel_rfl) (by kernel_rfl) (fun _ _ _ h => h) (Or.inl ⟨by rfl, ?hy257⟩) (by assumption) ?rest257
              case hy257 =>
                intro w hSw
                go_simp
                try with_reducible rfl
              try simp only [Act.put, List.setIfInBounds_toArray, List.set_cons_zero, List.set_cons_succ, List.getElem_toArray, List.getElem_cons_succ, List.getElem_cons_zero]
              refine wpAnyL_take (i := 1) (v := ?v258) rfl (by kernel_rfl) (by kernel_rfl) (by kernel_rfl) (by kernel_rfl) (fun _ _ _ h => h) (Or.inl ⟨by rfl, ?hy258⟩) (by assumption) ?rest258
              case hy258 =>
                intro w hSw
                go_simp
                try with_reducible rfl
              try simp only [Act.put, List.setIfInBounds_toArray, List.set_cons_zero, List.set_cons_succ, List.getElem_toArray, List.getElem_cons_succ, List.getElem_cons_zero]
              refine wpAnyL_take (i := 2) (v := ?v259) rfl (by kernel_rfl) (by kernel_rfl) (by kernel_rfl) (by kernel_rfl) (fun _ _ _ h => h) (Or.inl ⟨by rfl, ?hy259⟩) (by assumption) ?rest259
              case hy259 =>
                intro w hSw
                go_simp
                try with_reducible rfl
              try simp only [Act.put, List.setIfInBounds_toArray, List.set_cons_zero, List.set_cons_succ, List.getElem_toArray, List.getElem_cons_succ, List.getElem_cons_zero]
              refine wpAnyL_take (i := 3) (v := ?v260) rfl (by kernel_rfl) (by kernel_rfl) (by kernel_rfl) (by kernel_rfl) (fun _ _ _ h => h) (Or.inl ⟨by rfl, ?hy260⟩) (by assumption) ?rest260
              case hy260 =>
                intro w hSw
                (have q := hSw.cell (unhide HCA) (fun e => e); go_simp; try with_reducible rfl)
              try simp only [Act.put, List.setIfInBounds_toArray, List.set_cons_zero, List.set_cons_succ, List.getElem_toArray, List.getElem_cons_succ, List.getElem_cons_zero]
              refine wpAnyL_take (i := 4) (v := ?v261) rfl (by kernel_rfl) (by kernel_rfl) (by kernel_rfl) (by kernel_rfl) (fun _ _ _ h => h) (Or.inl ⟨by rfl, ?hy261⟩) (by assumption) ?rest261
              case hy261 =>
                intro w hSw
                go_simp
                try with_reducible rfl
              try simp only [Act.put, List.setIfInBounds_toArray, List.set_cons_zero, List.set_cons_succ, List.getElem_toArray, List.getElem_cons_succ, List.getElem_cons_zero]
              refine wpAnyL_take (i := 5) (v := ?v262) rfl (by kernel_rfl) (by kernel_rfl) (by kernel_rfl) (by kernel_rfl) (fun _ _ _ h => h) (Or.inl ⟨by rfl, ?hy262⟩) (by assumption) ?rest262
              case hy262 =>
                intro w hSw
                go_simp
                try with_reducible rfl
              try simp only [Act.put, List.setIfInBounds_toArray, List.set_cons_zero, List.set_cons_succ, List.getElem_toArray, List.getElem_cons_succ, List.getElem_cons_zero]
              refine wpAnyL_take (i := 6) (v := ?v263) rfl (by kernel_rfl) (by kernel_rfl) (by kernel_rfl) (by kernel_rfl) (fun _ _ _ h => h) (Or.inl ⟨by rfl, ?hy263⟩) (by assumption) ?rest263
              case hy263 =>
                intro w hSw
                go_simp
                try with_reducible rfl
              try simp only [Act.put, List.setIfInBounds_toArray, List.set_cons_zero, List.set_cons_succ, List.getElem_toArray, List.getElem_cons_succ, List.getElem_cons_zero]
              refine wpAnyL_take (i := 7) (v := ?v264) rfl (by kernel_rfl) (by kernel_rfl) (by kernel_rfl) (by kernel_rfl) (fun _ _ _ h => h) (Or.inl ⟨by rfl, ?hy264⟩) (by assumption) ?rest264
              case hy264 =>
                intro w hSw
                (have q := hSw.cell (unhide HC0) (fun e => e); go_simp; try with_reducible rfl)
              try simp only [Act.put, List.setIfInBounds_toArray, List.set_cons_zero, List.set_cons_succ, List.getElem_toArray, List.getElem_cons_succ, List.getElem_cons_zero]
              refine wpAnyL_take (i := 8) (v := ?v265) rfl (by kernel_rfl) (by kernel_rfl) (by kernel_rfl) (by kernel_rfl) (fun _ _ _ h => h) (Or.inl ⟨by rfl, ?hy265⟩) (by assumption) ?rest265
              case hy265 =>
                intro w hSw
                go_simp
                try with_reducible rfl
              try simp only [Act.put, List.setIfInBounds_toArray, List.set_cons_zero, List.set_cons_succ, List.getElem_toArray, List.getElem_cons_succ, List.getElem_cons_zero]
              refine wpAnyL_take (i := 9) (v := ?v266) rfl (by kernel_rfl) (by kernel_rfl) (by kernel_rfl) (by kernel_rfl) (fun _ _ _ h => h) (Or.inl ⟨by rfl, ?hy266⟩) (by assumption) ?rest266
              case hy266 =>
                intro w hSw
                go_simp
                try with_reducible rfl
              try simp only [Act.put, List.setIfInBounds_toArray, List.set_cons_zero, List.set_cons_succ, List.getElem_toArray, List.getElem_cons_succ, List.getElem_cons_zero]
              refine wpAnyL_take (i := 10) (v := ?v267) rfl (by kernel_rfl) (by kernel_rfl) (by kernel_rfl) (by kernel_rfl) (fun _ _ _ h => h) (Or.inl ⟨by rfl, ?hy267⟩) (by assumption) ?rest267
              case hy267 =>
                intro w hSw
                (go_simp; rw [unhide M5]; try with_reducible rfl)
              try simp only [Act.put, List.setIfInBounds_toArray, List.set_cons_zero, List.set_cons_succ, List.getElem_toArray, List.getElem_cons_succ, List.getElem_cons_zero]
              refine wpAnyL_take (i := 11) (v := ?v268) rfl (by kernel_rfl) (by kernel_rfl) (by kernel_rfl) (by kernel_rfl) (fun _ _ _ h => h) (Or.inl ⟨by rfl, ?hy268⟩) (by assumption) ?rest268
              case hy268 =>
                intro w hSw
                go_simp
                try with_reducible rfl
              try simp only [Act.put, List.setIfInBounds_toArray, List.set_cons_zero, List.set_cons_succ, List.getElem_toArray, List.getElem_cons_succ, List.getElem_cons_zero]
              refine wpAnyL_take (i := 12) (v := ?v269) rfl (by kernel_rfl) (by kernel_rfl) (by kernel_rfl) (by kernel_rfl) (fun _ _ _ h => h) (Or.inl ⟨by rfl, ?hy269⟩) (by assumption) ?rest269
              case hy269 =>
                intro w hSw
                go_simp
                try with_reducible rfl
              try simp only [Act.put, List.setIfInBounds_toArray, List.set_cons_zero, List.set_cons_succ, List.getElem_toArray, List.getElem_cons_succ, List.getElem_cons_zero]
              refine wpAnyL_take (i := 13) (v := ?v270) rfl (by kernel_rfl) (by kernel_rfl) (by kernel_rfl) (by kernel_rfl) (fun _ _ _ h => h) (Or.inl ⟨by rfl, ?hy270⟩) (by assumption) ?rest270
              case hy270 =>
                intro w hSw
                go_simp
                try with_reducible rfl
              try simp only [Act.put, List.setIfInBounds_toArray, List.set_cons_zero, List.set_cons_succ, List.getElem_toArray, List.getElem_cons_succ, List.getElem_cons_zero]
              refine wpAnyL_take (i := 14) (v := ?v271) rfl (by kernel_rfl) (by kernel_rfl) (by kernel_rfl) (by kernel_rfl) (fun _ _ _ h => h) (Or.inl ⟨by rfl, ?hy271⟩) (by assumption) ?rest271
              case hy271 =>
                intro w hSw
                (have q := hSw.cell (unhide HGC) (fun e => e); go_simp; try with_reducible rfl)
              try simp only [Act.put, List.setIfInBounds_toArray, List.set_cons_zero, List.set_cons_succ, List.getElem_toArray, List.getElem_cons_succ, List.getElem_cons_zero]
              refine wpAnyL_take (i := 15) (v := ?v272) rfl (by kernel_rfl) (by kernel_rfl) (by kernel_rfl) (by kernel_rfl) (fun _ _ _ h => h) (Or.inl ⟨by rfl, ?hy272⟩) (by assumption) ?rest272
              case hy272 =>
                intro w hSw
                go_simp
                try with_reducible rfl
              try simp only [Act.put, List.setIfInBounds_toArray, List.set_cons_zero, List.set_cons_succ, List.getElem_toArray, List.getElem_cons_succ, List.getElem_cons_zero]
              refine wpAnyL_take (i := 16) (v := ?v273) rfl (by kernel_rfl) (by kernel_rfl) (by kernel_rfl) (by kernel_rfl) (fun _ _ _ h => h) (Or.inl ⟨by rfl, ?hy273⟩) (by assumption) ?rest273
              case hy273 =>
                intro w hSw
                go_simp
                try with_reducible rfl
              try simp only [Act.put, List.setIfInBounds_toArray, List.set_cons_zero, List.set_cons_succ, List.getElem_toArray, List.getElem_cons_succ, List.getElem_cons_zero]
              have hc8 := unhide HCA
              refine wpAnyL_ready (rs := [17]) (by kernel_rfl) (by simp) ?_
              refine AllReadyL.last rfl (fun K hK => ?_)
              go_simp
              refine hK.out _ _ (trivial) (fun hHeld => ?_)
              clear hK K
              try simp only [Act.put, List.setIfInBounds_toArray, List.set_cons_zero, List.set_cons_succ, List.getElem_toArray, List.getElem_cons_succ, List.getElem_cons_zero]
              refine wpAnyL_done (by kernel_rfl) ?_ _
              go_wp2
              go_roundw
              case rel => exact ⟨j + 1, by omega, by go_num, unhide HWn, (unhide HOn).drew⟩
              case measure => simp [intOf]; omega
            · obtain rfl : j = 4 := by omega
              have hat2 := unhide hat
              rw [mixd_all _ _ 4 (unhide HNL) (unhide HWL4)] at hat2
              obtain ⟨N, hN⟩ : ∃ N, N = NX := ⟨_, rfl⟩
              rw [← hN] at hat2 HND HNL
              obtain ⟨wd, hwd⟩ : ∃ wd, wd = wq := ⟨_, rfl⟩
              rw [← hwd] at hat2 hot ⊢
              have A9 := hide hat2
              have O9 : Hid (Only (fun j => j = b8) wa wd) := (unhide OBC).trans (unhide hot) (fun _ _ e => e)
              have hmk' : mk = mk := rfl
              clear hN hat hat2 hwd HNA
              have HMK' := hide hmk'
              clear hmk'
              have hgb : ∀ x, (Value.slice (some ⟨g, 0, none⟩) k cap).ownBlock = some x → w6.heap.size ≤ x ∧ x < wr.heap.size := (unhide HOWN).lt
              have OWD : Hid (Only (fun j => j = cb) w6 wd) := (unhide OWA).trans (unhide O9) (fun j hj e => by omega)
              have hblkd : wd.heap[cb]? = some (.cells ([Value.slice (some ⟨g, 0, none⟩) k cap] ++ (A.map bv ++ B.map bv)).toArray 83 (0, 0)) := (unhide O9).heap ((unhide OA).heap (unhide HBLK) (fun e => e)) (fun e => hne8 e.symm)
              have hownd : wd.drew.ownsRow w6.heap.size 86 4 (.slice (some ⟨g, 0, none⟩) k cap) k (ws.map bv) := (unhide O9).owns ((unhide OA).owns (unhide HOWN) (fun _ _ e => e)) (fun x hx e => by have := (hgb x hx).2; omega)
              have hc0d := rc_zero hblkd
              have hnc : ¬ ((Value.slice (some ⟨g, 0, none⟩) k cap).ownBlock = some cb) := fun e => by have := (hgb cb e).1; omega
              have hnb : ¬ ((Value.slice (some ⟨g, 0, none⟩) k cap).ownBlock = some b8) := fun e => by have := (hgb b8 e).2; omega
              have hwd6 := (unhide OWD).size
              obtain ⟨g2, cap2, w3, hrun, own3, op3⟩ := push4 wd.drew w6.heap.size (.slice (some ⟨g, 0, none⟩) k cap) k ws N (unhide HNL) hownd (by omega) hwd6
              have hblk3 : w3.heap[cb]? = some (.cells ([Value.slice (some ⟨g, 0, none⟩) k cap] ++ (A.map bv ++ B.map bv)).toArray 83 (0, 0)) := op3.heap hblkd hnc
              have hc3 := rc_zero hblk3
              have hf3 : w3.frozen? ⟨cb, 0, none⟩ = false := by simp [World.frozen?, hblk3]
              have HRUN := hide hrun
              have HB3 : Hid ((w3.setCell ⟨cb, 0, none⟩ (.slice (some ⟨g2, 0, none⟩) (k + 1) cap2)).heap[cb]? = some (.cells ([Value.slice (some ⟨g2, 0, none⟩) (k + 1) cap2] ++ (A.map bv ++ B.map bv)).toArray 83 (0, 0))) := by
                have h := two_setCell (i := 0) (u := Value.slice (some ⟨g2, 0, none⟩) (k + 1) cap2) hblk3
                show _ = _
                rw [h]
                simp
              have OW3 : Hid (Only (fun j => j = cb) w6 w3) := ((unhide OWD).drew).trans op3 (fun j hj e => by have := (hgb j e).1; omega)
              have HOW3 : Hid ((w3.setCell ⟨cb, 0, none⟩ (.slice (some ⟨g2, 0, none⟩) (k + 1) cap2)).ownsRow w6.heap.size 86 4 (.slice (some ⟨g2, 0, none⟩) (k + 1) cap2) (k + 1) ((rw' 24 key (k + 1)).1.map bv)) := by
                rw [unhide HND]
                exact ((Only.refl (fun j => j = cb) w3).here 0 _).owns own3 (fun x hx e => by have := (own3.lt x hx).1; omega)
              have HO3 : Hid (Only (fun j => j = cb) w6 (w3.setCell ⟨cb, 0, none⟩ (.slice (some ⟨g2, 0, none⟩) (k + 1) cap2))) := (unhide OW3).here 0 _
              have HC0D := hide hc0d
              have OP3 : Hid (Only (fun j => (Value.slice (some ⟨g, 0, none⟩) k cap).ownBlock = some j) wd w3) := ((Only.refl (fun j => (Value.slice (some ⟨g, 0, none⟩) k cap).ownBlock = some j) wd).drew).trans op3 (fun _ _ e => e)
              clear hrun own3 op3 hblkd hblk3 hownd hc0d hwd6
              go_wp2_with fail
              refine wp_region_last_drew (S := (fun w' => Only (fun j => (Value.slice (some ⟨g, 0, none⟩) k cap).ownBlock = some j) wd w')) 10 (by kernel_rfl) ((Only.refl _ _).drew) (fun hHeld => ?_)
              refine wpAnyL_take (i := 0) (v := ?v274) rfl (by kernel_rfl) (by kernel_rfl) (by kernel_rfl) (by kernel_rfl) (fun _ _ _ h => h) (Or.inl ⟨by rfl, ?hy274⟩) (by assumption) ?rest274
              case hy274 =>
                intro w hSw
                go_simp
                try with_reducible rfl
              try simp only [Act.put, List.setIfInBounds_toArray, List.set_cons_zero, List.set_cons_succ, List.getElem_toArray, List.getElem_cons_succ, List.getElem_cons_zero]
              refine wpAnyL_take (i := 1) (v := ?v275) rfl (by kernel_rfl) (by kernel_rfl) (by kernel_rfl) (by kernel_rfl) (fun _ _ _ h => h) (Or.inl ⟨by rfl, ?hy275⟩) (by assumption) ?rest275
              case hy275 =>
                intro w hSw
                go_simp
                try with_reducible rfl
              try simp only [Act.put, List.setIfInBounds_toArray, List.set_cons_zero, List.set_cons_succ, List.getElem_toArray, List.getElem_cons_succ, List.getElem_cons_zero]
              refine wpAnyL_take (i := 2) (v := ?v276) rfl (by kernel_rfl) (by kernel_rfl) (by kernel_rfl) (by kernel_rfl) (fun _ _ _ h => h) (Or.inl ⟨by rfl, ?hy276⟩) (by assumption) ?rest276
              case hy276 =>
                intro w hSw
                go_simp
                try with_reducible rfl
              try simp only [Act.put, List.setIfInBounds_toArray, List.set_cons_zero, List.set_cons_succ, List.getElem_toArray, List.getElem_cons_succ, List.getElem_cons_zero]
              refine wpAnyL_take (i := 3) (v := ?v277) rfl (by kernel_rfl) (by kernel_rfl) (by kernel_rfl) (by kernel_rfl) (fun _ _ _ h => h) (Or.inl ⟨by rfl, ?hy277⟩) (by assumption) ?rest277
              case hy277 =>
                intro w hSw
                go_simp
                try with_reducible rfl
              try simp only [Act.put, List.setIfInBounds_toArray, List.set_cons_zero, List.set_cons_succ, List.getElem_toArray, List.getElem_cons_succ, List.getElem_cons_zero]
              refine wpAnyL_take (i := 4) (v := ?v278) rfl (by kernel_rfl) (by kernel_rfl) (by kernel_rfl) (by kernel_rfl) (fun _ _ _ h => h) (Or.inl ⟨by rfl, ?hy278⟩) (by assumption) ?rest278
              case hy278 =>
                intro w hSw
                (have q := hSw.cell (unhide HC0D) hnc; go_simp; try with_reducible rfl)
              try simp only [Act.put, List.setIfInBounds_toArray, List.set_cons_zero, List.set_cons_succ, List.getElem_toArray, List.getElem_cons_succ, List.getElem_cons_zero]
              refine wpAnyL_take (i := 5) (v := ?v279) rfl (by kernel_rfl) (by kernel_rfl) (by kernel_rfl) (by kernel_rfl) (fun _ _ _ h => h) (Or.inl ⟨by rfl, ?hy279⟩) (by assumption) ?rest279
              case hy279 =>
                intro w hSw
                (refine exec_load_mid 86 (.tmp 8) ?_ b8 0 ?_ (N.map bv) _ (range_only (unhide A9).range hSw hnb) Try.underW rfl (by rw [Try.sizeW]; simp [unhide HNL]) <;> rfl)
              try simp only [Act.put, List.setIfInBounds_toArray, List.set_cons_zero, List.set_cons_succ, List.getElem_toArray, List.getElem_cons_succ, List.getElem_cons_zero]
              refine wpAnyL_ready (rs := [6]) (by kernel_rfl) (by simp) ?_
              refine AllReadyL.cons rfl (fun K hK => ?_) AllReadyL.nil
              refine step_rowW rfl (.tmp 165) rfl N (unhide HNL) rfl ?_
              refine hK.out _ _ ((((Only.refl _ wd).drew).alloc _)) (fun hHeld => ?_)
              clear hK K
              try simp only [Act.put, List.setIfInBounds_toArray, List.set_cons_zero, List.set_cons_succ, List.getElem_toArray, List.getElem_cons_succ, List.getElem_cons_zero]
              refine wpAnyL_ready (rs := [7]) (by kernel_rfl) (by simp) ?_
              refine AllReadyL.cons rfl (fun K hK => ?_) AllReadyL.nil
              refine step_append_run' rfl (.tmp 164) (.tmp 166) 80 rfl _ _ _ _ rfl rfl (unhide HRUN) ?_
              refine hK.out _ _ ((unhide OP3)) (fun hHeld => ?_)
              clear hK K
              try simp only [Act.put, List.setIfInBounds_toArray, List.set_cons_zero, List.set_cons_succ, List.getElem_toArray, List.getElem_cons_succ, List.getElem_cons_zero]
              refine wpAnyL_ready (rs := [8]) (by kernel_rfl) (by simp) ?_
              refine AllReadyL.cons rfl (fun K hK => ?_) AllReadyL.nil
              go_simp
              refine hK.out _ _ ((unhide OP3)) (fun hHeld => ?_)
              clear hK K
              try simp only [Act.put, List.setIfInBounds_toArray, List.set_cons_zero, List.set_cons_succ, List.getElem_toArray, List.getElem_cons_succ, List.getElem_cons_zero]
              refine wpAnyL_take (i := 9) (v := ?v280) rfl (by kernel_rfl) (by kernel_rfl) (by kernel_rfl) (by kernel_rfl) (fun _ _ _ h => h) (Or.inl ⟨by rfl, ?hy280⟩) (by assumption) ?rest280
              case hy280 =>
                intro w hSw
                go_simp
                try with_reducible rfl
              try simp only [Act.put, List.setIfInBounds_toArray, List.set_cons_zero, List.set_cons_succ, List.getElem_toArray, List.getElem_cons_succ, List.getElem_cons_zero]
              refine wpAnyL_ready (rs := [10]) (by kernel_rfl) (by simp) ?_
              refine AllReadyL.last rfl (fun K hK => ?_)
              go_simp
              refine hK.out _ _ (trivial) (fun hHeld => ?_)
              clear hK K
              try simp only [Act.put, List.setIfInBounds_toArray, List.set_cons_zero, List.set_cons_succ, List.getElem_toArray, List.getElem_cons_succ, List.getElem_cons_zero]
              refine wpAnyL_done (by kernel_rfl) ?_ _
              go_wp2
              go_roundw
              case rel => exact ⟨k + 1, by omega, by go_num, by rw [unhide HMD], some ⟨g2, 0, none⟩, cap2, unhide HB3, unhide HOW3, unhide HO3⟩
              case measure => simp [intOf]; omega
    · obtain rfl : k = 52 := by omega
      obtain ⟨ao, cap, hblk, hown, hor⟩ := unhide hin
      have hlen := rw_length 24 key (unhide HKL) (by decide) 52
      obtain ⟨g, rfl⟩ : ∃ g, ao = some ⟨g, 0, none⟩ := by
        rcases hown.2 with ⟨e, h0⟩ | ⟨g, c2, cur, e, _⟩
        · simp at e
        · simp only [Value.slice.injEq] at e
          exact ⟨g, e.1⟩
      have hw : (rw' 24 key 52).1 = (expd 24 key 46).1 := by unfold rw'; rw [if_neg (by decide)]
      rw [hw] at hown hlen
      have HRC : Hid (RCip wr cb 13 (expd 24 key 46).1) := ⟨hlen, g, cap, by rw [← (unhide HAB).1, ← (unhide HAB).2]; exact hblk, ownsRow_base hown (Nat.zero_le _)⟩
      have HOR : Hid (Only (fun _ => False) w wr) := (unhide O6).trans hor (fun j hj e => by have := unhide HCW; omega)
      clear hblk hown hor hlen hw hin
      go_wp2
      go_ret2
      exact ⟨cb, rfl, unhide HRC, unhide HOR⟩

end Ae
end Go.Proofs.Ytdmcnblnoiahcaa
