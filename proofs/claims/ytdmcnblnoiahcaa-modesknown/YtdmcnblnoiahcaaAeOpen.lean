/-
  A cipher's Open.
-/
import Derived.Test.YtdmcnblnoiahcaaAeLists
namespace Go.Proofs.Ytdmcnblnoiahcaa
open Go.RowKit
set_option linter.unusedSimpArgs false
set_option linter.unusedVariables false
namespace Ae
attribute [local go_sem ↓] execOp_loadB execOp_loadS

set_option maxRecDepth 100000 in
set_option maxHeartbeats 4000000 in
theorem open_any (cb m n : Nat) (bs s : List UInt8) (hmn : m = n + 2) (hn1 : 1 ≤ n) (hn2 : n ≤ 20) (HM : Hid (MulAs n)) (HG : Hid (GrowAs m)) (hs : s.length = 16) (w : World) (hc : Cip w cb m bs) :
    Calls Try.prog 22 #[.pointer (some ⟨cb, 0, none⟩), .agg (s.map bv).toArray] w fun e w' => e = .returned (.agg ((openT bs m s m).map bv).toArray) ∧ Only (fun _ => False) w w' := by
  obtain ⟨hbl, g, cap, hcb, hrow⟩ := hc
  have HTL := hide (fun i hi => openT_length bs m hbl s hs i hi)
  obtain ⟨w2, b1, b3, e2, eb3, eb1, a1, a3, o2, n13, hb⟩ := two w s zero16 36 36
  go_enter Try.func22, Try.ntmps22
  go_upto_region 1 with fail
  rw [zeros_eq, ← e2, ← eb3, ← eb1]
  have hcw2 := o2.heap hcb (fun e => e)
  have hrw2 := o2.owns hrow (fun _ _ e => e)
  have HA3 := hide a3
  have hld := loadB_run a1.range hs
  have hb5 := Arr.new w2 64 zero16 (#[Value.int IntKind.u8 0, Value.int IntKind.u8 0, Value.int IntKind.u8 0, Value.int IntKind.u8 0, Value.int IntKind.u8 0, Value.int IntKind.u8 0, Value.int IntKind.u8 0, Value.int IntKind.u8 0, Value.int IntKind.u8 0, Value.int IntKind.u8 0, Value.int IntKind.u8 0, Value.int IntKind.u8 0, Value.int IntKind.u8 0, Value.int IntKind.u8 0, Value.int IntKind.u8 0, Value.int IntKind.u8 0]) rfl
  have hthere := hb5.there 16 rfl
  have HB5 := hide hb5
  have H2 : Hid (w2.heap.size = w.heap.size + 2) := by show _ = _; rw [e2]; simp
  have O2 := hide o2
  have HB := hide hb
  have HE3 := hide eb3
  clear e2 eb3 eb1 o2 hb hb5 a1 a3 hcb hrow
  go_upto_region 2 with (refine wpList_store_mid rfl 64 (.tmp 5) (.tmp 9) rfl w2.heap.size 0 (s.map bv).toArray rfl rfl (by simpa [hs] using hthere) (by rw [Try.sizeState]; simp [hs]) (ag_one _) ?_)
  have HS5 : Hid (Arr ((w2.alloc (.cells (#[Value.int IntKind.u8 0, Value.int IntKind.u8 0, Value.int IntKind.u8 0, Value.int IntKind.u8 0, Value.int IntKind.u8 0, Value.int IntKind.u8 0, Value.int IntKind.u8 0, Value.int IntKind.u8 0, Value.int IntKind.u8 0, Value.int IntKind.u8 0, Value.int IntKind.u8 0, Value.int IntKind.u8 0, Value.int IntKind.u8 0, Value.int IntKind.u8 0, Value.int IntKind.u8 0, Value.int IntKind.u8 0]) 64)).setCells w2.heap.size 0 (s.map bv)) w2.heap.size 64 s) := Arr.stored (unhide HB5) s (by rw [hs]; rfl)
  have O4 : Hid (Only (fun _ => False) w2 ((w2.alloc (.cells (#[Value.int IntKind.u8 0, Value.int IntKind.u8 0, Value.int IntKind.u8 0, Value.int IntKind.u8 0, Value.int IntKind.u8 0, Value.int IntKind.u8 0, Value.int IntKind.u8 0, Value.int IntKind.u8 0, Value.int IntKind.u8 0, Value.int IntKind.u8 0, Value.int IntKind.u8 0, Value.int IntKind.u8 0, Value.int IntKind.u8 0, Value.int IntKind.u8 0, Value.int IntKind.u8 0, Value.int IntKind.u8 0]) 64)).setCells w2.heap.size 0 (s.map bv))) := (Only.setCells (S := fun j => j = w2.heap.size) (a := w2) (b := w2.heap.size) (fun _ => rfl) _ _ 0 (((Only.refl _ w2).alloc _))) |>.mono (fun j hj e => by omega)
  clear hthere hld HB5
  generalize (w2.alloc (.cells (#[Value.int IntKind.u8 0, Value.int IntKind.u8 0, Value.int IntKind.u8 0, Value.int IntKind.u8 0, Value.int IntKind.u8 0, Value.int IntKind.u8 0, Value.int IntKind.u8 0, Value.int IntKind.u8 0, Value.int IntKind.u8 0, Value.int IntKind.u8 0, Value.int IntKind.u8 0, Value.int IntKind.u8 0, Value.int IntKind.u8 0, Value.int IntKind.u8 0, Value.int IntKind.u8 0, Value.int IntKind.u8 0]) 64)).setCells w2.heap.size 0 (s.map bv) = w4 at *
  have HC4 : Hid (w4.heap[cb]? = some (.cells #[.slice (some ⟨g, 0, none⟩) m cap] 63 (0, 0))) := (unhide O4).heap hcw2 (fun e => e)
  have HR4 : Hid (w4.ownsRow 0 36 16 (.slice (some ⟨g, 0, none⟩) m cap) m (bflat bs (upto m))) := (unhide O4).owns hrw2 (fun _ _ e => e)
  have HA4 : Hid (Arr w4 b3 36 zero16) := (unhide HA3).only (unhide O4) (fun e => e)
  have hb35 : b3 < w2.heap.size := (unhide HA3).lt
  have hcb5 : cb < w2.heap.size := lt_of_block hcw2
  have hgb5 : g < w2.heap.size := (hrw2.lt g rfl).2
  have hb5w : w.heap.size ≤ w2.heap.size := by have := unhide H2; omega
  have OW : Hid (Only (fun _ => False) w w4) := (unhide O2).trans (unhide O4) (fun _ _ e => e)
  have hb54 : w2.heap.size < w4.heap.size := (unhide HS5).lt
  clear hcw2 hrw2 HA3 O4 H2 O2
  generalize w2.heap.size = b5 at *
  clear w2
  have hck : ∀ o, (w4.alloc o).cell? ⟨cb, 0, none⟩ = some (.slice (some ⟨g, 0, none⟩) m cap) := fun o => by rw [World.cell?_alloc_past _ _ _ (lt_of_block (unhide HC4))]; exact cell_of_one (unhide HC4)
  have hm2 : (m : Int) - 2 = (n : Int) := by omega
  have HMN := hide hmn
  clear hmn
  go_wp2_with fail
  refine (repeat_any n hn1 (by omega) HM (F 44) rfl w4.heap.size _ (Boxed.new _ _ _).cell).mono ?_
  rintro e w6 ⟨g6, rfl, own6, o6⟩
  have O6 : Hid (Only (fun _ => False) w4 w6) := ((Only.refl _ w4).alloc _).trans o6 (fun _ _ e => e)
  have OWN6 := hide own6
  clear own6 o6 hck hm2
  go_wp2_with fail
  refine (concat_any (w6.heap.size + 1 + 1) [undef, undef, undef] [[F 45], List.replicate n (F 44), [F 39]] m _ (by have := unhide HMN; omega) HG rfl rfl (by have := unhide HMN; simp; omega) (lists_laid w6 g6 n (F 45) (F 44) (F 39) _ rfl rfl rfl (unhide OWN6))).mono ?_
  rintro e w7 ⟨v, rfl, own7, o7⟩
  have O7 : Hid (Only (fun _ => False) w4 w7) := (unhide O6).trans ((((((Only.refl _ w6).alloc _).alloc _).alloc _)).trans o7 (fun _ _ e => e)) (fun _ _ e => e)
  have HO7 : Hid (w7.ownsRow w4.heap.size 68 1 v m (rnds n (F 45) (F 44) (F 39))) := ownsRow_base own7 (by have := (unhide O6).size; simp; omega)
  clear own7 o7 OWN6 O6
  obtain ⟨gv, capv, rfl⟩ : ∃ gv capv, v = .slice (some ⟨gv, 0, none⟩) m capv := by
    have h := unhide HO7
    rw [show m = (m - 1) + 1 by have := unhide HMN; omega] at h ⊢
    exact ownsRow_succ h
  have hgv : w4.heap.size ≤ gv := ((unhide HO7).lt gv rfl).1
  have HC7 := hide ((unhide O7).heap (unhide HC4) (fun e => e))
  have HR7 := hide ((unhide O7).owns (unhide HR4) (fun _ _ e => e))
  have HA7 := hide ((unhide HA4).only (unhide O7) (fun e => e))
  have HS7 := hide ((unhide HS5).only (unhide O7) (fun e => e))
  have OW7 : Hid (Only (fun _ => False) w w7) := (unhide OW).trans (unhide O7) (fun _ _ e => e)
  clear HC4 HR4 HA4 HS5 OW O7
  have hgv5 : gv ≠ b5 := by omega
  have hcb5' : cb ≠ b5 := by omega
  have hgb5' : g ≠ b5 := by omega
  have hb35' : b3 ≠ b5 := by omega
  clear hgv hgb5 hb54 hb35 hcb5
  go_wp2
  go_loopw [7, 8, 24] (fun _ _ i wr => ∃ k : Nat, k ≤ m ∧ i = .int .i64 k ∧ Hid (Arr wr b5 64 (openT bs m s k)) ∧ Hid (Only (fun j => j = b5) w7 wr)) (fun _ _ i _ => m - (intOf i).toNat)
  case atStart => exact ⟨0, Nat.zero_le _, rfl, HS7, Only.refl _ _⟩
  case round =>
    obtain ⟨k, hk, rfl, har, hor⟩ := hrel
    by_cases hlt : k < m
    · have hcell := (unhide hor).cell ((unhide HO7).cellAt k (by omega) |>.trans (rnds_at n (F 45) (F 44) (F 39) k (by have := unhide HMN; omega))) hgv5
      have hkm : (k : Int) < (m : Int) := by omega
      have hm22 : m ≤ 22 := by have := unhide HMN; omega
      have hm22i : (m : Int) ≤ 22 := by omega
      have hcc := (unhide hor).cell (cell_of_one (unhide HC7)) hcb5'
      obtain ⟨kk, hkk⟩ : ∃ kk, kk = m - 1 - k := ⟨_, rfl⟩
      have HM1 : Hid (IntKind.i64.wrap ((m : Int) - 1) = ((m - 1 : Nat) : Int)) := by show _ = _; rw [wrap_small _ (by omega) (by omega)]; omega
      have HM2 : Hid (IntKind.i64.wrap (((m - 1 : Nat) : Int) - (k : Int)) = (kk : Int)) := by show _ = _; rw [wrap_small _ (by omega) (by omega)]; omega
      have hkkm : (kk : Int) < (m : Int) := by omega
      have hkk2 : kk < m := by omega
      have hrg := hide (range_only (Cip.key hbl (unhide HR7) kk hkk2) (unhide hor) hgb5')
      have hkl := hide (blkOf_length bs m kk hbl hkk2)
      have hsl := hide (unhide HTL k (by omega))
      have hnx : Hid (openT bs m s (k + 1) = if k = 0 then lastBack (openT bs m s k) (blkOf bs kk) else if k + 1 = m then added (openT bs m s k) (blkOf bs kk) else middleBack (openT bs m s k) (blkOf bs kk)) := by rw [hkk]; rfl
      clear hkk
      have hnl := hide (unhide HTL (k + 1) (by omega))
      have HCC := hide hcc
      clear hcc
      generalize hl1 : openT bs m s (k + 1) = l1 at *
      have HL1 := hide hl1
      clear hl1
      generalize openT bs m s k = l0 at *
      generalize blkOf bs kk = key at *
      by_cases h0 : k = 0
      · rw [if_pos h0] at hcell hnx
        clear h0
        go_wp2_with fail
        refine wp_region_last_drew (S := (fun w' => Only (fun _ => False) wr w')) 17 (by kernel_rfl) ((Only.refl _ _).drew) (fun hHeld => ?_)
        refine wpAnyL_take (i := 0) (v := ?v76) rfl (by kernel_rfl) (by kernel_rfl) (by kernel_rfl) (by kernel_rfl) (fun _ _ _ h => h) (Or.inl ⟨by rfl, ?hy76⟩) (by assumption) ?rest76
        case hy76 =>
          intro w hSw
          go_simp
          try with_reducible rfl
        try simp only [Act.put, List.setIfInBounds_toArray, List.set_cons_zero, List.set_cons_succ, List.getElem_toArray, List.getElem_cons_succ, List.getElem_cons_zero]
        refine wpAnyL_take (i := 1) (v := ?v77) rfl (by kernel_rfl) (by kernel_rfl) (by kernel_rfl) (by kernel_rfl) (fun _ _ _ h => h) (Or.inl ⟨by rfl, ?hy77⟩) (by assumption) ?rest77
        case hy77 =>
          intro w hSw
          (refine exec_load_mid 64 (.tmp 5) ?_ b5 0 ?_ (l0.map bv) _ (((unhide har).only hSw (fun e => e)).range) Try.underSt rfl (by rw [Try.sizeState]; have := unhide hsl; simp [this]) <;> rfl)
        try simp only [Act.put, List.setIfInBounds_toArray, List.set_cons_zero, List.set_cons_succ, List.getElem_toArray, List.getElem_cons_succ, List.getElem_cons_zero]
        refine wpAnyL_take (i := 2) (v := ?v78) rfl (by kernel_rfl) (by kernel_rfl) (by kernel_rfl) (by kernel_rfl) (fun _ _ _ h => h) (Or.inl ⟨by rfl, ?hy78⟩) (by assumption) ?rest78
        case hy78 =>
          intro w hSw
          go_simp
          try with_reducible rfl
        try simp only [Act.put, List.setIfInBounds_toArray, List.set_cons_zero, List.set_cons_succ, List.getElem_toArray, List.getElem_cons_succ, List.getElem_cons_zero]
        refine wpAnyL_take (i := 3) (v := ?v79) rfl (by kernel_rfl) (by kernel_rfl) (by kernel_rfl) (by kernel_rfl) (fun _ _ _ h => h) (Or.inl ⟨by rfl, ?hy79⟩) (by assumption) ?rest79
        case hy79 =>
          intro w hSw
          go_simp
          try with_reducible rfl
        try simp only [Act.put, List.setIfInBounds_toArray, List.set_cons_zero, List.set_cons_succ, List.getElem_toArray, List.getElem_cons_succ, List.getElem_cons_zero]
        refine wpAnyL_take (i := 4) (v := ?v80) rfl (by kernel_rfl) (by kernel_rfl) (by kernel_rfl) (by kernel_rfl) (fun _ _ _ h => h) (Or.inl ⟨by rfl, ?hy80⟩) (by assumption) ?rest80
        case hy80 =>
          intro w hSw
          go_simp
          try with_reducible rfl
        try simp only [Act.put, List.setIfInBounds_toArray, List.set_cons_zero, List.set_cons_succ, List.getElem_toArray, List.getElem_cons_succ, List.getElem_cons_zero]
        refine wpAnyL_take (i := 5) (v := ?v81) rfl (by kernel_rfl) (by kernel_rfl) (by kernel_rfl) (by kernel_rfl) (fun _ _ _ h => h) (Or.inl ⟨by rfl, ?hy81⟩) (by assumption) ?rest81
        case hy81 =>
          intro w hSw
          (have q := hSw.cell (unhide HCC) (fun e => e); go_simp; try with_reducible rfl)
        try simp only [Act.put, List.setIfInBounds_toArray, List.set_cons_zero, List.set_cons_succ, List.getElem_toArray, List.getElem_cons_succ, List.getElem_cons_zero]
        refine wpAnyL_take (i := 6) (v := ?v82) rfl (by kernel_rfl) (by kernel_rfl) (by kernel_rfl) (by kernel_rfl) (fun _ _ _ h => h) (Or.inl ⟨by rfl, ?hy82⟩) (by assumption) ?rest82
        case hy82 =>
          intro w hSw
          go_simp
          try with_reducible rfl
        try simp only [Act.put, List.setIfInBounds_toArray, List.set_cons_zero, List.set_cons_succ, List.getElem_toArray, List.getElem_cons_succ, List.getElem_cons_zero]
        refine wpAnyL_take (i := 7) (v := ?v83) rfl (by kernel_rfl) (by kernel_rfl) (by kernel_rfl) (by kernel_rfl) (fun _ _ _ h => h) (Or.inl ⟨by rfl, ?hy83⟩) (by assumption) ?rest83
        case hy83 =>
          intro w hSw
          go_simp
          try with_reducible rfl
        try simp only [Act.put, List.setIfInBounds_toArray, List.set_cons_zero, List.set_cons_succ, List.getElem_toArray, List.getElem_cons_succ, List.getElem_cons_zero]
        refine wpAnyL_take (i := 8) (v := ?v84) rfl (by kernel_rfl) (by kernel_rfl) (by kernel_rfl) (by kernel_rfl) (fun _ _ _ h => h) (Or.inl ⟨by rfl, ?hy84⟩) (by assumption) ?rest84
        case hy84 =>
          intro w hSw
          go_simp
          try with_reducible rfl
        try simp only [Act.put, List.setIfInBounds_toArray, List.set_cons_zero, List.set_cons_succ, List.getElem_toArray, List.getElem_cons_succ, List.getElem_cons_zero]
        refine wpAnyL_take (i := 9) (v := ?v85) rfl (by kernel_rfl) (by kernel_rfl) (by kernel_rfl) (by kernel_rfl) (fun _ _ _ h => h) (Or.inl ⟨by rfl, ?hy85⟩) (by assumption) ?rest85
        case hy85 =>
          intro w hSw
          (have q := hSw.cell (unhide HCC) (fun e => e); go_simp; try with_reducible rfl)
        try simp only [Act.put, List.setIfInBounds_toArray, List.set_cons_zero, List.set_cons_succ, List.getElem_toArray, List.getElem_cons_succ, List.getElem_cons_zero]
        refine wpAnyL_take (i := 10) (v := ?v86) rfl (by kernel_rfl) (by kernel_rfl) (by kernel_rfl) (by kernel_rfl) (fun _ _ _ h => h) (Or.inl ⟨by rfl, ?hy86⟩) (by assumption) ?rest86
        case hy86 =>
          intro w hSw
          go_simp
          try with_reducible rfl
        try simp only [Act.put, List.setIfInBounds_toArray, List.set_cons_zero, List.set_cons_succ, List.getElem_toArray, List.getElem_cons_succ, List.getElem_cons_zero]
        refine wpAnyL_take (i := 11) (v := ?v87) rfl (by kernel_rfl) (by kernel_rfl) (by kernel_rfl) (by kernel_rfl) (fun _ _ _ h => h) (Or.inl ⟨by rfl, ?hy87⟩) (by assumption) ?rest87
        case hy87 =>
          intro w hSw
          (go_simp; rw [unhide HM1]; try with_reducible rfl)
        try simp only [Act.put, List.setIfInBounds_toArray, List.set_cons_zero, List.set_cons_succ, List.getElem_toArray, List.getElem_cons_succ, List.getElem_cons_zero]
        refine wpAnyL_take (i := 12) (v := ?v88) rfl (by kernel_rfl) (by kernel_rfl) (by kernel_rfl) (by kernel_rfl) (fun _ _ _ h => h) (Or.inl ⟨by rfl, ?hy88⟩) (by assumption) ?rest88
        case hy88 =>
          intro w hSw
          go_simp
          try with_reducible rfl
        try simp only [Act.put, List.setIfInBounds_toArray, List.set_cons_zero, List.set_cons_succ, List.getElem_toArray, List.getElem_cons_succ, List.getElem_cons_zero]
        refine wpAnyL_take (i := 13) (v := ?v89) rfl (by kernel_rfl) (by kernel_rfl) (by kernel_rfl) (by kernel_rfl) (fun _ _ _ h => h) (Or.inl ⟨by rfl, ?hy89⟩) (by assumption) ?rest89
        case hy89 =>
          intro w hSw
          (go_simp; rw [unhide HM2]; try with_reducible rfl)
        try simp only [Act.put, List.setIfInBounds_toArray, List.set_cons_zero, List.set_cons_succ, List.getElem_toArray, List.getElem_cons_succ, List.getElem_cons_zero]
        refine wpAnyL_take (i := 14) (v := ?v90) rfl (by kernel_rfl) (by kernel_rfl) (by kernel_rfl) (by kernel_rfl) (fun _ _ _ h => h) (Or.inl ⟨by rfl, ?hy90⟩) (by assumption) ?rest90
        case hy90 =>
          intro w hSw
          go_simp
          try with_reducible rfl
        try simp only [Act.put, List.setIfInBounds_toArray, List.set_cons_zero, List.set_cons_succ, List.getElem_toArray, List.getElem_cons_succ, List.getElem_cons_zero]
        refine wpAnyL_take (i := 15) (v := ?v91) rfl (by kernel_rfl) (by kernel_rfl) (by kernel_rfl) (by kernel_rfl) (fun _ _ _ h => h) (Or.inl ⟨by rfl, ?hy91⟩) (by assumption) ?rest91
        case hy91 =>
          intro w hSw
          (refine exec_load_mid 36 (.tmp 43) ?_ g (kk * 16) ?_ (key.map bv) _ (range_only (unhide hrg) hSw (fun e => e)) Try.under16 rfl (by rw [Try.size16]; have := unhide hkl; simp [this]) <;> rfl)
        try simp only [Act.put, List.setIfInBounds_toArray, List.set_cons_zero, List.set_cons_succ, List.getElem_toArray, List.getElem_cons_succ, List.getElem_cons_zero]
        refine wpAnyL_ready (rs := [16]) (by kernel_rfl) (by simp) ?_
        refine AllReadyL.cons rfl (fun K hK => ?_) AllReadyL.nil
        go_simp
        go_wp2_with fail; refine (lastBack_any l0 key _ (unhide hsl) (unhide hkl)).mono ?_; rintro e wx ⟨rfl, yx⟩; have QX : Hid (Only (fun _ => False) wr.drew wx) := yx; clear yx; rw [← unhide hnx]
        refine hK.out _ _ ((after ((Only.refl _ wr).drew) (unhide QX))) (fun hHeld => ?_)
        clear hK K
        try simp only [Act.put, List.setIfInBounds_toArray, List.set_cons_zero, List.set_cons_succ, List.getElem_toArray, List.getElem_cons_succ, List.getElem_cons_zero]
        refine wpAnyL_ready (rs := [17]) (by kernel_rfl) (by simp) ?_
        refine AllReadyL.last rfl (fun K hK => ?_)
        refine step_store_mid rfl 64 (.tmp 5) (.tmp 45) rfl b5 0 (l1.map bv).toArray rfl rfl (((unhide har).only (after ((Only.refl (fun _ => False) wr).drew) (unhide QX)) (fun e => e)).there _ (by have := unhide hsl; have := unhide hnl; simp; omega)) (by rw [Try.sizeState]; have := unhide hnl; simp [this]) (ag_one _) ?_
        refine hK.out _ _ (trivial) (fun hHeld => ?_)
        clear hK K
        try simp only [Act.put, List.setIfInBounds_toArray, List.set_cons_zero, List.set_cons_succ, List.getElem_toArray, List.getElem_cons_succ, List.getElem_cons_zero]
        refine wpAnyL_done (by kernel_rfl) ?_ _
        go_wp2
        go_roundw
        case rel =>
          refine ⟨k + 1, by omega, by go_num, ?_, ?_⟩
          · show Arr _ _ _ _
            rw [unhide HL1]
            exact Arr.stored ((unhide har).only (after ((Only.refl (fun _ => False) wr).drew) (unhide QX)) (fun e => e)) l1 (by rw [unhide hsl, unhide hnl])
          · exact Only.setCells (S := fun j => j = b5) (a := w7) (b := b5) (fun _ => rfl) _ wx 0 (after (unhide hor) (after ((Only.refl (fun _ => False) wr).drew) (unhide QX)))
        case measure => simp [intOf]; omega
      · rw [if_neg h0] at hcell hnx
        by_cases h1 : k + 1 = m
        · rw [if_pos (by have := unhide HMN; omega)] at hcell
          rw [if_pos h1] at hnx
          clear h0 h1
          go_wp2_with fail
          refine wp_region_last_drew (S := (fun w' => Only (fun _ => False) wr w')) 17 (by kernel_rfl) ((Only.refl _ _).drew) (fun hHeld => ?_)
          refine wpAnyL_take (i := 0) (v := ?v92) rfl (by kernel_rfl) (by kernel_rfl) (by kernel_rfl) (by kernel_rfl) (fun _ _ _ h => h) (Or.inl ⟨by rfl, ?hy92⟩) (by assumption) ?rest92
          case hy92 =>
            intro w hSw
            go_simp
            try with_reducible rfl
          try simp only [Act.put, List.setIfInBounds_toArray, List.set_cons_zero, List.set_cons_succ, List.getElem_toArray, List.getElem_cons_succ, List.getElem_cons_zero]
          refine wpAnyL_take (i := 1) (v := ?v93) rfl (by kernel_rfl) (by kernel_rfl) (by kernel_rfl) (by kernel_rfl) (fun _ _ _ h => h) (Or.inl ⟨by rfl, ?hy93⟩) (by assumption) ?rest93
          case hy93 =>
            intro w hSw
            (refine exec_load_mid 64 (.tmp 5) ?_ b5 0 ?_ (l0.map bv) _ (((unhide har).only hSw (fun e => e)).range) Try.underSt rfl (by rw [Try.sizeState]; have := unhide hsl; simp [this]) <;> rfl)
          try simp only [Act.put, List.setIfInBounds_toArray, List.set_cons_zero, List.set_cons_succ, List.getElem_toArray, List.getElem_cons_succ, List.getElem_cons_zero]
          refine wpAnyL_take (i := 2) (v := ?v94) rfl (by kernel_rfl) (by kernel_rfl) (by kernel_rfl) (by kernel_rfl) (fun _ _ _ h => h) (Or.inl ⟨by rfl, ?hy94⟩) (by assumption) ?rest94
          case hy94 =>
            intro w hSw
            go_simp
            try with_reducible rfl
          try simp only [Act.put, List.setIfInBounds_toArray, List.set_cons_zero, List.set_cons_succ, List.getElem_toArray, List.getElem_cons_succ, List.getElem_cons_zero]
          refine wpAnyL_take (i := 3) (v := ?v95) rfl (by kernel_rfl) (by kernel_rfl) (by kernel_rfl) (by kernel_rfl) (fun _ _ _ h => h) (Or.inl ⟨by rfl, ?hy95⟩) (by assumption) ?rest95
          case hy95 =>
            intro w hSw
            go_simp
            try with_reducible rfl
          try simp only [Act.put, List.setIfInBounds_toArray, List.set_cons_zero, List.set_cons_succ, List.getElem_toArray, List.getElem_cons_succ, List.getElem_cons_zero]
          refine wpAnyL_take (i := 4) (v := ?v96) rfl (by kernel_rfl) (by kernel_rfl) (by kernel_rfl) (by kernel_rfl) (fun _ _ _ h => h) (Or.inl ⟨by rfl, ?hy96⟩) (by assumption) ?rest96
          case hy96 =>
            intro w hSw
            go_simp
            try with_reducible rfl
          try simp only [Act.put, List.setIfInBounds_toArray, List.set_cons_zero, List.set_cons_succ, List.getElem_toArray, List.getElem_cons_succ, List.getElem_cons_zero]
          refine wpAnyL_take (i := 5) (v := ?v97) rfl (by kernel_rfl) (by kernel_rfl) (by kernel_rfl) (by kernel_rfl) (fun _ _ _ h => h) (Or.inl ⟨by rfl, ?hy97⟩) (by assumption) ?rest97
          case hy97 =>
            intro w hSw
            (have q := hSw.cell (unhide HCC) (fun e => e); go_simp; try with_reducible rfl)
          try simp only [Act.put, List.setIfInBounds_toArray, List.set_cons_zero, List.set_cons_succ, List.getElem_toArray, List.getElem_cons_succ, List.getElem_cons_zero]
          refine wpAnyL_take (i := 6) (v := ?v98) rfl (by kernel_rfl) (by kernel_rfl) (by kernel_rfl) (by kernel_rfl) (fun _ _ _ h => h) (Or.inl ⟨by rfl, ?hy98⟩) (by assumption) ?rest98
          case hy98 =>
            intro w hSw
            go_simp
            try with_reducible rfl
          try simp only [Act.put, List.setIfInBounds_toArray, List.set_cons_zero, List.set_cons_succ, List.getElem_toArray, List.getElem_cons_succ, List.getElem_cons_zero]
          refine wpAnyL_take (i := 7) (v := ?v99) rfl (by kernel_rfl) (by kernel_rfl) (by kernel_rfl) (by kernel_rfl) (fun _ _ _ h => h) (Or.inl ⟨by rfl, ?hy99⟩) (by assumption) ?rest99
          case hy99 =>
            intro w hSw
            go_simp
            try with_reducible rfl
          try simp only [Act.put, List.setIfInBounds_toArray, List.set_cons_zero, List.set_cons_succ, List.getElem_toArray, List.getElem_cons_succ, List.getElem_cons_zero]
          refine wpAnyL_take (i := 8) (v := ?v100) rfl (by kernel_rfl) (by kernel_rfl) (by kernel_rfl) (by kernel_rfl) (fun _ _ _ h => h) (Or.inl ⟨by rfl, ?hy100⟩) (by assumption) ?rest100
          case hy100 =>
            intro w hSw
            go_simp
            try with_reducible rfl
          try simp only [Act.put, List.setIfInBounds_toArray, List.set_cons_zero, List.set_cons_succ, List.getElem_toArray, List.getElem_cons_succ, List.getElem_cons_zero]
          refine wpAnyL_take (i := 9) (v := ?v101) rfl (by kernel_rfl) (by kernel_rfl) (by kernel_rfl) (by kernel_rfl) (fun _ _ _ h => h) (Or.inl ⟨by rfl, ?hy101⟩) (by assumption) ?rest101
          case hy101 =>
            intro w hSw
            (have q := hSw.cell (unhide HCC) (fun e => e); go_simp; try with_reducible rfl)
          try simp only [Act.put, List.setIfInBounds_toArray, List.set_cons_zero, List.set_cons_succ, List.getElem_toArray, List.getElem_cons_succ, List.getElem_cons_zero]
          refine wpAnyL_take (i := 10) (v := ?v102) rfl (by kernel_rfl) (by kernel_rfl) (by kernel_rfl) (by kernel_rfl) (fun _ _ _ h => h) (Or.inl ⟨by rfl, ?hy102⟩) (by assumption) ?rest102
          case hy102 =>
            intro w hSw
            go_simp
            try with_reducible rfl
          try simp only [Act.put, List.setIfInBounds_toArray, List.set_cons_zero, List.set_cons_succ, List.getElem_toArray, List.getElem_cons_succ, List.getElem_cons_zero]
          refine wpAnyL_take (i := 11) (v := ?v103) rfl (by kernel_rfl) (by kernel_rfl) (by kernel_rfl) (by kernel_rfl) (fun _ _ _ h => h) (Or.inl ⟨by rfl, ?hy103⟩) (by assumption) ?rest103
          case hy103 =>
            intro w hSw
            (go_simp; rw [unhide HM1]; try with_reducible rfl)
          try simp only [Act.put, List.setIfInBounds_toArray, List.set_cons_zero, List.set_cons_succ, List.getElem_toArray, List.getElem_cons_succ, List.getElem_cons_zero]
          refine wpAnyL_take (i := 12) (v := ?v104) rfl (by kernel_rfl) (by kernel_rfl) (by kernel_rfl) (by kernel_rfl) (fun _ _ _ h => h) (Or.inl ⟨by rfl, ?hy104⟩) (by assumption) ?rest104
          case hy104 =>
            intro w hSw
            go_simp
            try with_reducible rfl
          try simp only [Act.put, List.setIfInBounds_toArray, List.set_cons_zero, List.set_cons_succ, List.getElem_toArray, List.getElem_cons_succ, List.getElem_cons_zero]
          refine wpAnyL_take (i := 13) (v := ?v105) rfl (by kernel_rfl) (by kernel_rfl) (by kernel_rfl) (by kernel_rfl) (fun _ _ _ h => h) (Or.inl ⟨by rfl, ?hy105⟩) (by assumption) ?rest105
          case hy105 =>
            intro w hSw
            (go_simp; rw [unhide HM2]; try with_reducible rfl)
          try simp only [Act.put, List.setIfInBounds_toArray, List.set_cons_zero, List.set_cons_succ, List.getElem_toArray, List.getElem_cons_succ, List.getElem_cons_zero]
          refine wpAnyL_take (i := 14) (v := ?v106) rfl (by kernel_rfl) (by kernel_rfl) (by kernel_rfl) (by kernel_rfl) (fun _ _ _ h => h) (Or.inl ⟨by rfl, ?hy106⟩) (by assumption) ?rest106
          case hy106 =>
            intro w hSw
            go_simp
            try with_reducible rfl
          try simp only [Act.put, List.setIfInBounds_toArray, List.set_cons_zero, List.set_cons_succ, List.getElem_toArray, List.getElem_cons_succ, List.getElem_cons_zero]
          refine wpAnyL_take (i := 15) (v := ?v107) rfl (by kernel_rfl) (by kernel_rfl) (by kernel_rfl) (by kernel_rfl) (fun _ _ _ h => h) (Or.inl ⟨by rfl, ?hy107⟩) (by assumption) ?rest107
          case hy107 =>
            intro w hSw
            (refine exec_load_mid 36 (.tmp 43) ?_ g (kk * 16) ?_ (key.map bv) _ (range_only (unhide hrg) hSw (fun e => e)) Try.under16 rfl (by rw [Try.size16]; have := unhide hkl; simp [this]) <;> rfl)
          try simp only [Act.put, List.setIfInBounds_toArray, List.set_cons_zero, List.set_cons_succ, List.getElem_toArray, List.getElem_cons_succ, List.getElem_cons_zero]
          refine wpAnyL_ready (rs := [16]) (by kernel_rfl) (by simp) ?_
          refine AllReadyL.cons rfl (fun K hK => ?_) AllReadyL.nil
          go_simp
          go_wp2_with fail; refine (added_any l0 key _ (unhide hsl) (unhide hkl)).mono ?_; rintro e wx ⟨rfl, yx⟩; have QX : Hid (Only (fun _ => False) wr.drew wx) := yx; clear yx; rw [← unhide hnx]
          refine hK.out _ _ ((after ((Only.refl _ wr).drew) (unhide QX))) (fun hHeld => ?_)
          clear hK K
          try simp only [Act.put, List.setIfInBounds_toArray, List.set_cons_zero, List.set_cons_succ, List.getElem_toArray, List.getElem_cons_succ, List.getElem_cons_zero]
          refine wpAnyL_ready (rs := [17]) (by kernel_rfl) (by simp) ?_
          refine AllReadyL.last rfl (fun K hK => ?_)
          refine step_store_mid rfl 64 (.tmp 5) (.tmp 45) rfl b5 0 (l1.map bv).toArray rfl rfl (((unhide har).only (after ((Only.refl (fun _ => False) wr).drew) (unhide QX)) (fun e => e)).there _ (by have := unhide hsl; have := unhide hnl; simp; omega)) (by rw [Try.sizeState]; have := unhide hnl; simp [this]) (ag_one _) ?_
          refine hK.out _ _ (trivial) (fun hHeld => ?_)
          clear hK K
          try simp only [Act.put, List.setIfInBounds_toArray, List.set_cons_zero, List.set_cons_succ, List.getElem_toArray, List.getElem_cons_succ, List.getElem_cons_zero]
          refine wpAnyL_done (by kernel_rfl) ?_ _
          go_wp2
          go_roundw
          case rel =>
            refine ⟨k + 1, by omega, by go_num, ?_, ?_⟩
            · show Arr _ _ _ _
              rw [unhide HL1]
              exact Arr.stored ((unhide har).only (after ((Only.refl (fun _ => False) wr).drew) (unhide QX)) (fun e => e)) l1 (by rw [unhide hsl, unhide hnl])
            · exact Only.setCells (S := fun j => j = b5) (a := w7) (b := b5) (fun _ => rfl) _ wx 0 (after (unhide hor) (after ((Only.refl (fun _ => False) wr).drew) (unhide QX)))
          case measure => simp [intOf]; omega
        · rw [if_neg (by have := unhide HMN; omega)] at hcell
          rw [if_neg h1] at hnx
          clear h0 h1
          go_wp2_with fail
          refine wp_region_last_drew (S := (fun w' => Only (fun _ => False) wr w')) 17 (by kernel_rfl) ((Only.refl _ _).drew) (fun hHeld => ?_)
          refine wpAnyL_take (i := 0) (v := ?v108) rfl (by kernel_rfl) (by kernel_rfl) (by kernel_rfl) (by kernel_rfl) (fun _ _ _ h => h) (Or.inl ⟨by rfl, ?hy108⟩) (by assumption) ?rest108
          case hy108 =>
            intro w hSw
            go_simp
            try with_reducible rfl
          try simp only [Act.put, List.setIfInBounds_toArray, List.set_cons_zero, List.set_cons_succ, List.getElem_toArray, List.getElem_cons_succ, List.getElem_cons_zero]
          refine wpAnyL_take (i := 1) (v := ?v109) rfl (by kernel_rfl) (by kernel_rfl) (by kernel_rfl) (by kernel_rfl) (fun _ _ _ h => h) (Or.inl ⟨by rfl, ?hy109⟩) (by assumption) ?rest109
          case hy109 =>
            intro w hSw
            (refine exec_load_mid 64 (.tmp 5) ?_ b5 0 ?_ (l0.map bv) _ (((unhide har).only hSw (fun e => e)).range) Try.underSt rfl (by rw [Try.sizeState]; have := unhide hsl; simp [this]) <;> rfl)
          try simp only [Act.put, List.setIfInBounds_toArray, List.set_cons_zero, List.set_cons_succ, List.getElem_toArray, List.getElem_cons_succ, List.getElem_cons_zero]
          refine wpAnyL_take (i := 2) (v := ?v110) rfl (by kernel_rfl) (by kernel_rfl) (by kernel_rfl) (by kernel_rfl) (fun _ _ _ h => h) (Or.inl ⟨by rfl, ?hy110⟩) (by assumption) ?rest110
          case hy110 =>
            intro w hSw
            go_simp
            try with_reducible rfl
          try simp only [Act.put, List.setIfInBounds_toArray, List.set_cons_zero, List.set_cons_succ, List.getElem_toArray, List.getElem_cons_succ, List.getElem_cons_zero]
          refine wpAnyL_take (i := 3) (v := ?v111) rfl (by kernel_rfl) (by kernel_rfl) (by kernel_rfl) (by kernel_rfl) (fun _ _ _ h => h) (Or.inl ⟨by rfl, ?hy111⟩) (by assumption) ?rest111
          case hy111 =>
            intro w hSw
            go_simp
            try with_reducible rfl
          try simp only [Act.put, List.setIfInBounds_toArray, List.set_cons_zero, List.set_cons_succ, List.getElem_toArray, List.getElem_cons_succ, List.getElem_cons_zero]
          refine wpAnyL_take (i := 4) (v := ?v112) rfl (by kernel_rfl) (by kernel_rfl) (by kernel_rfl) (by kernel_rfl) (fun _ _ _ h => h) (Or.inl ⟨by rfl, ?hy112⟩) (by assumption) ?rest112
          case hy112 =>
            intro w hSw
            go_simp
            try with_reducible rfl
          try simp only [Act.put, List.setIfInBounds_toArray, List.set_cons_zero, List.set_cons_succ, List.getElem_toArray, List.getElem_cons_succ, List.getElem_cons_zero]
          refine wpAnyL_take (i := 5) (v := ?v113) rfl (by kernel_rfl) (by kernel_rfl) (by kernel_rfl) (by kernel_rfl) (fun _ _ _ h => h) (Or.inl ⟨by rfl, ?hy113⟩) (by assumption) ?rest113
          case hy113 =>
            intro w hSw
            (have q := hSw.cell (unhide HCC) (fun e => e); go_simp; try with_reducible rfl)
          try simp only [Act.put, List.setIfInBounds_toArray, List.set_cons_zero, List.set_cons_succ, List.getElem_toArray, List.getElem_cons_succ, List.getElem_cons_zero]
          refine wpAnyL_take (i := 6) (v := ?v114) rfl (by kernel_rfl) (by kernel_rfl) (by kernel_rfl) (by kernel_rfl) (fun _ _ _ h => h) (Or.inl ⟨by rfl, ?hy114⟩) (by assumption) ?rest114
          case hy114 =>
            intro w hSw
            go_simp
            try with_reducible rfl
          try simp only [Act.put, List.setIfInBounds_toArray, List.set_cons_zero, List.set_cons_succ, List.getElem_toArray, List.getElem_cons_succ, List.getElem_cons_zero]
          refine wpAnyL_take (i := 7) (v := ?v115) rfl (by kernel_rfl) (by kernel_rfl) (by kernel_rfl) (by kernel_rfl) (fun _ _ _ h => h) (Or.inl ⟨by rfl, ?hy115⟩) (by assumption) ?rest115
          case hy115 =>
            intro w hSw
            go_simp
            try with_reducible rfl
          try simp only [Act.put, List.setIfInBounds_toArray, List.set_cons_zero, List.set_cons_succ, List.getElem_toArray, List.getElem_cons_succ, List.getElem_cons_zero]
          refine wpAnyL_take (i := 8) (v := ?v116) rfl (by kernel_rfl) (by kernel_rfl) (by kernel_rfl) (by kernel_rfl) (fun _ _ _ h => h) (Or.inl ⟨by rfl, ?hy116⟩) (by assumption) ?rest116
          case hy116 =>
            intro w hSw
            go_simp
            try with_reducible rfl
          try simp only [Act.put, List.setIfInBounds_toArray, List.set_cons_zero, List.set_cons_succ, List.getElem_toArray, List.getElem_cons_succ, List.getElem_cons_zero]
          refine wpAnyL_take (i := 9) (v := ?v117) rfl (by kernel_rfl) (by kernel_rfl) (by kernel_rfl) (by kernel_rfl) (fun _ _ _ h => h) (Or.inl ⟨by rfl, ?hy117⟩) (by assumption) ?rest117
          case hy117 =>
            intro w hSw
            (have q := hSw.cell (unhide HCC) (fun e => e); go_simp; try with_reducible rfl)
          try simp only [Act.put, List.setIfInBounds_toArray, List.set_cons_zero, List.set_cons_succ, List.getElem_toArray, List.getElem_cons_succ, List.getElem_cons_zero]
          refine wpAnyL_take (i := 10) (v := ?v118) rfl (by kernel_rfl) (by kernel_rfl) (by kernel_rfl) (by kernel_rfl) (fun _ _ _ h => h) (Or.inl ⟨by rfl, ?hy118⟩) (by assumption) ?rest118
          case hy118 =>
            intro w hSw
            go_simp
            try with_reducible rfl
          try simp only [Act.put, List.setIfInBounds_toArray, List.set_cons_zero, List.set_cons_succ, List.getElem_toArray, List.getElem_cons_succ, List.getElem_cons_zero]
          refine wpAnyL_take (i := 11) (v := ?v119) rfl (by kernel_rfl) (by kernel_rfl) (by kernel_rfl) (by kernel_rfl) (fun _ _ _ h => h) (Or.inl ⟨by rfl, ?hy119⟩) (by assumption) ?rest119
          case hy119 =>
            intro w hSw
            (go_simp; rw [unhide HM1]; try with_reducible rfl)
          try simp only [Act.put, List.setIfInBounds_toArray, List.set_cons_zero, List.set_cons_succ, List.getElem_toArray, List.getElem_cons_succ, List.getElem_cons_zero]
          refine wpAnyL_take (i := 12) (v := ?v120) rfl (by kernel_rfl) (by kernel_rfl) (by kernel_rfl) (by kernel_rfl) (fun _ _ _ h => h) (Or.inl ⟨by rfl, ?hy120⟩) (by assumption) ?rest120
          case hy120 =>
            intro w hSw
            go_simp
            try with_reducible rfl
          try simp only [Act.put, List.setIfInBounds_toArray, List.set_cons_zero, List.set_cons_succ, List.getElem_toArray, List.getElem_cons_succ, List.getElem_cons_zero]
          refine wpAnyL_take (i := 13) (v := ?v121) rfl (by kernel_rfl) (by kernel_rfl) (by kernel_rfl) (by kernel_rfl) (fun _ _ _ h => h) (Or.inl ⟨by rfl, ?hy121⟩) (by assumption) ?rest121
          case hy121 =>
            intro w hSw
            (go_simp; rw [unhide HM2]; try with_reducible rfl)
          try simp only [Act.put, List.setIfInBounds_toArray, List.set_cons_zero, List.set_cons_succ, List.getElem_toArray, List.getElem_cons_succ, List.getElem_cons_zero]
          refine wpAnyL_take (i := 14) (v := ?v122) rfl (by kernel_rfl) (by kernel_rfl) (by kernel_rfl) (by kernel_rfl) (fun _ _ _ h => h) (Or.inl ⟨by rfl, ?hy122⟩) (by assumption) ?rest122
          case hy122 =>
            intro w hSw
            go_simp
            try with_reducible rfl
          try simp only [Act.put, List.setIfInBounds_toArray, List.set_cons_zero, List.set_cons_succ, List.getElem_toArray, List.getElem_cons_succ, List.getElem_cons_zero]
          refine wpAnyL_take (i := 15) (v := ?v123) rfl (by kernel_rfl) (by kernel_rfl) (by kernel_rfl) (by kernel_rfl) (fun _ _ _ h => h) (Or.inl ⟨by rfl, ?hy123⟩) (by assumption) ?rest123
          case hy123 =>
            intro w hSw
            (refine exec_load_mid 36 (.tmp 43) ?_ g (kk * 16) ?_ (key.map bv) _ (range_only (unhide hrg) hSw (fun e => e)) Try.under16 rfl (by rw [Try.size16]; have := unhide hkl; simp [this]) <;> rfl)
          try simp only [Act.put, List.setIfInBounds_toArray, List.set_cons_zero, List.set_cons_succ, List.getElem_toArray, List.getElem_cons_succ, List.getElem_cons_zero]
          refine wpAnyL_ready (rs := [16]) (by kernel_rfl) (by simp) ?_
          refine AllReadyL.cons rfl (fun K hK => ?_) AllReadyL.nil
          go_simp
          go_wp2_with fail; refine (middleBack_any l0 key _ (unhide hsl) (unhide hkl)).mono ?_; rintro e wx ⟨rfl, yx⟩; have QX : Hid (Only (fun _ => False) wr.drew wx) := yx; clear yx; rw [← unhide hnx]
          refine hK.out _ _ ((after ((Only.refl _ wr).drew) (unhide QX))) (fun hHeld => ?_)
          clear hK K
          try simp only [Act.put, List.setIfInBounds_toArray, List.set_cons_zero, List.set_cons_succ, List.getElem_toArray, List.getElem_cons_succ, List.getElem_cons_zero]
          refine wpAnyL_ready (rs := [17]) (by kernel_rfl) (by simp) ?_
          refine AllReadyL.last rfl (fun K hK => ?_)
          refine step_store_mid rfl 64 (.tmp 5) (.tmp 45) rfl b5 0 (l1.map bv).toArray rfl rfl (((unhide har).only (after ((Only.refl (fun _ => False) wr).drew) (unhide QX)) (fun e => e)).there _ (by have := unhide hsl; have := unhide hnl; simp; omega)) (by rw [Try.sizeState]; have := unhide hnl; simp [this]) (ag_one _) ?_
          refine hK.out _ _ (trivial) (fun hHeld => ?_)
          clear hK K
          try simp only [Act.put, List.setIfInBounds_toArray, List.set_cons_zero, List.set_cons_succ, List.getElem_toArray, List.getElem_cons_succ, List.getElem_cons_zero]
          refine wpAnyL_done (by kernel_rfl) ?_ _
          go_wp2
          go_roundw
          case rel =>
            refine ⟨k + 1, by omega, by go_num, ?_, ?_⟩
            · show Arr _ _ _ _
              rw [unhide HL1]
              exact Arr.stored ((unhide har).only (after ((Only.refl (fun _ => False) wr).drew) (unhide QX)) (fun e => e)) l1 (by rw [unhide hsl, unhide hnl])
            · exact Only.setCells (S := fun j => j = b5) (a := w7) (b := b5) (fun _ => rfl) _ wx 0 (after (unhide hor) (after ((Only.refl (fun _ => False) wr).drew) (unhide QX)))
          case measure => simp [intOf]; omega
    · obtain rfl : k = m := by omega
      have ht := unhide HTL k (Nat.le_refl _)
      have HT := hide ht
      have HA9 := hide ((unhide HA7).only (unhide hor) hb35')
      have ht3 := (unhide HA9).there 16 rfl
      generalize hl : openT bs k s k = l at *
      have HLE := hide hl
      clear hl
      have hlds := loadS_run (unhide har) (unhide HT)
      have hkk : ¬ ((k : Int) < (k : Int)) := by omega
      go_wp2_with (refine wpList_store_mid rfl 36 (.tmp 4) (.tmp 47) rfl b3 0 (l.map bv).toArray rfl rfl (by simpa [ht] using ht3) (by rw [Try.size16]; simp [ht]) (ag_one _) ?_)
      refine bodyPost_ret (results_cell_row rfl _ _ b3 36 _ _ _ rfl ((unhide HA9).stored l (by rw [ht]; rfl)).out Try.under16 rfl (by rw [Try.size16]; simp [ht])) rfl ?_
      exact ⟨by rw [← unhide HLE], done13 (unhide OW7) (unhide hor) (fun j hj => ⟨by omega, ((unhide HB) j hj).2⟩)⟩

end Ae
end Go.Proofs.Ytdmcnblnoiahcaa
