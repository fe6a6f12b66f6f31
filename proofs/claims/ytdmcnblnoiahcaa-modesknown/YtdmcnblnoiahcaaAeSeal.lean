/-
  A cipher's Seal.
-/
import Derived.Test.YtdmcnblnoiahcaaAeLists
namespace Go.Proofs.Ytdmcnblnoiahcaa
open Go.RowKit
set_option linter.unusedSimpArgs false
set_option linter.unusedVariables false
namespace Ae
attribute [local go_sem ↓] execOp_loadB execOp_loadS

set_option maxRecDepth 100000 in
set_option maxHeartbeats 4000000 in
theorem seal_any (cb m n : Nat) (bs s : List UInt8) (hmn : m = n + 2) (hn1 : 1 ≤ n) (hn2 : n ≤ 20) (HM : Hid (MulAs n)) (HG : Hid (GrowAs m)) (hs : s.length = 16) (w : World) (hc : Cip w cb m bs) :
    Calls Try.prog 13 #[.pointer (some ⟨cb, 0, none⟩), .agg (s.map bv).toArray] w fun e w' => e = .returned (.agg ((sealT bs m s m).map bv).toArray) ∧ Only (fun _ => False) w w' := by
  obtain ⟨hbl, g, cap, hcb, hrow⟩ := hc
  have HTL := hide (fun i hi => sealT_length bs m hbl s hs i hi)
  obtain ⟨w2, b1, b3, e2, eb3, eb1, a1, a3, o2, n13, hb⟩ := two w s zero16 36 36
  go_enter Try.func13, Try.ntmps13
  go_upto_region 1 with fail
  rw [zeros_eq, ← e2, ← eb3, ← eb1]
  have hcw2 := o2.heap hcb (fun e => e)
  have hrw2 := o2.owns hrow (fun _ _ e => e)
  have HA3 := hide a3
  have hld := loadB_run a1.range hs
  have hb5 := Arr.new w2 64 zero16 (#[Value.int IntKind.u8 0, Value.int IntKind.u8 0, Value.int IntKind.u8 0, Value.int IntKind.u8 0, Value.int IntKind.u8 0, Value.int IntKind.u8 0, Value.int IntKind.u8 0, Value.int IntKind.u8 0, Value.int IntKind.u8 0, Value.int IntKind.u8 0, Value.int IntKind.u8 0, Value.int IntKind.u8 0, Value.int IntKind.u8 0, Value.int IntKind.u8 0, Value.int IntKind.u8 0, Value.int IntKind.u8 0]) rfl
  have hthere := hb5.there 16 rfl
  have HB5 := hide hb5
  have H2 : Hid (w2.heap.size = w.heap.size + 2) := by show _ = _; rw [e2]; simp
  have O2 := hide o2
  have HB := hide hb
  have HE3 := hide eb3
  clear e2 eb3 eb1 o2 hb hb5 a1 a3 hcb hrow
  go_upto_region 2 with (refine wpList_store_mid rfl 64 (.tmp 5) (.tmp 9) rfl w2.heap.size 0 (s.map bv).toArray rfl rfl (by simpa [hs] using hthere) (by rw [Try.sizeState]; simp [hs]) (ag_one _) ?_)
  have HS5 : Hid (Arr ((w2.alloc (.cells (#[Value.int IntKind.u8 0, Value.int IntKind.u8 0, Value.int IntKind.u8 0, Value.int IntKind.u8 0, Value.int IntKind.u8 0, Value.int IntKind.u8 0, Value.int IntKind.u8 0, Value.int IntKind.u8 0, Value.int IntKind.u8 0, Value.int IntKind.u8 0, Value.int IntKind.u8 0, Value.int IntKind.u8 0, Value.int IntKind.u8 0, Value.int IntKind.u8 0, Value.int IntKind.u8 0, Value.int IntKind.u8 0]) 64)).setCells w2.heap.size 0 (s.map bv)) w2.heap.size 64 s) := Arr.stored (unhide HB5) s (by rw [hs]; rfl)
  have O4 : Hid (Only (fun _ => False) w2 ((w2.alloc (.cells (#[Value.int IntKind.u8 0, Value.int IntKind.u8 0, Value.int IntKind.u8 0, Value.int IntKind.u8 0, Value.int IntKind.u8 0, Value.int IntKind.u8 0, Value.int IntKind.u8 0, Value.int IntKind.u8 0, Value.int IntKind.u8 0, Value.int IntKind.u8 0, Value.int IntKind.u8 0, Value.int IntKind.u8 0, Value.int IntKind.u8 0, Value.int IntKind.u8 0, Value.int IntKind.u8 0, Value.int IntKind.u8 0]) 64)).setCells w2.heap.size 0 (s.map bv))) := (Only.setCells (S := fun j => j = w2.heap.size) (a := w2) (b := w2.heap.size) (fun _ => rfl) _ _ 0 (((Only.refl _ w2).alloc _))) |>.mono (fun j hj e => by omega)
  clear hthere hld HB5
  generalize (w2.alloc (.cells (#[Value.int IntKind.u8 0, Value.int IntKind.u8 0, Value.int IntKind.u8 0, Value.int IntKind.u8 0, Value.int IntKind.u8 0, Value.int IntKind.u8 0, Value.int IntKind.u8 0, Value.int IntKind.u8 0, Value.int IntKind.u8 0, Value.int IntKind.u8 0, Value.int IntKind.u8 0, Value.int IntKind.u8 0, Value.int IntKind.u8 0, Value.int IntKind.u8 0, Value.int IntKind.u8 0, Value.int IntKind.u8 0]) 64)).setCells w2.heap.size 0 (s.map bv) = w4 at *
  have HC4 : Hid (w4.heap[cb]? = some (.cells #[.slice (some ⟨g, 0, none⟩) m cap] 63 (0, 0))) := (unhide O4).heap hcw2 (fun e => e)
  have HR4 : Hid (w4.ownsRow 0 36 16 (.slice (some ⟨g, 0, none⟩) m cap) m (bflat bs (upto m))) := (unhide O4).owns hrw2 (fun _ _ e => e)
  have HA4 : Hid (Arr w4 b3 36 zero16) := (unhide HA3).only (unhide O4) (fun e => e)
  have hb35 : b3 < w2.heap.size := (unhide HA3).lt
  have hcb5 : cb < w2.heap.size := lt_of_block hcw2
  have hgb5 : g < w2.heap.size := (hrw2.lt g rfl).2
  have hb5w : w.heap.size ≤ w2.heap.size := by have := unhide H2; omega
  have OW : Hid (Only (fun _ => False) w w4) := (unhide O2).trans (unhide O4) (fun _ _ e => e)
  have hb54 : w2.heap.size < w4.heap.size := (unhide HS5).lt
  clear hcw2 hrw2 HA3 O4 H2 O2
  generalize w2.heap.size = b5 at *
  clear w2
  have hck : ∀ o, (w4.alloc o).cell? ⟨cb, 0, none⟩ = some (.slice (some ⟨g, 0, none⟩) m cap) := fun o => by rw [World.cell?_alloc_past _ _ _ (lt_of_block (unhide HC4))]; exact cell_of_one (unhide HC4)
  have hm2 : (m : Int) - 2 = (n : Int) := by omega
  have HMN := hide hmn
  clear hmn
  go_wp2_with fail
  refine (repeat_any n hn1 (by omega) HM (F 37) rfl w4.heap.size _ (Boxed.new _ _ _).cell).mono ?_
  rintro e w6 ⟨g6, rfl, own6, o6⟩
  have O6 : Hid (Only (fun _ => False) w4 w6) := ((Only.refl _ w4).alloc _).trans o6 (fun _ _ e => e)
  have OWN6 := hide own6
  clear own6 o6 hck hm2
  go_wp2_with fail
  refine (concat_any (w6.heap.size + 1 + 1) [undef, undef, undef] [[F 39], List.replicate n (F 37), [F 40]] m _ (by have := unhide HMN; omega) HG rfl rfl (by have := unhide HMN; simp; omega) (lists_laid w6 g6 n (F 39) (F 37) (F 40) _ rfl rfl rfl (unhide OWN6))).mono ?_
  rintro e w7 ⟨v, rfl, own7, o7⟩
  have O7 : Hid (Only (fun _ => False) w4 w7) := (unhide O6).trans ((((((Only.refl _ w6).alloc _).alloc _).alloc _)).trans o7 (fun _ _ e => e)) (fun _ _ e => e)
  have HO7 : Hid (w7.ownsRow w4.heap.size 68 1 v m (rnds n (F 39) (F 37) (F 40))) := ownsRow_base own7 (by have := (unhide O6).size; simp; omega)
  clear own7 o7 OWN6 O6
  obtain ⟨gv, capv, rfl⟩ : ∃ gv capv, v = .slice (some ⟨gv, 0, none⟩) m capv := by
    have h := unhide HO7
    rw [show m = (m - 1) + 1 by have := unhide HMN; omega] at h ⊢
    exact ownsRow_succ h
  have hgv : w4.heap.size ≤ gv := ((unhide HO7).lt gv rfl).1
  have HC7 := hide ((unhide O7).heap (unhide HC4) (fun e => e))
  have HR7 := hide ((unhide O7).owns (unhide HR4) (fun _ _ e => e))
  have HA7 := hide ((unhide HA4).only (unhide O7) (fun e => e))
  have HS7 := hide ((unhide HS5).only (unhide O7) (fun e => e))
  have OW7 : Hid (Only (fun _ => False) w w7) := (unhide OW).trans (unhide O7) (fun _ _ e => e)
  clear HC4 HR4 HA4 HS5 OW O7
  have hgv5 : gv ≠ b5 := by omega
  have hcb5' : cb ≠ b5 := by omega
  have hgb5' : g ≠ b5 := by omega
  have hb35' : b3 ≠ b5 := by omega
  clear hgv hgb5 hb54 hb35 hcb5
  go_wp2
  go_loopw [7, 8, 24] (fun _ _ i wr => ∃ k : Nat, k ≤ m ∧ i = .int .i64 k ∧ Hid (Arr wr b5 64 (sealT bs m s k)) ∧ Hid (Only (fun j => j = b5) w7 wr)) (fun _ _ i _ => m - (intOf i).toNat)
  case atStart => exact ⟨0, Nat.zero_le _, rfl, HS7, Only.refl _ _⟩
  case round =>
    obtain ⟨k, hk, rfl, har, hor⟩ := hrel
    by_cases hlt : k < m
    · have hcell := (unhide hor).cell ((unhide HO7).cellAt k (by omega) |>.trans (rnds_at n (F 39) (F 37) (F 40) k (by have := unhide HMN; omega))) hgv5
      have hkm : (k : Int) < (m : Int) := by omega
      have hm22 : m ≤ 22 := by have := unhide HMN; omega
      have hm22i : (m : Int) ≤ 22 := by omega
      have hcc := (unhide hor).cell (cell_of_one (unhide HC7)) hcb5'

      have hrg := hide (range_only (Cip.key hbl (unhide HR7) k hlt) (unhide hor) hgb5')
      have hkl := hide (blkOf_length bs m k hbl hlt)
      have hsl := hide (unhide HTL k (by omega))
      have hnx : Hid (sealT bs m s (k + 1) = if k = 0 then added (sealT bs m s k) (blkOf bs k) else if k + 1 = m then last (sealT bs m s k) (blkOf bs k) else middle (sealT bs m s k) (blkOf bs k)) := rfl
      have hnl := hide (unhide HTL (k + 1) (by omega))
      have HCC := hide hcc
      clear hcc
      generalize hl1 : sealT bs m s (k + 1) = l1 at *
      have HL1 := hide hl1
      clear hl1
      generalize sealT bs m s k = l0 at *
      generalize blkOf bs k = key at *
      by_cases h0 : k = 0
      · rw [if_pos h0] at hcell hnx
        clear h0
        go_wp2_with fail
        refine wp_region_last_drew (S := (fun w' => Only (fun _ => False) wr w')) 10 (by kernel_rfl) ((Only.refl _ _).drew) (fun hHeld => ?_)
        refine wpAnyL_take (i := 0) (v := ?v49) rfl (by kernel_rfl) (by kernel_rfl) (by kernel_rfl) (by kernel_rfl) (fun _ _ _ h => h) (Or.inl ⟨by rfl, ?hy49⟩) (by assumption) ?rest49
        case hy49 =>
          intro w hSw
          go_simp
          try with_reducible rfl
        try simp only [Act.put, List.setIfInBounds_toArray, List.set_cons_zero, List.set_cons_succ, List.getElem_toArray, List.getElem_cons_succ, List.getElem_cons_zero]
        refine wpAnyL_take (i := 1) (v := ?v50) rfl (by kernel_rfl) (by kernel_rfl) (by kernel_rfl) (by kernel_rfl) (fun _ _ _ h => h) (Or.inl ⟨by rfl, ?hy50⟩) (by assumption) ?rest50
        case hy50 =>
          intro w hSw
          (refine exec_load_mid 64 (.tmp 5) ?_ b5 0 ?_ (l0.map bv) _ (((unhide har).only hSw (fun e => e)).range) Try.underSt rfl (by rw [Try.sizeState]; have := unhide hsl; simp [this]) <;> rfl)
        try simp only [Act.put, List.setIfInBounds_toArray, List.set_cons_zero, List.set_cons_succ, List.getElem_toArray, List.getElem_cons_succ, List.getElem_cons_zero]
        refine wpAnyL_take (i := 2) (v := ?v51) rfl (by kernel_rfl) (by kernel_rfl) (by kernel_rfl) (by kernel_rfl) (fun _ _ _ h => h) (Or.inl ⟨by rfl, ?hy51⟩) (by assumption) ?rest51
        case hy51 =>
          intro w hSw
          go_simp
          try with_reducible rfl
        try simp only [Act.put, List.setIfInBounds_toArray, List.set_cons_zero, List.set_cons_succ, List.getElem_toArray, List.getElem_cons_succ, List.getElem_cons_zero]
        refine wpAnyL_take (i := 3) (v := ?v52) rfl (by kernel_rfl) (by kernel_rfl) (by kernel_rfl) (by kernel_rfl) (fun _ _ _ h => h) (Or.inl ⟨by rfl, ?hy52⟩) (by assumption) ?rest52
        case hy52 =>
          intro w hSw
          go_simp
          try with_reducible rfl
        try simp only [Act.put, List.setIfInBounds_toArray, List.set_cons_zero, List.set_cons_succ, List.getElem_toArray, List.getElem_cons_succ, List.getElem_cons_zero]
        refine wpAnyL_take (i := 4) (v := ?v53) rfl (by kernel_rfl) (by kernel_rfl) (by kernel_rfl) (by kernel_rfl) (fun _ _ _ h => h) (Or.inl ⟨by rfl, ?hy53⟩) (by assumption) ?rest53
        case hy53 =>
          intro w hSw
          go_simp
          try with_reducible rfl
        try simp only [Act.put, List.setIfInBounds_toArray, List.set_cons_zero, List.set_cons_succ, List.getElem_toArray, List.getElem_cons_succ, List.getElem_cons_zero]
        refine wpAnyL_take (i := 5) (v := ?v54) rfl (by kernel_rfl) (by kernel_rfl) (by kernel_rfl) (by kernel_rfl) (fun _ _ _ h => h) (Or.inl ⟨by rfl, ?hy54⟩) (by assumption) ?rest54
        case hy54 =>
          intro w hSw
          (have q := hSw.cell (unhide HCC) (fun e => e); go_simp; try with_reducible rfl)
        try simp only [Act.put, List.setIfInBounds_toArray, List.set_cons_zero, List.set_cons_succ, List.getElem_toArray, List.getElem_cons_succ, List.getElem_cons_zero]
        refine wpAnyL_take (i := 6) (v := ?v55) rfl (by kernel_rfl) (by kernel_rfl) (by kernel_rfl) (by kernel_rfl) (fun _ _ _ h => h) (Or.inl ⟨by rfl, ?hy55⟩) (by assumption) ?rest55
        case hy55 =>
          intro w hSw
          go_simp
          try with_reducible rfl
        try simp only [Act.put, List.setIfInBounds_toArray, List.set_cons_zero, List.set_cons_succ, List.getElem_toArray, List.getElem_cons_succ, List.getElem_cons_zero]
        refine wpAnyL_take (i := 7) (v := ?v56) rfl (by kernel_rfl) (by kernel_rfl) (by kernel_rfl) (by kernel_rfl) (fun _ _ _ h => h) (Or.inl ⟨by rfl, ?hy56⟩) (by assumption) ?rest56
        case hy56 =>
          intro w hSw
          go_simp
          try with_reducible rfl
        try simp only [Act.put, List.setIfInBounds_toArray, List.set_cons_zero, List.set_cons_succ, List.getElem_toArray, List.getElem_cons_succ, List.getElem_cons_zero]
        refine wpAnyL_take (i := 8) (v := ?v57) rfl (by kernel_rfl) (by kernel_rfl) (by kernel_rfl) (by kernel_rfl) (fun _ _ _ h => h) (Or.inl ⟨by rfl, ?hy57⟩) (by assumption) ?rest57
        case hy57 =>
          intro w hSw
          (refine exec_load_mid 36 (.tmp 36) ?_ g (k * 16) ?_ (key.map bv) _ (range_only (unhide hrg) hSw (fun e => e)) Try.under16 rfl (by rw [Try.size16]; have := unhide hkl; simp [this]) <;> rfl)
        try simp only [Act.put, List.setIfInBounds_toArray, List.set_cons_zero, List.set_cons_succ, List.getElem_toArray, List.getElem_cons_succ, List.getElem_cons_zero]
        refine wpAnyL_ready (rs := [9]) (by kernel_rfl) (by simp) ?_
        refine AllReadyL.cons rfl (fun K hK => ?_) AllReadyL.nil
        go_simp
        go_wp2_with fail; refine (added_any l0 key _ (unhide hsl) (unhide hkl)).mono ?_; rintro e wx ⟨rfl, yx⟩; have QX : Hid (Only (fun _ => False) wr.drew wx) := yx; clear yx; rw [← unhide hnx]
        refine hK.out _ _ ((after ((Only.refl _ wr).drew) (unhide QX))) (fun hHeld => ?_)
        clear hK K
        try simp only [Act.put, List.setIfInBounds_toArray, List.set_cons_zero, List.set_cons_succ, List.getElem_toArray, List.getElem_cons_succ, List.getElem_cons_zero]
        refine wpAnyL_ready (rs := [10]) (by kernel_rfl) (by simp) ?_
        refine AllReadyL.last rfl (fun K hK => ?_)
        refine step_store_mid rfl 64 (.tmp 5) (.tmp 38) rfl b5 0 (l1.map bv).toArray rfl rfl (((unhide har).only (after ((Only.refl (fun _ => False) wr).drew) (unhide QX)) (fun e => e)).there _ (by have := unhide hsl; have := unhide hnl; simp; omega)) (by rw [Try.sizeState]; have := unhide hnl; simp [this]) (ag_one _) ?_
        refine hK.out _ _ (trivial) (fun hHeld => ?_)
        clear hK K
        try simp only [Act.put, List.setIfInBounds_toArray, List.set_cons_zero, List.set_cons_succ, List.getElem_toArray, List.getElem_cons_succ, List.getElem_cons_zero]
        refine wpAnyL_done (by kernel_rfl) ?_ _
        go_wp2
        go_roundw
        case rel =>
          refine ⟨k + 1, by omega, by go_num, ?_, ?_⟩
          · show Arr _ _ _ _
            rw [unhide HL1]
            exact Arr.stored ((unhide har).only (after ((Only.refl (fun _ => False) wr).drew) (unhide QX)) (fun e => e)) l1 (by rw [unhide hsl, unhide hnl])
          · exact Only.setCells (S := fun j => j = b5) (a := w7) (b := b5) (fun _ => rfl) _ wx 0 (after (unhide hor) (after ((Only.refl (fun _ => False) wr).drew) (unhide QX)))
        case measure => simp [intOf]; omega
      · rw [if_neg h0] at hcell hnx
        by_cases h1 : k + 1 = m
        · rw [if_pos (by have := unhide HMN; omega)] at hcell
          rw [if_pos h1] at hnx
          clear h0 h1
          go_wp2_with fail
          refine wp_region_last_drew (S := (fun w' => Only (fun _ => False) wr w')) 10 (by kernel_rfl) ((Only.refl _ _).drew) (fun hHeld => ?_)
          refine wpAnyL_take (i := 0) (v := ?v58) rfl (by kernel_rfl) (by kernel_rfl) (by kernel_rfl) (by kernel_rfl) (fun _ _ _ h => h) (Or.inl ⟨by rfl, ?hy58⟩) (by assumption) ?rest58
          case hy58 =>
            intro w hSw
            go_simp
            try with_reducible rfl
          try simp only [Act.put, List.setIfInBounds_toArray, List.set_cons_zero, List.set_cons_succ, List.getElem_toArray, List.getElem_cons_succ, List.getElem_cons_zero]
          refine wpAnyL_take (i := 1) (v := ?v59) rfl (by kernel_rfl) (by kernel_rfl) (by kernel_rfl) (by kernel_rfl) (fun _ _ _ h => h) (Or.inl ⟨by rfl, ?hy59⟩) (by assumption) ?rest59
          case hy59 =>
            intro w hSw
            (refine exec_load_mid 64 (.tmp 5) ?_ b5 0 ?_ (l0.map bv) _ (((unhide har).only hSw (fun e => e)).range) Try.underSt rfl (by rw [Try.sizeState]; have := unhide hsl; simp [this]) <;> rfl)
          try simp only [Act.put, List.setIfInBounds_toArray, List.set_cons_zero, List.set_cons_succ, List.getElem_toArray, List.getElem_cons_succ, List.getElem_cons_zero]
          refine wpAnyL_take (i := 2) (v := ?v60) rfl (by kernel_rfl) (by kernel_rfl) (by kernel_rfl) (by kernel_rfl) (fun _ _ _ h => h) (Or.inl ⟨by rfl, ?hy60⟩) (by assumption) ?rest60
          case hy60 =>
            intro w hSw
            go_simp
            try with_reducible rfl
          try simp only [Act.put, List.setIfInBounds_toArray, List.set_cons_zero, List.set_cons_succ, List.getElem_toArray, List.getElem_cons_succ, List.getElem_cons_zero]
          refine wpAnyL_take (i := 3) (v := ?v61) rfl (by kernel_rfl) (by kernel_rfl) (by kernel_rfl) (by kernel_rfl) (fun _ _ _ h => h) (Or.inl ⟨by rfl, ?hy61⟩) (by assumption) ?rest61
          case hy61 =>
            intro w hSw
            go_simp
            try with_reducible rfl
          try simp only [Act.put, List.setIfInBounds_toArray, List.set_cons_zero, List.set_cons_succ, List.getElem_toArray, List.getElem_cons_succ, List.getElem_cons_zero]
          refine wpAnyL_take (i := 4) (v := ?v62) rfl (by kernel_rfl) (by kernel_rfl) (by kernel_rfl) (by kernel_rfl) (fun _ _ _ h => h) (Or.inl ⟨by rfl, ?hy62⟩) (by assumption) ?rest62
          case hy62 =>
            intro w hSw
            go_simp
            try with_reducible rfl
          try simp only [Act.put, List.setIfInBounds_toArray, List.set_cons_zero, List.set_cons_succ, List.getElem_toArray, List.getElem_cons_succ, List.getElem_cons_zero]
          refine wpAnyL_take (i := 5) (v := ?v63) rfl (by kernel_rfl) (by kernel_rfl) (by kernel_rfl) (by kernel_rfl) (fun _ _ _ h => h) (Or.inl ⟨by rfl, ?hy63⟩) (by assumption) ?rest63
          case hy63 =>
            intro w hSw
            (have q := hSw.cell (unhide HCC) (fun e => e); go_simp; try with_reducible rfl)
          try simp only [Act.put, List.setIfInBounds_toArray, List.set_cons_zero, List.set_cons_succ, List.getElem_toArray, List.getElem_cons_succ, List.getElem_cons_zero]
          refine wpAnyL_take (i := 6) (v := ?v64) rfl (by kernel_rfl) (by kernel_rfl) (by kernel_rfl) (by kernel_rfl) (fun _ _ _ h => h) (Or.inl ⟨by rfl, ?hy64⟩) (by assumption) ?rest64
          case hy64 =>
            intro w hSw
            go_simp
            try with_reducible rfl
          try simp only [Act.put, List.setIfInBounds_toArray, List.set_cons_zero, List.set_cons_succ, List.getElem_toArray, List.getElem_cons_succ, List.getElem_cons_zero]
          refine wpAnyL_take (i := 7) (v := ?v65) rfl (by kernel_rfl) (by kernel_rfl) (by kernel_rfl) (by kernel_rfl) (fun _ _ _ h => h) (Or.inl ⟨by rfl, ?hy65⟩) (by assumption) ?rest65
          case hy65 =>
            intro w hSw
            go_simp
            try with_reducible rfl
          try simp only [Act.put, List.setIfInBounds_toArray, List.set_cons_zero, List.set_cons_succ, List.getElem_toArray, List.getElem_cons_succ, List.getElem_cons_zero]
          refine wpAnyL_take (i := 8) (v := ?v66) rfl (by kernel_rfl) (by kernel_rfl) (by kernel_rfl) (by kernel_rfl) (fun _ _ _ h => h) (Or.inl ⟨by rfl, ?hy66⟩) (by assumption) ?rest66
          case hy66 =>
            intro w hSw
            (refine exec_load_mid 36 (.tmp 36) ?_ g (k * 16) ?_ (key.map bv) _ (range_only (unhide hrg) hSw (fun e => e)) Try.under16 rfl (by rw [Try.size16]; have := unhide hkl; simp [this]) <;> rfl)
          try simp only [Act.put, List.setIfInBounds_toArray, List.set_cons_zero, List.set_cons_succ, List.getElem_toArray, List.getElem_cons_succ, List.getElem_cons_zero]
          refine wpAnyL_ready (rs := [9]) (by kernel_rfl) (by simp) ?_
          refine AllReadyL.cons rfl (fun K hK => ?_) AllReadyL.nil
          go_simp
          go_wp2_with fail; refine (last_any l0 key _ (unhide hsl) (unhide hkl)).mono ?_; rintro e wx ⟨rfl, yx⟩; have QX : Hid (Only (fun _ => False) wr.drew wx) := yx; clear yx; rw [← unhide hnx]
          refine hK.out _ _ ((after ((Only.refl _ wr).drew) (unhide QX))) (fun hHeld => ?_)
          clear hK K
          try simp only [Act.put, List.setIfInBounds_toArray, List.set_cons_zero, List.set_cons_succ, List.getElem_toArray, List.getElem_cons_succ, List.getElem_cons_zero]
          refine wpAnyL_ready (rs := [10]) (by kernel_rfl) (by simp) ?_
          refine AllReadyL.last rfl (fun K hK => ?_)
          refine step_store_mid rfl 64 (.tmp 5) (.tmp 38) rfl b5 0 (l1.map bv).toArray rfl rfl (((unhide har).only (after ((Only.refl (fun _ => False) wr).drew) (unhide QX)) (fun e => e)).there _ (by have := unhide hsl; have := unhide hnl; simp; omega)) (by rw [Try.sizeState]; have := unhide hnl; simp [this]) (ag_one _) ?_
          refine hK.out _ _ (trivial) (fun hHeld => ?_)
          clear hK K
          try simp only [Act.put, List.setIfInBounds_toArray, List.set_cons_zero, List.set_cons_succ, List.getElem_toArray, List.getElem_cons_succ, List.getElem_cons_zero]
          refine wpAnyL_done (by kernel_rfl) ?_ _
          go_wp2
          go_roundw
          case rel =>
            refine ⟨k + 1, by omega, by go_num, ?_, ?_⟩
            · show Arr _ _ _ _
              rw [unhide HL1]
              exact Arr.stored ((unhide har).only (after ((Only.refl (fun _ => False) wr).drew) (unhide QX)) (fun e => e)) l1 (by rw [unhide hsl, unhide hnl])
            · exact Only.setCells (S := fun j => j = b5) (a := w7) (b := b5) (fun _ => rfl) _ wx 0 (after (unhide hor) (after ((Only.refl (fun _ => False) wr).drew) (unhide QX)))
          case measure => simp [intOf]; omega
        · rw [if_neg (by have := unhide HMN; omega)] at hcell
          rw [if_neg h1] at hnx
          clear h0 h1
          go_wp2_with fail
          refine wp_region_last_drew (S := (fun w' => Only (fun _ => False) wr w')) 10 (by kernel_rfl) ((Only.refl _ _).drew) (fun hHeld => ?_)
          refine wpAnyL_take (i := 0) (v := ?v67) rfl (by kernel_rfl) (by kernel_rfl) (by kernel_rfl) (by kernel_rfl) (fun _ _ _ h => h) (Or.inl ⟨by rfl, ?hy67⟩) (by assumption) ?rest67
          case hy67 =>
            intro w hSw
            go_simp
            try with_reducible rfl
          try simp only [Act.put, List.setIfInBounds_toArray, List.set_cons_zero, List.set_cons_succ, List.getElem_toArray, List.getElem_cons_succ, List.getElem_cons_zero]
          refine wpAnyL_take (i := 1) (v := ?v68) rfl (by kernel_rfl) (by kernel_rfl) (by kernel_rfl) (by kernel_rfl) (fun _ _ _ h => h) (Or.inl ⟨by rfl, ?hy68⟩) (by assumption) ?rest68
          case hy68 =>
            intro w hSw
            (refine exec_load_mid 64 (.tmp 5) ?_ b5 0 ?_ (l0.map bv) _ (((unhide har).only hSw (fun e => e)).range) Try.underSt rfl (by rw [Try.sizeState]; have := unhide hsl; simp [this]) <;> rfl)
          try simp only [Act.put, List.setIfInBounds_toArray, List.set_cons_zero, List.set_cons_succ, List.getElem_toArray, List.getElem_cons_succ, List.getElem_cons_zero]
          refine wpAnyL_take (i := 2) (v := ?v69) rfl (by kernel_rfl) (by kernel_rfl) (by kernel_rfl) (by kernel_rfl) (fun _ _ _ h => h) (Or.inl ⟨by rfl, ?hy69⟩) (by assumption) ?rest69
          case hy69 =>
            intro w hSw
            go_simp
            try with_reducible rfl
          try simp only [Act.put, List.setIfInBounds_toArray, List.set_cons_zero, List.set_cons_succ, List.getElem_toArray, List.getElem_cons_succ, List.getElem_cons_zero]
          refine wpAnyL_take (i := 3) (v := ?v70) rfl (by kernel_rfl) (by kernel_rfl) (by kernel_rfl) (by kernel_rfl) (fun _ _ _ h => h) (Or.inl ⟨by rfl, ?hy70⟩) (by assumption) ?rest70
          case hy70 =>
            intro w hSw
            go_simp
            try with_reducible rfl
          try simp only [Act.put, List.setIfInBounds_toArray, List.set_cons_zero, List.set_cons_succ, List.getElem_toArray, List.getElem_cons_succ, List.getElem_cons_zero]
          refine wpAnyL_take (i := 4) (v := ?v71) rfl (by kernel_rfl) (by kernel_rfl) (by kernel_rfl) (by kernel_rfl) (fun _ _ _ h => h) (Or.inl ⟨by rfl, ?hy71⟩) (by assumption) ?rest71
          case hy71 =>
            intro w hSw
            go_simp
            try with_reducible rfl
          try simp only [Act.put, List.setIfInBounds_toArray, List.set_cons_zero, List.set_cons_succ, List.getElem_toArray, List.getElem_cons_succ, List.getElem_cons_zero]
          refine wpAnyL_take (i := 5) (v := ?v72) rfl (by kernel_rfl) (by kernel_rfl) (by kernel_rfl) (by kernel_rfl) (fun _ _ _ h => h) (Or.inl ⟨by rfl, ?hy72⟩) (by assumption) ?rest72
          case hy72 =>
            intro w hSw
            (have q := hSw.cell (unhide HCC) (fun e => e); go_simp; try with_reducible rfl)
          try simp only [Act.put, List.setIfInBounds_toArray, List.set_cons_zero, List.set_cons_succ, List.getElem_toArray, List.getElem_cons_succ, List.getElem_cons_zero]
          refine wpAnyL_take (i := 6) (v := ?v73) rfl (by kernel_rfl) (by kernel_rfl) (by kernel_rfl) (by kernel_rfl) (fun _ _ _ h => h) (Or.inl ⟨by rfl, ?hy73⟩) (by assumption) ?rest73
          case hy73 =>
            intro w hSw
            go_simp
            try with_reducible rfl
          try simp only [Act.put, List.setIfInBounds_toArray, List.set_cons_zero, List.set_cons_succ, List.getElem_toArray, List.getElem_cons_succ, List.getElem_cons_zero]
          refine wpAnyL_take (i := 7) (v := ?v74) rfl (by kernel_rfl) (by kernel_rfl) (by kernel_rfl) (by kernel_rfl) (fun _ _ _ h => h) (Or.inl ⟨by rfl, ?hy74⟩) (by assumption) ?rest74
          case hy74 =>
            intro w hSw
            go_simp
            try with_reducible rfl
          try simp only [Act.put, List.setIfInBounds_toArray, List.set_cons_zero, List.set_cons_succ, List.getElem_toArray, List.getElem_cons_succ, List.getElem_cons_zero]
          refine wpAnyL_take (i := 8) (v := ?v75) rfl (by kernel_rfl) (by kernel_rfl) (by kernel_rfl) (by kernel_rfl) (fun _ _ _ h => h) (Or.inl ⟨by rfl, ?hy75⟩) (by assumption) ?rest75
          case hy75 =>
            intro w hSw
            (refine exec_load_mid 36 (.tmp 36) ?_ g (k * 16) ?_ (key.map bv) _ (range_only (unhide hrg) hSw (fun e => e)) Try.under16 rfl (by rw [Try.size16]; have := unhide hkl; simp [this]) <;> rfl)
          try simp only [Act.put, List.setIfInBounds_toArray, List.set_cons_zero, List.set_cons_succ, List.getElem_toArray, List.getElem_cons_succ, List.getElem_cons_zero]
          refine wpAnyL_ready (rs := [9]) (by kernel_rfl) (by simp) ?_
          refine AllReadyL.cons rfl (fun K hK => ?_) AllReadyL.nil
          go_simp
          go_wp2_with fail; refine (middle_any l0 key _ (unhide hsl) (unhide hkl)).mono ?_; rintro e wx ⟨rfl, yx⟩; have QX : Hid (Only (fun _ => False) wr.drew wx) := yx; clear yx; rw [← unhide hnx]
          refine hK.out _ _ ((after ((Only.refl _ wr).drew) (unhide QX))) (fun hHeld => ?_)
          clear hK K
          try simp only [Act.put, List.setIfInBounds_toArray, List.set_cons_zero, List.set_cons_succ, List.getElem_toArray, List.getElem_cons_succ, List.getElem_cons_zero]
          refine wpAnyL_ready (rs := [10]) (by kernel_rfl) (by simp) ?_
          refine AllReadyL.last rfl (fun K hK => ?_)
          refine step_store_mid rfl 64 (.tmp 5) (.tmp 38) rfl b5 0 (l1.map bv).toArray rfl rfl (((unhide har).only (after ((Only.refl (fun _ => False) wr).drew) (unhide QX)) (fun e => e)).there _ (by have := unhide hsl; have := unhide hnl; simp; omega)) (by rw [Try.sizeState]; have := unhide hnl; simp [this]) (ag_one _) ?_
          refine hK.out _ _ (trivial) (fun hHeld => ?_)
          clear hK K
          try simp only [Act.put, List.setIfInBounds_toArray, List.set_cons_zero, List.set_cons_succ, List.getElem_toArray, List.getElem_cons_succ, List.getElem_cons_zero]
          refine wpAnyL_done (by kernel_rfl) ?_ _
          go_wp2
          go_roundw
          case rel =>
            refine ⟨k + 1, by omega, by go_num, ?_, ?_⟩
            · show Arr _ _ _ _
              rw [unhide HL1]
              exact Arr.stored ((unhide har).only (after ((Only.refl (fun _ => False) wr).drew) (unhide QX)) (fun e => e)) l1 (by rw [unhide hsl, unhide hnl])
            · exact Only.setCells (S := fun j => j = b5) (a := w7) (b := b5) (fun _ => rfl) _ wx 0 (after (unhide hor) (after ((Only.refl (fun _ => False) wr).drew) (unhide QX)))
          case measure => simp [intOf]; omega
    · obtain rfl : k = m := by omega
      have ht := unhide HTL k (Nat.le_refl _)
      have HT := hide ht
      have HA9 := hide ((unhide HA7).only (unhide hor) hb35')
      have ht3 := (unhide HA9).there 16 rfl
      generalize hl : sealT bs k s k = l at *
      have HLE := hide hl
      clear hl
      have hlds := loadS_run (unhide har) (unhide HT)
      have hkk : ¬ ((k : Int) < (k : Int)) := by omega
      go_wp2_with (refine wpList_store_mid rfl 36 (.tmp 4) (.tmp 40) rfl b3 0 (l.map bv).toArray rfl rfl (by simpa [ht] using ht3) (by rw [Try.size16]; simp [ht]) (ag_one _) ?_)
      refine bodyPost_ret (results_cell_row rfl _ _ b3 36 _ _ _ rfl ((unhide HA9).stored l (by rw [ht]; rfl)).out Try.under16 rfl (by rw [Try.size16]; simp [ht])) rfl ?_
      exact ⟨by rw [← unhide HLE], done13 (unhide OW7) (unhide hor) (fun j hj => ⟨by omega, ((unhide HB) j hj).2⟩)⟩

end Ae
end Go.Proofs.Ytdmcnblnoiahcaa
