/-
  locksmithlaw4's texts and units.
-/
import Derived.Test.YtoffcbopolonoaaWalKnown
import Derived.Test.YtoffcbopolonoaaArgStep4
import Derived.Test.YtoffcbopolonoaaHandPick
import Derived.Test.YtoffcbopolonoaaStr
namespace Go.Proofs.Ytoffcbopolonoaa
open Go.RowKit
set_option linter.unusedSimpArgs false
set_option linter.unusedVariables false
namespace Wal

/-- unit i of raw sizes -/
def textAt (n : Int) (ss : List Int) (i : Nat) : List UInt8 := rawBytes ((ss.getD i 0) % 150).toNat (IntKind.i64.wrap (n + i))
def textsTo (n : Int) (ss : List Int) : Nat → List (List UInt8)
  | 0 => []
  | k + 1 => textsTo n ss k ++ [textAt n ss k]
def texts (s : St4) : List (List UInt8) := textsTo s.num s.ss (min s.ss.length 4)

theorem textsTo_length (n : Int) (ss : List Int) (k : Nat) : (textsTo n ss k).length = k := by induction k with
  | zero => rfl
  | succ k ih => simp [textsTo, ih]
theorem textAt_length (n : Int) (ss : List Int) (i : Nat) : (textAt n ss i).length ≤ 149 := by
  unfold textAt
  rw [rawBytes_length]
  have h1 := Int.emod_nonneg (ss.getD i 0) (by decide : (150 : Int) ≠ 0)
  have h2 := Int.emod_lt_of_pos (ss.getD i 0) (by decide : (0 : Int) < 150)
  omega
theorem textsTo_small (n : Int) (ss : List Int) (k : Nat) : ∀ u ∈ textsTo n ss k, u.length ≤ 149 := by induction k with
  | zero => intro u hu; cases hu
  | succ k ih =>
    intro u hu
    rcases List.mem_append.1 hu with hu | hu
    · exact ih u hu
    · rw [List.mem_singleton.1 hu]; exact textAt_length n ss k
theorem sizes_small (us : List (List UInt8)) (h : ∀ u ∈ us, u.length ≤ 149) : sizes us ≤ 3 * us.length := by
  unfold sizes
  induction us with
  | nil => simp
  | cons u r ih =>
    rw [List.map_cons, List.sum_cons, List.length_cons]
    have h1 := ih (fun v hv => h v (by simp [hv]))
    have h2 : size u ≤ 3 := by have := h u (by simp); unfold size secsOf; omega
    omega
theorem texts_length (s : St4) : (texts s).length ≤ 4 := by unfold texts; rw [textsTo_length]; omega
theorem texts_sizes (s : St4) : sizes (texts s) ≤ 12 := by
  have h1 := sizes_small (texts s) (textsTo_small _ _ _)
  have h2 := texts_length s
  omega

set_option maxHeartbeats 2000000 in
set_option maxRecDepth 100000 in
theorem texts_any (s : St4) (w : World) (h : Step4 w s) : Calls Try.prog 27 #[.agg s.cells.toArray] w fun e w' => ∃ v, e = .returned v ∧ OwnsU w.heap.size w' v (texts s) ∧ Only (fun _ => False) w w' := by
  obtain ⟨so, sc, hsv, hslc, hscm⟩ := h.sizes.shape
  rw [List.length_map] at hsv hslc
  have H := hide h
  have hnum := h.num
  unfold I64 at hnum
  unfold St4.cells
  rw [hsv]
  have HSV := hide hsv
  clear hsv h
  have hmx : (s.ss.length : Int) < 9223372036854775808 := by unfold maxLen at hscm; omega
  obtain ⟨m, hm⟩ : ∃ m, m = s.ss.length := ⟨_, rfl⟩
  rw [← hm] at HSV hslc hmx ⊢
  have HMM := hide hm
  clear hm
  go_enter Try.func27, Try.ntmps27
  go_wp2_with fail
  have hB := heap_alloc_new w (.cells #[.int .i64 s.what, .int .i64 s.num, .slice so m sc, s.fv, s.ov] 48)
  have o1 := (Only.refl (fun _ => False) w).alloc (.cells #[.int .i64 s.what, .int .i64 s.num, .slice so m sc, s.fv, s.ov] 48)
  generalize w.alloc (.cells #[.int .i64 s.what, .int .i64 s.num, .slice so m sc, s.fv, s.ov] 48) = w1 at *
  have HB := hide hB
  have HO1 := hide o1
  have hbl := lt_of_block hB
  clear hB o1
  go_loopw [3, 4] (fun p i wr => ∃ k : Nat, k ≤ m ∧ k ≤ 4 ∧ i = .int .i64 k ∧ OwnsU w1.heap.size wr p (textsTo s.num s.ss k) ∧ Only (fun _ => False) w1 wr) (fun _ i _ => 4 - (intOf i).toNat)
  case atStart => exact ⟨0, Nat.zero_le _, by decide, rfl, ownsU_nil _ _, Only.refl _ _⟩
  case round =>
    obtain ⟨k, hkm, hk4, rfl, hu, ho⟩ := hrel
    have HU := hide hu
    have HO := hide ho
    obtain ⟨c0, c1, c2, c3, c4, cf⟩ := cells_five (ho.heap (unhide HB) (fun h => h))
    clear hu ho
    have hend : ∀ v, OwnsU w1.heap.size wr v (textsTo s.num s.ss k) → (k = m ∨ k = 4) → OwnsU w.heap.size wr v (texts s) := fun v hv hk => by
      unfold texts
      rw [← unhide HMM, show min m 4 = k by omega]
      exact hv.base (unhide HO1).size
    have HEND := hide hend
    clear hend
    by_cases hlt : k < m
    · by_cases hl4 : k < 4
      · have hli : (k : Int) < m := by omega
        have hl4i : (k : Int) < 4 := by omega
        go_wp2_with fail
        have hsz0 := (unhide H).sizes
        rw [unhide HSV] at hsz0
        have hsz1 := (hsz0.only (unhide HO1) (fun _ _ _ h => h)).only (unhide HO) (fun _ _ _ h => h)
        have hkl : k < (s.ss.map (Value.int .i64)).length := by rw [List.length_map, ← unhide HMM]; exact hlt
        obtain ⟨bb, off, hso, hmeq, hcs⟩ := hsz1.at (by omega)
        clear hmeq
        subst hso
        have hck := hcs k hkl
        have hbw := hsz0.blk_lt (fun e => by rw [e] at hkl; simp at hkl) bb rfl
        have hgd : s.ss.getD k 0 = s.ss[k]'(by rw [← unhide HMM]; exact hlt) := by simp [List.getD, List.getElem?_eq_getElem (show k < s.ss.length by rw [← unhide HMM]; exact hlt)]
        rw [List.getElem_map, ← hgd] at hck
        obtain ⟨sk, hske⟩ : ∃ sk, sk = s.ss.getD k 0 := ⟨_, rfl⟩
        rw [← hske] at hck
        obtain ⟨q, hq⟩ := Int.eq_ofNat_of_zero_le (Int.emod_nonneg sk (by decide : (150 : Int) ≠ 0))
        have hq2 := Int.emod_lt_of_pos sk (by decide : (0 : Int) < 150)
        have HQ := hide hq
        have hwb : -9223372036854775808 ≤ IntKind.i64.wrap (s.num + (k : Int)) ∧ IntKind.i64.wrap (s.num + (k : Int)) ≤ 9223372036854775807 := by rw [IntKind.wrap_i64]; omega
        obtain ⟨wn, hwn⟩ : ∃ wn, wn = IntKind.i64.wrap (s.num + (k : Int)) := ⟨_, rfl⟩
        rw [← hwn] at hwb
        have HT : Hid (textsTo s.num s.ss (k + 1) = textsTo s.num s.ss k ++ [rawBytes q wn]) := by
          show textsTo s.num s.ss (k + 1) = _
          rw [show textsTo s.num s.ss (k + 1) = textsTo s.num s.ss k ++ [textAt s.num s.ss k] from rfl]
          unfold textAt
          rw [← hske, hq, ← hwn, Int.toNat_natCast]
        have hwn' := hwn.symm
        have HTL := hide (textsTo_length s.num s.ss k)
        have hrl := rawBytes_length q wn
        rw [hq] at hq2
        clear hsz0 hsz1 hkl hcs hgd hske hwn hq
        generalize textsTo s.num s.ss k = ts at *
        obtain ⟨vs, hvs, hev⟩ := (unhide HU).own
        have HVS := hide hvs
        have HEV := hide hev
        clear hvs hev
        obtain ⟨i1, hi1, hz10, hz11, hz12⟩ := info_parts Try.info32
        have HI1 := hide (And.intro hi1 (And.intro hz10 (And.intro hz11 hz12)))
        clear hi1 hz10 hz11 hz12
        refine wp_region_held_drew (S := (fun w' => w'.cell? ⟨w.heap.size, 1, none⟩ = some (.int .i64 s.num) ∧ w'.cell? ⟨w.heap.size, 2, none⟩ = some (.slice (some ⟨bb, off, none⟩) m sc) ∧ w'.cell? ⟨bb, off + k, none⟩ = some (.int .i64 sk))) (by kernel_rfl) (⟨c1, c2, hck⟩) (fun hHeld => ?_)
        refine wpAnyH_take (i := 0) (v := ?v1) rfl (by kernel_rfl) (by kernel_rfl) (by kernel_rfl) (fun _ _ _ h => h) (Or.inl ⟨by rfl, ?hy1⟩) (by assumption) ?rest1
        case hy1 =>
          intro w hSw
          go_simp
          try with_reducible rfl
        try simp only [Act.put, List.setIfInBounds_toArray, List.set_cons_zero, List.set_cons_succ, List.getElem_toArray, List.getElem_cons_succ, List.getElem_cons_zero]
        refine wpAnyH_take (i := 1) (v := ?v2) rfl (by kernel_rfl) (by kernel_rfl) (by kernel_rfl) (fun _ _ _ h => h) (Or.inl ⟨by rfl, ?hy2⟩) (by assumption) ?rest2
        case hy2 =>
          intro w hSw
          go_simp
          try with_reducible rfl
        try simp only [Act.put, List.setIfInBounds_toArray, List.set_cons_zero, List.set_cons_succ, List.getElem_toArray, List.getElem_cons_succ, List.getElem_cons_zero]
        refine wpAnyH_take (i := 2) (v := ?v3) rfl (by kernel_rfl) (by kernel_rfl) (by kernel_rfl) (fun _ _ _ h => h) (Or.inl ⟨by rfl, ?hy3⟩) (by assumption) ?rest3
        case hy3 =>
          intro w hSw
          (obtain ⟨q0, q1, q2⟩ := hSw; go_simp; try with_reducible rfl)
        try simp only [Act.put, List.setIfInBounds_toArray, List.set_cons_zero, List.set_cons_succ, List.getElem_toArray, List.getElem_cons_succ, List.getElem_cons_zero]
        refine wpAnyH_take (i := 3) (v := ?v4) rfl (by kernel_rfl) (by kernel_rfl) (by kernel_rfl) (fun _ _ _ h => h) (Or.inl ⟨by rfl, ?hy4⟩) (by assumption) ?rest4
        case hy4 =>
          intro w hSw
          go_simp
          try with_reducible rfl
        try simp only [Act.put, List.setIfInBounds_toArray, List.set_cons_zero, List.set_cons_succ, List.getElem_toArray, List.getElem_cons_succ, List.getElem_cons_zero]
        refine wpAnyH_take (i := 4) (v := ?v5) rfl (by kernel_rfl) (by kernel_rfl) (by kernel_rfl) (fun _ _ _ h => h) (Or.inl ⟨by rfl, ?hy5⟩) (by assumption) ?rest5
        case hy5 =>
          intro w hSw
          go_simp
          try with_reducible rfl
        try simp only [Act.put, List.setIfInBounds_toArray, List.set_cons_zero, List.set_cons_succ, List.getElem_toArray, List.getElem_cons_succ, List.getElem_cons_zero]
        refine wpAnyH_take (i := 5) (v := ?v6) rfl (by kernel_rfl) (by kernel_rfl) (by kernel_rfl) (fun _ _ _ h => h) (Or.inl ⟨by rfl, ?hy6⟩) (by assumption) ?rest6
        case hy6 =>
          intro w hSw
          (obtain ⟨q0, q1, q2⟩ := hSw; go_simp; try with_reducible rfl)
        try simp only [Act.put, List.setIfInBounds_toArray, List.set_cons_zero, List.set_cons_succ, List.getElem_toArray, List.getElem_cons_succ, List.getElem_cons_zero]
        refine wpAnyH_take (i := 7) (v := ?v7) rfl (by kernel_rfl) (by kernel_rfl) (by kernel_rfl) (fun _ _ _ h => h) (Or.inl ⟨by rfl, ?hy7⟩) (by assumption) ?rest7
        case hy7 =>
          intro w hSw
          go_simp
          try with_reducible rfl
        try simp only [Act.put, List.setIfInBounds_toArray, List.set_cons_zero, List.set_cons_succ, List.getElem_toArray, List.getElem_cons_succ, List.getElem_cons_zero]
        refine wpAnyH_take (i := 8) (v := ?v8) rfl (by kernel_rfl) (by kernel_rfl) (by kernel_rfl) (fun _ _ _ h => h) (Or.inl ⟨by rfl, ?hy8⟩) (by assumption) ?rest8
        case hy8 =>
          intro w hSw
          (obtain ⟨q0, q1, q2⟩ := hSw; go_simp; try with_reducible rfl)
        try simp only [Act.put, List.setIfInBounds_toArray, List.set_cons_zero, List.set_cons_succ, List.getElem_toArray, List.getElem_cons_succ, List.getElem_cons_zero]
        refine wpAnyH_take (i := 9) (v := ?v9) rfl (by kernel_rfl) (by kernel_rfl) (by kernel_rfl) (fun _ _ _ h => h) (Or.inl ⟨by rfl, ?hy9⟩) (by assumption) ?rest9
        case hy9 =>
          intro w hSw
          go_simp
          try with_reducible rfl
        try simp only [Act.put, List.setIfInBounds_toArray, List.set_cons_zero, List.set_cons_succ, List.getElem_toArray, List.getElem_cons_succ, List.getElem_cons_zero]
        refine wpAnyH_take (i := 10) (v := ?v10) rfl (by kernel_rfl) (by kernel_rfl) (by kernel_rfl) (fun _ _ _ h => h) (Or.inl ⟨by rfl, ?hy10⟩) (by assumption) ?rest10
        case hy10 =>
          intro w hSw
          go_simp
          try with_reducible rfl
        try simp only [Act.put, List.setIfInBounds_toArray, List.set_cons_zero, List.set_cons_succ, List.getElem_toArray, List.getElem_cons_succ, List.getElem_cons_zero]
        refine wpAnyH_ready (rs := [6]) (by kernel_rfl) (by simp) ?_
        refine AllReadyH.cons rfl (fun K hK => ?_) AllReadyH.nil
        go_simp
        go_wp2_with fail; refine (pick_any sk 150 _ (by decide) (by decide)).mono ?_; rintro e w2 ⟨rfl, hw2⟩; subst hw2; rw [unhide HQ]
        refine hK.out _ _ (⟨c1, c2, hck⟩) (fun hHeld => ?_)
        clear hK K
        try simp only [Act.put, List.setIfInBounds_toArray, List.set_cons_zero, List.set_cons_succ, List.getElem_toArray, List.getElem_cons_succ, List.getElem_cons_zero]
        refine wpAnyH_ready (rs := [11]) (by kernel_rfl) (by simp) ?_
        refine AllReadyH.cons rfl (fun K hK => ?_) AllReadyH.nil
        go_simp
        go_wp2_with fail; refine (handBytes_any q wn wr.drew (by omega) hwb.1 hwb.2).mono ?_; rintro e w3 ⟨y3, rfl, hy3⟩; have o3 : Only (fun _ => False) wr w3 := ((Only.refl _ _).drew).trans hy3.only (fun _ _ e => e); have c1' := o3.cell c1 (fun h => h); have c2' := o3.cell c2 (fun h => h); have hck' := o3.cell hck (fun h => h); obtain ⟨yo, yc, hysh, _⟩ := (Has.ofOwns hy3.own).shape; have hyf : ∀ j, blk y3 = some j → wr.heap.size ≤ j := fun j hj => (hy3.own.lt j (own_blk hy3.own j hj)).1; subst hysh; have HY3 := hide (Has.ofOwns hy3.own); have HYF := hide hyf; have HO3 := hide o3; clear hy3 o3 hyf
        refine hK.out _ _ (⟨c1', c2', hck'⟩) (fun hHeld => ?_)
        clear hK K
        try simp only [Act.put, List.setIfInBounds_toArray, List.set_cons_zero, List.set_cons_succ, List.getElem_toArray, List.getElem_cons_succ, List.getElem_cons_zero]
        have HU3 := hide ((unhide HU).same (unhide HO3))
        have HEV3 := hide ((unhide HEV).only (unhide HO3) (fun _ _ _ h => h))
        have HVS3 := hide ((unhide HO3).owns (unhide HVS) (fun _ _ h => h))
        have h13 := (unhide HO).size
        have h33 := (unhide HO3).size
        obtain ⟨yl, hyl⟩ : ∃ yl, yl = (rawBytes q wn).length := ⟨_, rfl⟩
        rw [← hyl] at HY3 HYF ⊢
        have hoA := fun (o : Obj) => (Only.refl (fun _ => False) w3).alloc o
        have HOA := hide hoA
        clear hyl hrl hoA
        refine wpAnyH_ready (rs := [12]) (by kernel_rfl) (by simp) ?_
        refine AllReadyH.cons rfl (fun K hK => ?_) AllReadyH.nil
        go_simp
        refine hK.out _ _ (⟨(unhide HOA _).cell c1' (fun h => h), (unhide HOA _).cell c2' (fun h => h), (unhide HOA _).cell hck' (fun h => h)⟩) (fun hHeld => ?_)
        clear hK K
        try simp only [Act.put, List.setIfInBounds_toArray, List.set_cons_zero, List.set_cons_succ, List.getElem_toArray, List.getElem_cons_succ, List.getElem_cons_zero]
        refine wpAnyH_ready (rs := [13]) (by kernel_rfl) (by simp) ?_
        refine AllReadyH.cons rfl (fun K hK => ?_) AllReadyH.nil
        refine step_append_hasV rfl (.tmp 16) (.tmp 28) 23 rfl w1.heap.size 32 i1 (.slice none 0 0) 24 Try.underlying23 (unhide HI1).1 (unhide HI1).2.1 (unhide HI1).2.2.1 (unhide HI1).2.2.2 rfl u3 ts.length vs rfl ((unhide HVS3).alloc _) _ [.slice yo yl yc] rfl (hasV_lit (heap_alloc_new _ _) (by simp [maxLen])) (by simp [Value.oneCell']) (by rw [unhide HTL]; simp [maxLen]; omega) (by rw [unhide HTL]; simp; omega) (by simp; omega) ?_; intro ao6 cap6 w6 own6 gr6 at6; have hP := OwnsU.pushes (xs := [rawBytes q wn]) (unhide HVS3) (unhide HEV3) (ys := [.slice yo yl yc]) ⟨unhide HY3, fun _ j hj => ⟨by have := unhide HYF j hj; omega, fun e => by have := unhide HYF j hj; have := ((unhide HVS).lt j e).2; omega⟩, trivial⟩ (unhide HOA _) own6 gr6 at6; have hne1 : ¬ u3.ownBlock = some w.heap.size := fun e => (by have := ((unhide HVS).lt _ e).1; omega); have hne2 : ¬ u3.ownBlock = some bb := fun e => (by have := ((unhide HVS).lt _ e).1; omega); have c1'' := hP.2.cell c1' hne1; have c2'' := hP.2.cell c2' hne1; have hck'' := hP.2.cell hck' hne2; have HP := hide hP; clear hP own6 gr6 at6
        refine hK.out _ _ (⟨c1'', c2'', hck''⟩) (fun hHeld => ?_)
        clear hK K
        try simp only [Act.put, List.setIfInBounds_toArray, List.set_cons_zero, List.set_cons_succ, List.getElem_toArray, List.getElem_cons_succ, List.getElem_cons_zero]
        refine wpAnyH_take (i := 14) (v := ?v11) rfl (by kernel_rfl) (by kernel_rfl) (by kernel_rfl) (fun _ _ _ h => h) (Or.inl ⟨by rfl, ?hy11⟩) (by assumption) ?rest11
        case hy11 =>
          intro w hSw
          go_simp
          try with_reducible rfl
        try simp only [Act.put, List.setIfInBounds_toArray, List.set_cons_zero, List.set_cons_succ, List.getElem_toArray, List.getElem_cons_succ, List.getElem_cons_zero]
        refine wpAnyH_done (by kernel_rfl) ?_ _
        have HO6 := hide (((unhide HO).trans (unhide HO3) (fun _ _ e => e)).trans (unhide HP).2 (fun i hi e => by have := ((unhide HVS).lt i e).1; omega))
        have HU6 := (unhide HP).1
        rw [← unhide HT] at HU6
        have HU6' := hide HU6
        clear HU6
        go_wp2
        go_roundw
        case rel => exact ⟨k + 1, by omega, by omega, by go_num, unhide HU6', unhide HO6⟩
        case measure => simp [intOf]; omega
      · obtain rfl : k = 4 := by omega
        have hli : (4 : Int) < m := by omega
        go_wp2
        go_ret
        exact ⟨u3, rfl, unhide HEND _ (unhide HU) (by simp), (unhide HO1).trans (unhide HO) (fun _ _ e => e)⟩
    · obtain rfl : m = k := by omega
      have hli : ¬ (m : Int) < m := by omega
      go_wp2
      go_ret
      exact ⟨u3, rfl, unhide HEND _ (unhide HU) (by simp), (unhide HO1).trans (unhide HO) (fun _ _ e => e)⟩

end Wal
end Go.Proofs.Ytoffcbopolonoaa
