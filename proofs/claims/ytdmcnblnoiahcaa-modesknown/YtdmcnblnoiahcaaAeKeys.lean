/-
  aes.roundKeys: one step, and all of them.
-/
import Derived.Test.YtdmcnblnoiahcaaAeKs
import Derived.Test.YtdmcnblnoiahcaaAeBlk2
import Derived.Test.YtdmcnblnoiahcaaAeS4
import Derived.Test.YtdmcnblnoiahcaaHeldL
namespace Go.Proofs.Ytdmcnblnoiahcaa
open Go.RowKit
set_option linter.unusedSimpArgs false
set_option linter.unusedVariables false
namespace Ae

theorem blocks_any (b off m cap : Nat) (bs : List UInt8) (hm : m ≤ 100) (hcap : 16 * m ≤ cap) (hlen : bs.length = 16 * m) (w : World) (hbw : b < w.heap.size) (hcs : ∀ j x, bs[j]? = some x → w.cell? ⟨b, off + j, none⟩ = some (bv x)) :
    Calls Try.prog 55 #[.slice (some ⟨b, off, none⟩) (16 * m) cap] w fun e W' => ∃ v, e = .returned v ∧ W'.ownsRow w.heap.size 36 16 v m (bflat bs (upto m)) ∧ Only (fun _ => False) w W' :=
  (callsIn_wide (n := 3)).1 ((blocks_in Fence.wide 3 trivial trivial trivial rfl (Nat.le_refl _) b off m cap bs hm hcap hlen w hbw hcs).mono fun e W' ⟨v, he, ho, hb⟩ => ⟨v, he, ho, Only.ofBelow hb⟩)

/-- a load of four cells, kept whole -/
def loadW (v : Value) : Sem Value := Instr.loadAt 86 v
theorem execOp_loadW (ρ : Operand → Value) (dst : Option Tmp) (x : Operand) (ty : TypeId) (pos : String) (af : Array Edge) (gd : Option (Nat × Bool)) :
    execOp ρ { dst := dst, op := .load 86 x, type := ty, pos := pos, after := af, guard := gd } = (do pure (.value (← loadW (ρ x)))) := rfl
theorem arrayAt4 (a : Addr) (c : Nat) (W : World) : (Instr.arrayAt 86 (.slice (some a) 4 c)).run Try.prog W = .ok (.pointer (some a)) W := by
  simp [Instr.arrayAt, run_underlying Try.under4, go_sem]

attribute [local go_sem ↓] execOp_loadW

def a4 (x0 x1 x2 x3 : UInt8) : Array Value := #[.int .u8 (x0.toNat : Int), .int .u8 (x1.toNat : Int), .int .u8 (x2.toNat : Int), .int .u8 (x3.toNat : Int)]

set_option maxRecDepth 100000 in
set_option maxHeartbeats 4000000 in
theorem roundKeys_any (L N m : Nat) (hL : L = 16 ∨ L = 24 ∨ L = 32) (hm : m = L / 4 + 7) (hN : L + 4 * N = 16 * m) (a : Addr) (cap : Nat) (key : List UInt8) (hk : key.length = L) (w : World) (hx : Has w (.slice (some a) L cap) key) :
    Calls Try.prog 35 #[.slice (some a) L cap] w fun e W' => ∃ v, e = .returned v ∧ W'.ownsRow w.heap.size 36 16 v m (bflat (expd L key N).1 (upto m)) ∧ Only (fun _ => False) w W' := by
  have hL16 : 16 ≤ L := by omega
  have hL32 : L ≤ 32 := by omega
  have HX := hide hx
  have HCL := hide (cloneB_any a cap key w (by rw [hk]; exact hx) (by omega))
  rw [hk] at HCL
  have hq : (L : Int).tdiv 4 = ((L / 4 : Nat) : Int) := by rw [Int.tdiv_eq_ediv_of_nonneg (by omega)]; omega
  have hm100 : m ≤ 15 := by omega
  clear hx
  go_enter Try.func35, Try.ntmps35
  go_wp2_with fail
  refine (unhide HCL).mono ?_
  rintro e w1 ⟨u, rfl, hu, o1⟩
  have HU := hide hu
  have O1 := hide o1
  clear hu o1
  go_wp2
  obtain ⟨R, hR⟩ : ∃ R : Nat, (L : Int) / 4 + 6 = (R : Int) := ⟨L / 4 + 6, by omega⟩
  have hRm : R + 1 = m := by omega
  rw [hR]
  clear hR hq
  go_loopw [3, 5, 6] (fun u q nn wr => ∃ k : Nat, k ≤ N ∧ nn = .int .i64 ((L + 4 * k : Nat) : Int) ∧ q = .int .u8 ((expd L key k).2.toNat : Int) ∧ Hid (Owns w.heap.size wr u (expd L key k).1) ∧ Hid (Only (fun _ => False) w wr)) (fun _ _ nn _ => 16 * m - (intOf nn).toNat)
  case atStart => exact ⟨0, Nat.zero_le _, by simp, rfl, HU, O1⟩
  case round =>
    obtain ⟨k, hkN, rfl, rfl, hown, hor⟩ := hrel
    have hlen := expd_length L key hk k
    by_cases hlt : k < N
    · obtain ⟨p, hp⟩ : ∃ p, L + 4 * k = p + 4 := ⟨L + 4 * k - 4, by omega⟩
      obtain ⟨Z, hZ⟩ : ∃ Z, Z = p + 4 := ⟨_, rfl⟩
      rw [← hZ] at hp
      have HP := hide hp
      have hsub4 : (Z : Int) - 4 = (p : Int) := by omega
      have hZp : Z - p = 4 := by omega
      obtain ⟨ws, hws⟩ : ∃ ws, ws = (expd L key k).1 := ⟨_, rfl⟩
      obtain ⟨mk, hmk⟩ : ∃ mk, mk = (expd L key k).2 := ⟨_, rfl⟩
      have hst : expd L key (k + 1) = stepK L (ws, mk) := by rw [hws, hmk]; rfl
      rw [← hws] at hown hlen
      rw [← hmk]
      rw [hp] at hlen ⊢
      obtain ⟨g, cap2, rfl⟩ : ∃ g cap2, u3 = .slice (some ⟨g, 0, none⟩) (Z) cap2 := by
        have h := (unhide hown).out
        rw [hlen] at h
        rw [show Z = (Z - 1) + 1 by omega] at h ⊢
        exact ownsRow_succ h
      have hcap2 : Z ≤ cap2 := by
        rcases (unhide hown).out.2 with ⟨e, _⟩ | ⟨g1, c1, cur, e, _, _, hc, _⟩
        · cases e
        · simp only [Value.slice.injEq] at e
          omega
      have hcp : ¬ cap2 = p := by omega
      have hgw : w.heap.size ≤ g := ((unhide hown).out.lt g rfl).1
      have HCA : Hid (∀ i, i < Z → wr.cell? ⟨g, i, none⟩ = some (.int .u8 ((gt ws i).toNat : Int))) := by
        intro i hi
        have h0 := (unhide hown).out
        rw [hlen] at h0
        have h := h0.cellAt i (by omega)
        rw [List.getElem?_map, gt_some ws i (by omega)] at h
        exact h
      have hld : (loadW (.pointer (some ⟨g, p, none⟩))).run Try.prog wr = .ok (.agg (a4 (gt ws p) (gt ws (p + 1)) (gt ws (p + 2)) (gt ws (p + 3)))) wr := by
        refine run_loadAt_mid (P := Try.prog) wr g p 86 [.int .u8 ((gt ws p).toNat : Int), .int .u8 ((gt ws (p + 1)).toNat : Int), .int .u8 ((gt ws (p + 2)).toNat : Int), .int .u8 ((gt ws (p + 3)).toNat : Int)] _ ?_ Try.under4 rfl (by rw [Try.size4]; rfl)
        intro j v hv
        have hj : j < 4 := (List.getElem?_eq_some_iff.1 hv).1
        rw [unhide HCA (p + j) (by omega)]
        rcases (show j = 0 ∨ j = 1 ∨ j = 2 ∨ j = 3 by omega) with rfl | rfl | rfl | rfl <;> simpa using hv
      have haa := arrayAt4 ⟨g, p, none⟩ (cap2 - p) wr
      obtain ⟨r, hr⟩ : ∃ r, r = (Z) % L := ⟨_, rfl⟩
      have hrem : (Z : Int).tmod (L : Int) = (r : Int) := by rw [Int.tmod_eq_emod_of_nonneg (by omega), hr]; exact (Int.natCast_emod (Z) L).symm
      have hrem2 : (Z : Int) % (L : Int) = (r : Int) := by rw [← hrem, Int.tmod_eq_emod_of_nonneg (by omega)]
      have htest : (Z : Int) < 16 * ((R : Int) + 1) := by omega
      have hword : Hid (word L ws mk = if r = 0 then [box (gt ws (p + 1)) ^^^ mk, box (gt ws (p + 2)), box (gt ws (p + 3)), box (gt ws p)]
          else if L = 32 ∧ r = 16 then [box (gt ws p), box (gt ws (p + 1)), box (gt ws (p + 2)), box (gt ws (p + 3))] else [gt ws p, gt ws (p + 1), gt ws (p + 2), gt ws (p + 3)]) := by
        show _ = _
        unfold word
        rw [hlen, ← hr, show Z - 4 = p by omega]
      have hmk2 : Hid ((expd L key (k + 1)).2 = if r = 0 then mul mk 2 else mk) := by
        show _ = _
        rw [hst]
        unfold stepK
        simp only [hlen, ← hr]
      have hws2 : Hid ((expd L key (k + 1)).1 = ws ++ next L ws (word L ws mk) 4) := by
        show _ = _
        rw [hst]
        rfl
      have hyL : L ≤ Z := by omega
      have HWL := hide hlen
      generalize gt ws p = x0 at *
      generalize gt ws (p + 1) = x1 at *
      generalize gt ws (p + 2) = x2 at *
      generalize gt ws (p + 3) = x3 at *
      unfold a4 at hld
      have hL0 : (0 : Int) < (L : Int) := by omega
      clear hst hws hmk hlen hr hcap2 hZ hp
      go_upto_region 8 with fail
      have hA := Arr.new wr 86 [x0, x1, x2, x3] #[.int .u8 (x0.toNat : Int), .int .u8 (x1.toNat : Int), .int .u8 (x2.toNat : Int), .int .u8 (x3.toNat : Int)] rfl
      have HA := hide hA
      have HO7 : Hid (Only (fun _ => False) wr (wr.alloc (.cells #[.int .u8 (x0.toNat : Int), .int .u8 (x1.toNat : Int), .int .u8 (x2.toNat : Int), .int .u8 (x3.toNat : Int)] 86))) := (Only.refl _ wr).alloc _
      have hgl : g < wr.heap.size := ((unhide hown).out.lt g rfl).2
      have hwl : w.heap.size ≤ wr.heap.size := (unhide hor).size
      clear hA hld haa
      generalize wr.alloc (.cells #[.int .u8 (x0.toNat : Int), .int .u8 (x1.toNat : Int), .int .u8 (x2.toNat : Int), .int .u8 (x3.toNat : Int)] 86) = w7 at *
      generalize hb7 : wr.heap.size = b7 at *
      have hgb : g ≠ b7 := by omega
      have HO : Hid (Only (fun _ => False) w w7) := (unhide hor).trans (unhide HO7) (fun _ _ e => e)
      have HOWN : Hid (Owns w.heap.size w7 (.slice (some ⟨g, 0, none⟩) (Z) cap2) ws) := (unhide HO7).owns (unhide hown) (fun _ _ e => e)
      clear hb7 hgl hown hor HO7 HCA
      have hLne : ¬ (L : Int) = 0 := by omega
      by_cases hr0 : r = 0
      · skip
        have hrb : ((r : Int) == 0) = true := by simp [hr0]
        have HWD : Hid (word L ws mk = [box x1 ^^^ mk, box x2, box x3, box x0]) := by show _ = _; rw [unhide hword, if_pos hr0]
        have HM2 : Hid ((expd L key (k + 1)).2 = mul mk 2) := by show _ = _; rw [unhide hmk2, if_pos hr0]
        have hxm := xor_bv (box x1) mk
        have HT2 : Hid (∀ W : World, Calls Try.prog 54 #[.int .u8 (mk.toNat : Int), .int .u8 2] W fun e w' => e = .returned (.int .u8 ((mul mk 2).toNat : Int)) ∧ w' = W) := fun W => times_any mk 2 W
        clear hword hmk2 hr0
        go_wp2_with fail
        refine wp_region_last_drew (S := (fun w' => Arr w' b7 86 [x0, x1, x2, x3])) 15 (by kernel_rfl) (unhide HA) (fun hHeld => ?_)
        refine wpAnyL_take (i := 0) (v := ?v29) rfl (by kernel_rfl) (by kernel_rfl) (by kernel_rfl) (by kernel_rfl) (fun _ _ _ h => h) (Or.inl ⟨by rfl, ?hy29⟩) (by assumption) ?rest29
        case hy29 =>
          intro w hSw
          go_simp
          try with_reducible rfl
        try simp only [Act.put, List.setIfInBounds_toArray, List.set_cons_zero, List.set_cons_succ, List.getElem_toArray, List.getElem_cons_succ, List.getElem_cons_zero]
        refine wpAnyL_take (i := 1) (v := ?v30) rfl (by kernel_rfl) (by kernel_rfl) (by kernel_rfl) (by kernel_rfl) (fun _ _ _ h => h) (Or.inl ⟨by rfl, ?hy30⟩) (by assumption) ?rest30
        case hy30 =>
          intro w hSw
          (have q := hSw.cell 1 x1 rfl; go_simp; try with_reducible rfl)
        try simp only [Act.put, List.setIfInBounds_toArray, List.set_cons_zero, List.set_cons_succ, List.getElem_toArray, List.getElem_cons_succ, List.getElem_cons_zero]
        refine wpAnyL_take (i := 3) (v := ?v31) rfl (by kernel_rfl) (by kernel_rfl) (by kernel_rfl) (by kernel_rfl) (fun _ _ _ h => h) (Or.inl ⟨by rfl, ?hy31⟩) (by assumption) ?rest31
        case hy31 =>
          intro w hSw
          go_simp
          try with_reducible rfl
        try simp only [Act.put, List.setIfInBounds_toArray, List.set_cons_zero, List.set_cons_succ, List.getElem_toArray, List.getElem_cons_succ, List.getElem_cons_zero]
        refine wpAnyL_take (i := 5) (v := ?v32) rfl (by kernel_rfl) (by kernel_rfl) (by kernel_rfl) (by kernel_rfl) (fun _ _ _ h => h) (Or.inl ⟨by rfl, ?hy32⟩) (by assumption) ?rest32
        case hy32 =>
          intro w hSw
          go_simp
          try with_reducible rfl
        try simp only [Act.put, List.setIfInBounds_toArray, List.set_cons_zero, List.set_cons_succ, List.getElem_toArray, List.getElem_cons_succ, List.getElem_cons_zero]
        refine wpAnyL_take (i := 6) (v := ?v33) rfl (by kernel_rfl) (by kernel_rfl) (by kernel_rfl) (by kernel_rfl) (fun _ _ _ h => h) (Or.inl ⟨by rfl, ?hy33⟩) (by assumption) ?rest33
        case hy33 =>
          intro w hSw
          (have q := hSw.cell 2 x2 rfl; go_simp; try with_reducible rfl)
        try simp only [Act.put, List.setIfInBounds_toArray, List.set_cons_zero, List.set_cons_succ, List.getElem_toArray, List.getElem_cons_succ, List.getElem_cons_zero]
        refine wpAnyL_take (i := 8) (v := ?v34) rfl (by kernel_rfl) (by kernel_rfl) (by kernel_rfl) (by kernel_rfl) (fun _ _ _ h => h) (Or.inl ⟨by rfl, ?hy34⟩) (by assumption) ?rest34
        case hy34 =>
          intro w hSw
          go_simp
          try with_reducible rfl
        try simp only [Act.put, List.setIfInBounds_toArray, List.set_cons_zero, List.set_cons_succ, List.getElem_toArray, List.getElem_cons_succ, List.getElem_cons_zero]
        refine wpAnyL_take (i := 9) (v := ?v35) rfl (by kernel_rfl) (by kernel_rfl) (by kernel_rfl) (by kernel_rfl) (fun _ _ _ h => h) (Or.inl ⟨by rfl, ?hy35⟩) (by assumption) ?rest35
        case hy35 =>
          intro w hSw
          (have q := hSw.cell 3 x3 rfl; go_simp; try with_reducible rfl)
        try simp only [Act.put, List.setIfInBounds_toArray, List.set_cons_zero, List.set_cons_succ, List.getElem_toArray, List.getElem_cons_succ, List.getElem_cons_zero]
        refine wpAnyL_take (i := 11) (v := ?v36) rfl (by kernel_rfl) (by kernel_rfl) (by kernel_rfl) (by kernel_rfl) (fun _ _ _ h => h) (Or.inl ⟨by rfl, ?hy36⟩) (by assumption) ?rest36
        case hy36 =>
          intro w hSw
          go_simp
          try with_reducible rfl
        try simp only [Act.put, List.setIfInBounds_toArray, List.set_cons_zero, List.set_cons_succ, List.getElem_toArray, List.getElem_cons_succ, List.getElem_cons_zero]
        refine wpAnyL_take (i := 12) (v := ?v37) rfl (by kernel_rfl) (by kernel_rfl) (by kernel_rfl) (by kernel_rfl) (fun _ _ _ h => h) (Or.inl ⟨by rfl, ?hy37⟩) (by assumption) ?rest37
        case hy37 =>
          intro w hSw
          (have q := hSw.cell 0 x0 rfl; go_simp; try with_reducible rfl)
        try simp only [Act.put, List.setIfInBounds_toArray, List.set_cons_zero, List.set_cons_succ, List.getElem_toArray, List.getElem_cons_succ, List.getElem_cons_zero]
        refine wpAnyL_ready (rs := [2]) (by kernel_rfl) (by simp) ?_
        refine AllReadyL.cons rfl (fun K hK => ?_) AllReadyL.nil
        go_simp
        go_wp2_with fail; refine (box_any x1 _).mono ?_; rintro e wx ⟨rfl, hwx⟩; rw [hwx]; clear hwx wx
        refine hK.out _ _ ((unhide HA)) (fun hHeld => ?_)
        clear hK K
        try simp only [Act.put, List.setIfInBounds_toArray, List.set_cons_zero, List.set_cons_succ, List.getElem_toArray, List.getElem_cons_succ, List.getElem_cons_zero]
        refine wpAnyL_take (i := 4) (v := ?v38) rfl (by kernel_rfl) (by kernel_rfl) (by kernel_rfl) (by kernel_rfl) (fun _ _ _ h => h) (Or.inl ⟨by rfl, ?hy38⟩) (by assumption) ?rest38
        case hy38 =>
          intro w hSw
          go_simp
          try with_reducible rfl
        try simp only [Act.put, List.setIfInBounds_toArray, List.set_cons_zero, List.set_cons_succ, List.getElem_toArray, List.getElem_cons_succ, List.getElem_cons_zero]
        refine wpAnyL_ready (rs := [7]) (by kernel_rfl) (by simp) ?_
        refine AllReadyL.cons rfl (fun K hK => ?_) AllReadyL.nil
        go_simp
        go_wp2_with fail; refine (box_any x2 _).mono ?_; rintro e wx ⟨rfl, hwx⟩; rw [hwx]; clear hwx wx
        refine hK.out _ _ ((unhide HA)) (fun hHeld => ?_)
        clear hK K
        try simp only [Act.put, List.setIfInBounds_toArray, List.set_cons_zero, List.set_cons_succ, List.getElem_toArray, List.getElem_cons_succ, List.getElem_cons_zero]
        refine wpAnyL_ready (rs := [10]) (by kernel_rfl) (by simp) ?_
        refine AllReadyL.cons rfl (fun K hK => ?_) AllReadyL.nil
        go_simp
        go_wp2_with fail; refine (box_any x3 _).mono ?_; rintro e wx ⟨rfl, hwx⟩; rw [hwx]; clear hwx wx
        refine hK.out _ _ ((unhide HA)) (fun hHeld => ?_)
        clear hK K
        try simp only [Act.put, List.setIfInBounds_toArray, List.set_cons_zero, List.set_cons_succ, List.getElem_toArray, List.getElem_cons_succ, List.getElem_cons_zero]
        refine wpAnyL_ready (rs := [13]) (by kernel_rfl) (by simp) ?_
        refine AllReadyL.cons rfl (fun K hK => ?_) AllReadyL.nil
        go_simp
        go_wp2_with fail; refine (box_any x0 _).mono ?_; rintro e wx ⟨rfl, hwx⟩; rw [hwx]; clear hwx wx
        refine hK.out _ _ ((unhide HA)) (fun hHeld => ?_)
        clear hK K
        try simp only [Act.put, List.setIfInBounds_toArray, List.set_cons_zero, List.set_cons_succ, List.getElem_toArray, List.getElem_cons_succ, List.getElem_cons_zero]
        refine wpAnyL_take (i := 14) (v := ?v39) rfl (by kernel_rfl) (by kernel_rfl) (by kernel_rfl) (by kernel_rfl) (fun _ _ _ h => h) (Or.inl ⟨by rfl, ?hy39⟩) (by assumption) ?rest39
        case hy39 =>
          intro w hSw
          go_simp
          try with_reducible rfl
        try simp only [Act.put, List.setIfInBounds_toArray, List.set_cons_zero, List.set_cons_succ, List.getElem_toArray, List.getElem_cons_succ, List.getElem_cons_zero]
        refine wpAnyL_ready (rs := [15]) (by kernel_rfl) (by simp) ?_
        refine AllReadyL.last rfl (fun K hK => ?_)
        refine step_store_mid rfl 86 (.tmp 7) (.tmp 51) rfl b7 0 (a4 (box x1 ^^^ mk) (box x2) (box x3) (box x0)) rfl rfl ((unhide HA).there 4 rfl) (by rw [Try.size4]; rfl) (ag_one [box x1 ^^^ mk, box x2, box x3, box x0]) ?_; have HAz : Hid (Arr (w7.drew.setCells b7 0 (a4 (box x1 ^^^ mk) (box x2) (box x3) (box x0)).toList) b7 86 [box x1 ^^^ mk, box x2, box x3, box x0]) := Arr.stored (w := w7.drew) (unhide HA) [box x1 ^^^ mk, box x2, box x3, box x0] rfl; have HOnz : Hid (Only (fun _ => False) w (w7.drew.setCells b7 0 (a4 (box x1 ^^^ mk) (box x2) (box x3) (box x0)).toList)) := (Only.setCells (S := fun i => i = b7) (a := w7) (b := b7) (fun _ => rfl) _ w7.drew 0 ((Only.refl _ w7).drew)) |> fun o => (unhide HO).trans o (fun i hi e => by omega); have HOz : Hid (Owns w.heap.size (w7.drew.setCells b7 0 (a4 (box x1 ^^^ mk) (box x2) (box x3) (box x0)).toList) (.slice (some ⟨g, 0, none⟩) (Z) cap2) ws) := (Only.setCells (S := fun i => i = b7) (a := w7) (b := b7) (fun _ => rfl) _ w7.drew 0 ((Only.refl _ w7).drew)).owns (unhide HOWN) (fun i hi e => hgb (by cases hi; exact e)); clear HA HO HOWN; generalize w7.drew.setCells b7 0 (a4 (box x1 ^^^ mk) (box x2) (box x3) (box x0)).toList = wz at *
        refine hK.out _ _ (trivial) (fun hHeld => ?_)
        clear hK K
        try simp only [Act.put, List.setIfInBounds_toArray, List.set_cons_zero, List.set_cons_succ, List.getElem_toArray, List.getElem_cons_succ, List.getElem_cons_zero]

        refine wpAnyL_done (by kernel_rfl) ?_ _
        clear hxm
        have HW4 : Hid ([box x1 ^^^ mk, box x2, box x3, box x0].length = 4) := rfl
        generalize [box x1 ^^^ mk, box x2, box x3, box x0] = W at *
        go_wp2_with fail
        refine (unhide HT2 _).mono ?_
        rintro e wx ⟨rfl, hwx⟩
        rw [hwx]
        clear hwx wx HT2

        clear hrem hrem2 hrb
        have hW4 := unhide HW4
        have HIX := hide (fun j (hj : j < 4) => index_st 86 4 W .i64 j Try.under4 hW4 hj)
        have hld2 : (loadW (.pointer (some ⟨b7, 0, none⟩))).run Try.prog wz = .ok (.agg (W.map bv).toArray) wz := run_loadAt_mid (P := Try.prog) wz b7 0 86 (W.map bv) _ (unhide HAz).range Try.under4 rfl (by rw [Try.size4]; simp [hW4])
        clear hW4
        go_wp2
        clear hld2
        go_loopw [3, 8, 9, 79] (fun u _ _ jj wq => ∃ j : Nat, j ≤ 4 ∧ jj = .int .i64 j ∧ Hid (Owns w.heap.size wq u (ws ++ next L ws W j)) ∧ Hid (Only (fun _ => False) w wq)) (fun _ _ _ jj _ => 4 - (intOf jj).toNat)
        case atStart => exact ⟨0, Nat.zero_le _, rfl, by show Owns _ _ _ _; simpa [next] using unhide HOz, HOnz⟩
        case round =>
          obtain ⟨j, hj, rfl, hown, hor⟩ := hrel
          by_cases hjt : j < 4
          · obtain ⟨y, hy⟩ : ∃ y, y = Z - L := ⟨_, rfl⟩
            have hsub : (Z : Int) - (L : Int) = (y : Int) := by omega
            obtain ⟨z, hz⟩ : ∃ z, z = y + j := ⟨_, rfl⟩
            have hadd : (y : Int) + (j : Int) = (z : Int) := by omega
            have hzp : z < Z := by omega
            have hln : (ws ++ next L ws W j).length = Z + j := by rw [List.length_append, next_length, unhide HWL]
            obtain ⟨g2, cap3, rfl⟩ : ∃ g2 cap3, u3 = .slice (some ⟨g2, 0, none⟩) (Z + j) cap3 := by
              have h := (unhide hown).out
              rw [hln, show Z + j = (Z - 1 + j) + 1 by omega] at h
              obtain ⟨g2, cap3, h2⟩ := ownsRow_succ h
              exact ⟨g2, cap3, by rw [h2]; congr 1; omega⟩
            have hcz : wr.cell? ⟨g2, z, none⟩ = some (.int .u8 ((gt ws z).toNat : Int)) := by
              have h0 := (unhide hown).out
              rw [hln] at h0
              have h := h0.cellAt z (by omega)
              rw [List.getElem?_map, List.getElem?_append_left (by rw [unhide HWL]; omega), gt_some ws z (by rw [unhide HWL]; omega)] at h
              exact h
            have hxz := xor_bv (gt ws z) (gt W j)
            have HNX : Hid (ws ++ next L ws W (j + 1) = (ws ++ next L ws W j) ++ [gt ws z ^^^ gt W j]) := by
              show _ = _
              rw [next_succ, List.append_assoc, unhide HWL, ← hy, hz]
            have hix := unhide HIX j hjt
            have hzl : (z : Int) < ((Z + j : Nat) : Int) := by omega
            have hzl2 : (z : Int) < (Z : Int) + (j : Int) := by omega
            clear hy hz
            generalize gt ws z ^^^ gt W j = q at *
            generalize gt ws z = y1 at *
            generalize gt W j = y2 at *
            have hownA : Hid ((wr.alloc (.cells #[.int .u8 (q.toNat : Int)] 5)).ownsRow w.heap.size 5 1 (.slice (some ⟨g2, 0, none⟩) (Z + j) cap3) (Z + j) ((ws ++ next L ws W j).map bv)) := by
              have h0 := (unhide hown).out
              rw [hln] at h0
              exact h0.alloc _
            have hone : Hid (Has (wr.alloc (.cells #[.int .u8 (q.toNat : Int)] 5)) (.slice (some ⟨wr.heap.size, 0, none⟩) 1 1) [q]) := has_one ((Arr.new wr 5 [q] _ rfl).cell 0 q rfl)
            have HLN := hide hln
            have hbd : Z + j + 1 ≤ 140737488355328 := by omega
            have hbs : w.heap.size ≤ (wr.alloc (.cells #[.int .u8 (q.toNat : Int)] 5)).heap.size := by have := (unhide hor).size; simp; omega
            clear hln
            obtain ⟨i0, hi, hz0, hz1, hz2⟩ := info_parts Try.info5
            have hj4 : (j : Int) < 4 := by omega
            go_wp2_with (at_builtin; refine wpList_append_has rfl (.tmp 83) (.tmp 95) 22 rfl w.heap.size 5 i0 Try.underlying22 hi hz0 hz1 hz2 _ (Z + j) _ rfl (unhide hownA) _ [q] rfl (unhide hone) hbd hbs ?_; intro ao2 cap4 w9 own9 gr9 at9)
            go_roundw
            case rel =>
              refine ⟨j + 1, by omega, by go_num, ?_, ?_⟩
              · show Owns _ _ _ _
                unfold Owns
                rw [unhide HNX, List.map_append, List.length_append, unhide HLN]
                exact own9
              · exact ((unhide hor).alloc _).grown gr9 (fun i hi hlt => by have := ((unhide hownA).lt i hi).1; omega)
            case measure => simp [intOf]; omega
          · obtain rfl : j = 4 := by omega
            have HH := hide (unhide hown)
            have hZ240 : (Z : Int) ≤ 240 := by omega
            have HME : Hid (Z < 16 * m) := by show Z < 16 * m; omega
            have HKN : Hid (k + 1 ≤ N) := hlt
            have HLK : Hid (L + 4 * (k + 1) = Z + 4) := by show _ = _; have := unhide HP; omega
            clear hown hsub4 hZp htest hcp hL hm hN hRm hyL hlt hkN hk hLne hL0 hL16 hL32 hm100
            go_wp2
            go_roundw
            case rel =>
              refine ⟨k + 1, unhide HKN, by rw [unhide HLK]; go_num, by rw [unhide HM2], ?_, hor⟩
              show Owns _ _ _ _
              rw [unhide hws2, unhide HWD]
              exact unhide HH
            case measure => have := unhide HME; simp [intOf]; omega
      · have hrb : ((r : Int) == 0) = false := by simp; omega
        have HM2 : Hid ((expd L key (k + 1)).2 = mk) := by show _ = _; rw [unhide hmk2, if_neg hr0]
        by_cases hL2 : L = 32
        · by_cases hr16 : r = 16
          · skip
            have hl32 : ((L : Int) == 32) = true := by simp [hL2]
            have hr16b : ((r : Int) == 16) = true := by simp [hr16]
            have HWD : Hid (word L ws mk = [box x0, box x1, box x2, box x3]) := by show _ = _; rw [unhide hword, if_neg hr0, if_pos ⟨hL2, hr16⟩]
            clear hword hmk2 hr0 hL2 hr16
            go_wp2_with fail
            refine wp_region_last_drew (S := (fun w' => Arr w' b7 86 [x0, x1, x2, x3])) 13 (by kernel_rfl) (unhide HA) (fun hHeld => ?_)
            refine wpAnyL_take (i := 0) (v := ?v40) rfl (by kernel_rfl) (by kernel_rfl) (by kernel_rfl) (by kernel_rfl) (fun _ _ _ h => h) (Or.inl ⟨by rfl, ?hy40⟩) (by assumption) ?rest40
            case hy40 =>
              intro w hSw
              go_simp
              try with_reducible rfl
            try simp only [Act.put, List.setIfInBounds_toArray, List.set_cons_zero, List.set_cons_succ, List.getElem_toArray, List.getElem_cons_succ, List.getElem_cons_zero]
            refine wpAnyL_take (i := 1) (v := ?v41) rfl (by kernel_rfl) (by kernel_rfl) (by kernel_rfl) (by kernel_rfl) (fun _ _ _ h => h) (Or.inl ⟨by rfl, ?hy41⟩) (by assumption) ?rest41
            case hy41 =>
              intro w hSw
              (have q := hSw.cell 0 x0 rfl; go_simp; try with_reducible rfl)
            try simp only [Act.put, List.setIfInBounds_toArray, List.set_cons_zero, List.set_cons_succ, List.getElem_toArray, List.getElem_cons_succ, List.getElem_cons_zero]
            refine wpAnyL_take (i := 3) (v := ?v42) rfl (by kernel_rfl) (by kernel_rfl) (by kernel_rfl) (by kernel_rfl) (fun _ _ _ h => h) (Or.inl ⟨by rfl, ?hy42⟩) (by assumption) ?rest42
            case hy42 =>
              intro w hSw
              go_simp
              try with_reducible rfl
            try simp only [Act.put, List.setIfInBounds_toArray, List.set_cons_zero, List.set_cons_succ, List.getElem_toArray, List.getElem_cons_succ, List.getElem_cons_zero]
            refine wpAnyL_take (i := 4) (v := ?v43) rfl (by kernel_rfl) (by kernel_rfl) (by kernel_rfl) (by kernel_rfl) (fun _ _ _ h => h) (Or.inl ⟨by rfl, ?hy43⟩) (by assumption) ?rest43
            case hy43 =>
              intro w hSw
              (have q := hSw.cell 1 x1 rfl; go_simp; try with_reducible rfl)
            try simp only [Act.put, List.setIfInBounds_toArray, List.set_cons_zero, List.set_cons_succ, List.getElem_toArray, List.getElem_cons_succ, List.getElem_cons_zero]
            refine wpAnyL_take (i := 6) (v := ?v44) rfl (by kernel_rfl) (by kernel_rfl) (by kernel_rfl) (by kernel_rfl) (fun _ _ _ h => h) (Or.inl ⟨by rfl, ?hy44⟩) (by assumption) ?rest44
            case hy44 =>
              intro w hSw
              go_simp
              try with_reducible rfl
            try simp only [Act.put, List.setIfInBounds_toArray, List.set_cons_zero, List.set_cons_succ, List.getElem_toArray, List.getElem_cons_succ, List.getElem_cons_zero]
            refine wpAnyL_take (i := 7) (v := ?v45) rfl (by kernel_rfl) (by kernel_rfl) (by kernel_rfl) (by kernel_rfl) (fun _ _ _ h => h) (Or.inl ⟨by rfl, ?hy45⟩) (by assumption) ?rest45
            case hy45 =>
              intro w hSw
              (have q := hSw.cell 2 x2 rfl; go_simp; try with_reducible rfl)
            try simp only [Act.put, List.setIfInBounds_toArray, List.set_cons_zero, List.set_cons_succ, List.getElem_toArray, List.getElem_cons_succ, List.getElem_cons_zero]
            refine wpAnyL_take (i := 9) (v := ?v46) rfl (by kernel_rfl) (by kernel_rfl) (by kernel_rfl) (by kernel_rfl) (fun _ _ _ h => h) (Or.inl ⟨by rfl, ?hy46⟩) (by assumption) ?rest46
            case hy46 =>
              intro w hSw
              go_simp
              try with_reducible rfl
            try simp only [Act.put, List.setIfInBounds_toArray, List.set_cons_zero, List.set_cons_succ, List.getElem_toArray, List.getElem_cons_succ, List.getElem_cons_zero]
            refine wpAnyL_take (i := 10) (v := ?v47) rfl (by kernel_rfl) (by kernel_rfl) (by kernel_rfl) (by kernel_rfl) (fun _ _ _ h => h) (Or.inl ⟨by rfl, ?hy47⟩) (by assumption) ?rest47
            case hy47 =>
              intro w hSw
              (have q := hSw.cell 3 x3 rfl; go_simp; try with_reducible rfl)
            try simp only [Act.put, List.setIfInBounds_toArray, List.set_cons_zero, List.set_cons_succ, List.getElem_toArray, List.getElem_cons_succ, List.getElem_cons_zero]
            refine wpAnyL_ready (rs := [2]) (by kernel_rfl) (by simp) ?_
            refine AllReadyL.cons rfl (fun K hK => ?_) AllReadyL.nil
            go_simp
            go_wp2_with fail; refine (box_any x0 _).mono ?_; rintro e wx ⟨rfl, hwx⟩; rw [hwx]; clear hwx wx
            refine hK.out _ _ ((unhide HA)) (fun hHeld => ?_)
            clear hK K
            try simp only [Act.put, List.setIfInBounds_toArray, List.set_cons_zero, List.set_cons_succ, List.getElem_toArray, List.getElem_cons_succ, List.getElem_cons_zero]
            refine wpAnyL_ready (rs := [5]) (by kernel_rfl) (by simp) ?_
            refine AllReadyL.cons rfl (fun K hK => ?_) AllReadyL.nil
            go_simp
            go_wp2_with fail; refine (box_any x1 _).mono ?_; rintro e wx ⟨rfl, hwx⟩; rw [hwx]; clear hwx wx
            refine hK.out _ _ ((unhide HA)) (fun hHeld => ?_)
            clear hK K
            try simp only [Act.put, List.setIfInBounds_toArray, List.set_cons_zero, List.set_cons_succ, List.getElem_toArray, List.getElem_cons_succ, List.getElem_cons_zero]
            refine wpAnyL_ready (rs := [8]) (by kernel_rfl) (by simp) ?_
            refine AllReadyL.cons rfl (fun K hK => ?_) AllReadyL.nil
            go_simp
            go_wp2_with fail; refine (box_any x2 _).mono ?_; rintro e wx ⟨rfl, hwx⟩; rw [hwx]; clear hwx wx
            refine hK.out _ _ ((unhide HA)) (fun hHeld => ?_)
            clear hK K
            try simp only [Act.put, List.setIfInBounds_toArray, List.set_cons_zero, List.set_cons_succ, List.getElem_toArray, List.getElem_cons_succ, List.getElem_cons_zero]
            refine wpAnyL_ready (rs := [11]) (by kernel_rfl) (by simp) ?_
            refine AllReadyL.cons rfl (fun K hK => ?_) AllReadyL.nil
            go_simp
            go_wp2_with fail; refine (box_any x3 _).mono ?_; rintro e wx ⟨rfl, hwx⟩; rw [hwx]; clear hwx wx
            refine hK.out _ _ ((unhide HA)) (fun hHeld => ?_)
            clear hK K
            try simp only [Act.put, List.setIfInBounds_toArray, List.set_cons_zero, List.set_cons_succ, List.getElem_toArray, List.getElem_cons_succ, List.getElem_cons_zero]
            refine wpAnyL_take (i := 12) (v := ?v48) rfl (by kernel_rfl) (by kernel_rfl) (by kernel_rfl) (by kernel_rfl) (fun _ _ _ h => h) (Or.inl ⟨by rfl, ?hy48⟩) (by assumption) ?rest48
            case hy48 =>
              intro w hSw
              go_simp
              try with_reducible rfl
            try simp only [Act.put, List.setIfInBounds_toArray, List.set_cons_zero, List.set_cons_succ, List.getElem_toArray, List.getElem_cons_succ, List.getElem_cons_zero]
            refine wpAnyL_ready (rs := [13]) (by kernel_rfl) (by simp) ?_
            refine AllReadyL.last rfl (fun K hK => ?_)
            refine step_store_mid rfl 86 (.tmp 7) (.tmp 77) rfl b7 0 (a4 (box x0) (box x1) (box x2) (box x3)) rfl rfl ((unhide HA).there 4 rfl) (by rw [Try.size4]; rfl) (ag_one [box x0, box x1, box x2, box x3]) ?_; have HAz : Hid (Arr (w7.drew.setCells b7 0 (a4 (box x0) (box x1) (box x2) (box x3)).toList) b7 86 [box x0, box x1, box x2, box x3]) := Arr.stored (w := w7.drew) (unhide HA) [box x0, box x1, box x2, box x3] rfl; have HOnz : Hid (Only (fun _ => False) w (w7.drew.setCells b7 0 (a4 (box x0) (box x1) (box x2) (box x3)).toList)) := (Only.setCells (S := fun i => i = b7) (a := w7) (b := b7) (fun _ => rfl) _ w7.drew 0 ((Only.refl _ w7).drew)) |> fun o => (unhide HO).trans o (fun i hi e => by omega); have HOz : Hid (Owns w.heap.size (w7.drew.setCells b7 0 (a4 (box x0) (box x1) (box x2) (box x3)).toList) (.slice (some ⟨g, 0, none⟩) (Z) cap2) ws) := (Only.setCells (S := fun i => i = b7) (a := w7) (b := b7) (fun _ => rfl) _ w7.drew 0 ((Only.refl _ w7).drew)).owns (unhide HOWN) (fun i hi e => hgb (by cases hi; exact e)); clear HA HO HOWN; generalize w7.drew.setCells b7 0 (a4 (box x0) (box x1) (box x2) (box x3)).toList = wz at *
            refine hK.out _ _ (trivial) (fun hHeld => ?_)
            clear hK K
            try simp only [Act.put, List.setIfInBounds_toArray, List.set_cons_zero, List.set_cons_succ, List.getElem_toArray, List.getElem_cons_succ, List.getElem_cons_zero]

            refine wpAnyL_done (by kernel_rfl) ?_ _
            have HW4 : Hid ([box x0, box x1, box x2, box x3].length = 4) := rfl
            generalize [box x0, box x1, box x2, box x3] = W at *

            clear hrem hrem2 hrb
            have hW4 := unhide HW4
            have HIX := hide (fun j (hj : j < 4) => index_st 86 4 W .i64 j Try.under4 hW4 hj)
            have hld2 : (loadW (.pointer (some ⟨b7, 0, none⟩))).run Try.prog wz = .ok (.agg (W.map bv).toArray) wz := run_loadAt_mid (P := Try.prog) wz b7 0 86 (W.map bv) _ (unhide HAz).range Try.under4 rfl (by rw [Try.size4]; simp [hW4])
            clear hW4
            go_wp2
            clear hld2
            go_loopw [3, 8, 9, 79] (fun u _ _ jj wq => ∃ j : Nat, j ≤ 4 ∧ jj = .int .i64 j ∧ Hid (Owns w.heap.size wq u (ws ++ next L ws W j)) ∧ Hid (Only (fun _ => False) w wq)) (fun _ _ _ jj _ => 4 - (intOf jj).toNat)
            case atStart => exact ⟨0, Nat.zero_le _, rfl, by show Owns _ _ _ _; simpa [next] using unhide HOz, HOnz⟩
            case round =>
              obtain ⟨j, hj, rfl, hown, hor⟩ := hrel
              by_cases hjt : j < 4
              · obtain ⟨y, hy⟩ : ∃ y, y = Z - L := ⟨_, rfl⟩
                have hsub : (Z : Int) - (L : Int) = (y : Int) := by omega
                obtain ⟨z, hz⟩ : ∃ z, z = y + j := ⟨_, rfl⟩
                have hadd : (y : Int) + (j : Int) = (z : Int) := by omega
                have hzp : z < Z := by omega
                have hln : (ws ++ next L ws W j).length = Z + j := by rw [List.length_append, next_length, unhide HWL]
                obtain ⟨g2, cap3, rfl⟩ : ∃ g2 cap3, u3 = .slice (some ⟨g2, 0, none⟩) (Z + j) cap3 := by
                  have h := (unhide hown).out
                  rw [hln, show Z + j = (Z - 1 + j) + 1 by omega] at h
                  obtain ⟨g2, cap3, h2⟩ := ownsRow_succ h
                  exact ⟨g2, cap3, by rw [h2]; congr 1; omega⟩
                have hcz : wr.cell? ⟨g2, z, none⟩ = some (.int .u8 ((gt ws z).toNat : Int)) := by
                  have h0 := (unhide hown).out
                  rw [hln] at h0
                  have h := h0.cellAt z (by omega)
                  rw [List.getElem?_map, List.getElem?_append_left (by rw [unhide HWL]; omega), gt_some ws z (by rw [unhide HWL]; omega)] at h
                  exact h
                have hxz := xor_bv (gt ws z) (gt W j)
                have HNX : Hid (ws ++ next L ws W (j + 1) = (ws ++ next L ws W j) ++ [gt ws z ^^^ gt W j]) := by
                  show _ = _
                  rw [next_succ, List.append_assoc, unhide HWL, ← hy, hz]
                have hix := unhide HIX j hjt
                have hzl : (z : Int) < ((Z + j : Nat) : Int) := by omega
                have hzl2 : (z : Int) < (Z : Int) + (j : Int) := by omega
                clear hy hz
                generalize gt ws z ^^^ gt W j = q at *
                generalize gt ws z = y1 at *
                generalize gt W j = y2 at *
                have hownA : Hid ((wr.alloc (.cells #[.int .u8 (q.toNat : Int)] 5)).ownsRow w.heap.size 5 1 (.slice (some ⟨g2, 0, none⟩) (Z + j) cap3) (Z + j) ((ws ++ next L ws W j).map bv)) := by
                  have h0 := (unhide hown).out
                  rw [hln] at h0
                  exact h0.alloc _
                have hone : Hid (Has (wr.alloc (.cells #[.int .u8 (q.toNat : Int)] 5)) (.slice (some ⟨wr.heap.size, 0, none⟩) 1 1) [q]) := has_one ((Arr.new wr 5 [q] _ rfl).cell 0 q rfl)
                have HLN := hide hln
                have hbd : Z + j + 1 ≤ 140737488355328 := by omega
                have hbs : w.heap.size ≤ (wr.alloc (.cells #[.int .u8 (q.toNat : Int)] 5)).heap.size := by have := (unhide hor).size; simp; omega
                clear hln
                obtain ⟨i0, hi, hz0, hz1, hz2⟩ := info_parts Try.info5
                have hj4 : (j : Int) < 4 := by omega
                go_wp2_with (at_builtin; refine wpList_append_has rfl (.tmp 83) (.tmp 95) 22 rfl w.heap.size 5 i0 Try.underlying22 hi hz0 hz1 hz2 _ (Z + j) _ rfl (unhide hownA) _ [q] rfl (unhide hone) hbd hbs ?_; intro ao2 cap4 w9 own9 gr9 at9)
                go_roundw
                case rel =>
                  refine ⟨j + 1, by omega, by go_num, ?_, ?_⟩
                  · show Owns _ _ _ _
                    unfold Owns
                    rw [unhide HNX, List.map_append, List.length_append, unhide HLN]
                    exact own9
                  · exact ((unhide hor).alloc _).grown gr9 (fun i hi hlt => by have := ((unhide hownA).lt i hi).1; omega)
                case measure => simp [intOf]; omega
              · obtain rfl : j = 4 := by omega
                have HH := hide (unhide hown)
                have hZ240 : (Z : Int) ≤ 240 := by omega
                have HME : Hid (Z < 16 * m) := by show Z < 16 * m; omega
                have HKN : Hid (k + 1 ≤ N) := hlt
                have HLK : Hid (L + 4 * (k + 1) = Z + 4) := by show _ = _; have := unhide HP; omega
                clear hown hsub4 hZp htest hcp hL hm hN hRm hyL hlt hkN hk hLne hL0 hL16 hL32 hm100
                go_wp2
                go_roundw
                case rel =>
                  refine ⟨k + 1, unhide HKN, by rw [unhide HLK]; go_num, by rw [unhide HM2], ?_, hor⟩
                  show Owns _ _ _ _
                  rw [unhide hws2, unhide HWD]
                  exact unhide HH
                case measure => have := unhide HME; simp [intOf]; omega
          · skip
            have hl32 : ((L : Int) == 32) = true := by simp [hL2]
            have hr16b : ((r : Int) == 16) = false := by simp; omega
            have HWD : Hid (word L ws mk = [x0, x1, x2, x3]) := by show _ = _; rw [unhide hword, if_neg hr0, if_neg (by omega)]
            clear hword hmk2
            have HAz := HA
            have HOnz := HO
            have HOz := HOWN
            clear HA HO HOWN
            generalize w7 = wz at *
            clear hr0 hr16 hL2
            go_upto_region 13 with fail
            have HW4 : Hid ([x0, x1, x2, x3].length = 4) := rfl
            generalize [x0, x1, x2, x3] = W at *
            
            clear hrem hrem2 hrb
            have hW4 := unhide HW4
            have HIX := hide (fun j (hj : j < 4) => index_st 86 4 W .i64 j Try.under4 hW4 hj)
            have hld2 : (loadW (.pointer (some ⟨b7, 0, none⟩))).run Try.prog wz = .ok (.agg (W.map bv).toArray) wz := run_loadAt_mid (P := Try.prog) wz b7 0 86 (W.map bv) _ (unhide HAz).range Try.under4 rfl (by rw [Try.size4]; simp [hW4])
            clear hW4
            go_wp2
            clear hld2
            go_loopw [3, 8, 9, 79] (fun u _ _ jj wq => ∃ j : Nat, j ≤ 4 ∧ jj = .int .i64 j ∧ Hid (Owns w.heap.size wq u (ws ++ next L ws W j)) ∧ Hid (Only (fun _ => False) w wq)) (fun _ _ _ jj _ => 4 - (intOf jj).toNat)
            case atStart => exact ⟨0, Nat.zero_le _, rfl, by show Owns _ _ _ _; simpa [next] using unhide HOz, HOnz⟩
            case round =>
              obtain ⟨j, hj, rfl, hown, hor⟩ := hrel
              by_cases hjt : j < 4
              · obtain ⟨y, hy⟩ : ∃ y, y = Z - L := ⟨_, rfl⟩
                have hsub : (Z : Int) - (L : Int) = (y : Int) := by omega
                obtain ⟨z, hz⟩ : ∃ z, z = y + j := ⟨_, rfl⟩
                have hadd : (y : Int) + (j : Int) = (z : Int) := by omega
                have hzp : z < Z := by omega
                have hln : (ws ++ next L ws W j).length = Z + j := by rw [List.length_append, next_length, unhide HWL]
                obtain ⟨g2, cap3, rfl⟩ : ∃ g2 cap3, u3 = .slice (some ⟨g2, 0, none⟩) (Z + j) cap3 := by
                  have h := (unhide hown).out
                  rw [hln, show Z + j = (Z - 1 + j) + 1 by omega] at h
                  obtain ⟨g2, cap3, h2⟩ := ownsRow_succ h
                  exact ⟨g2, cap3, by rw [h2]; congr 1; omega⟩
                have hcz : wr.cell? ⟨g2, z, none⟩ = some (.int .u8 ((gt ws z).toNat : Int)) := by
                  have h0 := (unhide hown).out
                  rw [hln] at h0
                  have h := h0.cellAt z (by omega)
                  rw [List.getElem?_map, List.getElem?_append_left (by rw [unhide HWL]; omega), gt_some ws z (by rw [unhide HWL]; omega)] at h
                  exact h
                have hxz := xor_bv (gt ws z) (gt W j)
                have HNX : Hid (ws ++ next L ws W (j + 1) = (ws ++ next L ws W j) ++ [gt ws z ^^^ gt W j]) := by
                  show _ = _
                  rw [next_succ, List.append_assoc, unhide HWL, ← hy, hz]
                have hix := unhide HIX j hjt
                have hzl : (z : Int) < ((Z + j : Nat) : Int) := by omega
                have hzl2 : (z : Int) < (Z : Int) + (j : Int) := by omega
                clear hy hz
                generalize gt ws z ^^^ gt W j = q at *
                generalize gt ws z = y1 at *
                generalize gt W j = y2 at *
                have hownA : Hid ((wr.alloc (.cells #[.int .u8 (q.toNat : Int)] 5)).ownsRow w.heap.size 5 1 (.slice (some ⟨g2, 0, none⟩) (Z + j) cap3) (Z + j) ((ws ++ next L ws W j).map bv)) := by
                  have h0 := (unhide hown).out
                  rw [hln] at h0
                  exact h0.alloc _
                have hone : Hid (Has (wr.alloc (.cells #[.int .u8 (q.toNat : Int)] 5)) (.slice (some ⟨wr.heap.size, 0, none⟩) 1 1) [q]) := has_one ((Arr.new wr 5 [q] _ rfl).cell 0 q rfl)
                have HLN := hide hln
                have hbd : Z + j + 1 ≤ 140737488355328 := by omega
                have hbs : w.heap.size ≤ (wr.alloc (.cells #[.int .u8 (q.toNat : Int)] 5)).heap.size := by have := (unhide hor).size; simp; omega
                clear hln
                obtain ⟨i0, hi, hz0, hz1, hz2⟩ := info_parts Try.info5
                have hj4 : (j : Int) < 4 := by omega
                go_wp2_with (at_builtin; refine wpList_append_has rfl (.tmp 83) (.tmp 95) 22 rfl w.heap.size 5 i0 Try.underlying22 hi hz0 hz1 hz2 _ (Z + j) _ rfl (unhide hownA) _ [q] rfl (unhide hone) hbd hbs ?_; intro ao2 cap4 w9 own9 gr9 at9)
                go_roundw
                case rel =>
                  refine ⟨j + 1, by omega, by go_num, ?_, ?_⟩
                  · show Owns _ _ _ _
                    unfold Owns
                    rw [unhide HNX, List.map_append, List.length_append, unhide HLN]
                    exact own9
                  · exact ((unhide hor).alloc _).grown gr9 (fun i hi hlt => by have := ((unhide hownA).lt i hi).1; omega)
                case measure => simp [intOf]; omega
              · obtain rfl : j = 4 := by omega
                have HH := hide (unhide hown)
                have hZ240 : (Z : Int) ≤ 240 := by omega
                have HME : Hid (Z < 16 * m) := by show Z < 16 * m; omega
                have HKN : Hid (k + 1 ≤ N) := hlt
                have HLK : Hid (L + 4 * (k + 1) = Z + 4) := by show _ = _; have := unhide HP; omega
                clear hown hsub4 hZp htest hcp hL hm hN hRm hyL hlt hkN hk hLne hL0 hL16 hL32 hm100
                go_wp2
                go_roundw
                case rel =>
                  refine ⟨k + 1, unhide HKN, by rw [unhide HLK]; go_num, by rw [unhide HM2], ?_, hor⟩
                  show Owns _ _ _ _
                  rw [unhide hws2, unhide HWD]
                  exact unhide HH
                case measure => have := unhide HME; simp [intOf]; omega
        · skip
          have hl32 : ((L : Int) == 32) = false := by simp; omega
          have HWD : Hid (word L ws mk = [x0, x1, x2, x3]) := by show _ = _; rw [unhide hword, if_neg hr0, if_neg (by omega)]
          clear hword hmk2
          have HAz := HA
          have HOnz := HO
          have HOz := HOWN
          clear HA HO HOWN
          generalize w7 = wz at *
          clear hr0 hL2
          go_upto_region 13 with fail
          have HW4 : Hid ([x0, x1, x2, x3].length = 4) := rfl
          generalize [x0, x1, x2, x3] = W at *
          
          clear hrem hrem2 hrb
          have hW4 := unhide HW4
          have HIX := hide (fun j (hj : j < 4) => index_st 86 4 W .i64 j Try.under4 hW4 hj)
          have hld2 : (loadW (.pointer (some ⟨b7, 0, none⟩))).run Try.prog wz = .ok (.agg (W.map bv).toArray) wz := run_loadAt_mid (P := Try.prog) wz b7 0 86 (W.map bv) _ (unhide HAz).range Try.under4 rfl (by rw [Try.size4]; simp [hW4])
          clear hW4
          go_wp2
          clear hld2
          go_loopw [3, 8, 9, 79] (fun u _ _ jj wq => ∃ j : Nat, j ≤ 4 ∧ jj = .int .i64 j ∧ Hid (Owns w.heap.size wq u (ws ++ next L ws W j)) ∧ Hid (Only (fun _ => False) w wq)) (fun _ _ _ jj _ => 4 - (intOf jj).toNat)
          case atStart => exact ⟨0, Nat.zero_le _, rfl, by show Owns _ _ _ _; simpa [next] using unhide HOz, HOnz⟩
          case round =>
            obtain ⟨j, hj, rfl, hown, hor⟩ := hrel
            by_cases hjt : j < 4
            · obtain ⟨y, hy⟩ : ∃ y, y = Z - L := ⟨_, rfl⟩
              have hsub : (Z : Int) - (L : Int) = (y : Int) := by omega
              obtain ⟨z, hz⟩ : ∃ z, z = y + j := ⟨_, rfl⟩
              have hadd : (y : Int) + (j : Int) = (z : Int) := by omega
              have hzp : z < Z := by omega
              have hln : (ws ++ next L ws W j).length = Z + j := by rw [List.length_append, next_length, unhide HWL]
              obtain ⟨g2, cap3, rfl⟩ : ∃ g2 cap3, u3 = .slice (some ⟨g2, 0, none⟩) (Z + j) cap3 := by
                have h := (unhide hown).out
                rw [hln, show Z + j = (Z - 1 + j) + 1 by omega] at h
                obtain ⟨g2, cap3, h2⟩ := ownsRow_succ h
                exact ⟨g2, cap3, by rw [h2]; congr 1; omega⟩
              have hcz : wr.cell? ⟨g2, z, none⟩ = some (.int .u8 ((gt ws z).toNat : Int)) := by
                have h0 := (unhide hown).out
                rw [hln] at h0
                have h := h0.cellAt z (by omega)
                rw [List.getElem?_map, List.getElem?_append_left (by rw [unhide HWL]; omega), gt_some ws z (by rw [unhide HWL]; omega)] at h
                exact h
              have hxz := xor_bv (gt ws z) (gt W j)
              have HNX : Hid (ws ++ next L ws W (j + 1) = (ws ++ next L ws W j) ++ [gt ws z ^^^ gt W j]) := by
                show _ = _
                rw [next_succ, List.append_assoc, unhide HWL, ← hy, hz]
              have hix := unhide HIX j hjt
              have hzl : (z : Int) < ((Z + j : Nat) : Int) := by omega
              have hzl2 : (z : Int) < (Z : Int) + (j : Int) := by omega
              clear hy hz
              generalize gt ws z ^^^ gt W j = q at *
              generalize gt ws z = y1 at *
              generalize gt W j = y2 at *
              have hownA : Hid ((wr.alloc (.cells #[.int .u8 (q.toNat : Int)] 5)).ownsRow w.heap.size 5 1 (.slice (some ⟨g2, 0, none⟩) (Z + j) cap3) (Z + j) ((ws ++ next L ws W j).map bv)) := by
                have h0 := (unhide hown).out
                rw [hln] at h0
                exact h0.alloc _
              have hone : Hid (Has (wr.alloc (.cells #[.int .u8 (q.toNat : Int)] 5)) (.slice (some ⟨wr.heap.size, 0, none⟩) 1 1) [q]) := has_one ((Arr.new wr 5 [q] _ rfl).cell 0 q rfl)
              have HLN := hide hln
              have hbd : Z + j + 1 ≤ 140737488355328 := by omega
              have hbs : w.heap.size ≤ (wr.alloc (.cells #[.int .u8 (q.toNat : Int)] 5)).heap.size := by have := (unhide hor).size; simp; omega
              clear hln
              obtain ⟨i0, hi, hz0, hz1, hz2⟩ := info_parts Try.info5
              have hj4 : (j : Int) < 4 := by omega
              go_wp2_with (at_builtin; refine wpList_append_has rfl (.tmp 83) (.tmp 95) 22 rfl w.heap.size 5 i0 Try.underlying22 hi hz0 hz1 hz2 _ (Z + j) _ rfl (unhide hownA) _ [q] rfl (unhide hone) hbd hbs ?_; intro ao2 cap4 w9 own9 gr9 at9)
              go_roundw
              case rel =>
                refine ⟨j + 1, by omega, by go_num, ?_, ?_⟩
                · show Owns _ _ _ _
                  unfold Owns
                  rw [unhide HNX, List.map_append, List.length_append, unhide HLN]
                  exact own9
                · exact ((unhide hor).alloc _).grown gr9 (fun i hi hlt => by have := ((unhide hownA).lt i hi).1; omega)
              case measure => simp [intOf]; omega
            · obtain rfl : j = 4 := by omega
              have HH := hide (unhide hown)
              have hZ240 : (Z : Int) ≤ 240 := by omega
              have HME : Hid (Z < 16 * m) := by show Z < 16 * m; omega
              have HKN : Hid (k + 1 ≤ N) := hlt
              have HLK : Hid (L + 4 * (k + 1) = Z + 4) := by show _ = _; have := unhide HP; omega
              clear hown hsub4 hZp htest hcp hL hm hN hRm hyL hlt hkN hk hLne hL0 hL16 hL32 hm100
              go_wp2
              go_roundw
              case rel =>
                refine ⟨k + 1, unhide HKN, by rw [unhide HLK]; go_num, by rw [unhide HM2], ?_, hor⟩
                show Owns _ _ _ _
                rw [unhide hws2, unhide HWD]
                exact unhide HH
              case measure => have := unhide HME; simp [intOf]; omega
    · obtain rfl : k = N := by omega
      have h0 := (unhide hown).out
      rw [hlen, hN] at h0
      rw [hN]
      obtain ⟨g, cap2, rfl⟩ : ∃ g cap2, u3 = .slice (some ⟨g, 0, none⟩) (16 * m) cap2 := by
        have h := h0
        rw [show 16 * m = (16 * m - 1) + 1 by omega] at h ⊢
        exact ownsRow_succ h
      have hcap2 : 16 * m ≤ cap2 := by
        rcases h0.2 with ⟨e, _⟩ | ⟨g1, c1, cur, e, _, _, hc, _⟩
        · cases e
        · simp only [Value.slice.injEq] at e
          omega
      rw [hN] at hlen
      have HB := hide (blocks_any g 0 m cap2 (expd L key k).1 (by omega) hcap2 hlen wr (h0.lt g rfl).2 (fun j x hj => by
        have hj2 : j < 16 * m := by have := (List.getElem?_eq_some_iff.1 hj).1; omega
        have h := h0.cellAt j (by omega)
        rw [List.getElem?_map, hj] at h
        rw [Nat.zero_add]
        exact h))
      have hsz : w.heap.size ≤ wr.heap.size := (unhide hor).size
      have hge : ¬ (((16 * m : Nat) : Int) < 16 * ((R : Int) + 1)) := by omega
      have HSZ := hide hsz
      clear h0 hcap2 hlen hsz hN
      generalize hWW : (expd L key k).1 = WW at *
      have HWW := hide hWW
      clear hWW
      obtain ⟨Z, hZ⟩ : ∃ Z, Z = 16 * m := ⟨_, rfl⟩
      have hRb : (R : Int) ≤ 14 := by omega
      have hge2 : (16 : Int) * ((R : Int) + 1) ≤ (Z : Int) := by omega
      rw [← hZ] at HB ⊢
      clear hZ hge hRm hm
      go_wp2_with fail
      refine (unhide HB).mono ?_
      rintro e w9 ⟨v, rfl, hv, ho⟩
      have HV := hide hv
      have HO9 := hide ho
      clear hv ho
      go_wp2
      go_ret
      exact ⟨v, rfl, by rw [unhide HWW]; exact ownsRow_base (unhide HV) (unhide HSZ), (unhide hor).trans (unhide HO9) (fun _ _ e => e)⟩

end Ae
end Go.Proofs.Ytdmcnblnoiahcaa
