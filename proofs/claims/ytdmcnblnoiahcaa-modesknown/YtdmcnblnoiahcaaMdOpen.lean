/-
  modes.Open.
-/
import Derived.Test.YtdmcnblnoiahcaaMdSeal
import Derived.Test.YtdmcnblnoiahcaaMdA
namespace Go.Proofs.Ytdmcnblnoiahcaa
open Go.RowKit
set_option linter.unusedSimpArgs false
set_option linter.unusedVariables false
namespace Md
open Ae (upto upto_length blkOf blkOf_length zero16 Arr ag_one range_only after exec_load_mid step_store_mid Cip bflat added added_length)
attribute [local go_sem ↓] Md.execOp_loadBlk Md.execOp_rowBlk

/-- what a block that is opened is xored with -/
def ah (iv bs : List UInt8) (k : Nat) : List UInt8 := if k = 0 then iv else blkOf bs (k - 1)
/-- the first i blocks, opened -/
def opT (f : List UInt8 → List UInt8) (iv bs : List UInt8) : Nat → List UInt8
  | 0 => []
  | i + 1 => opT f iv bs i ++ added (f (blkOf bs i)) (ah iv bs i)
theorem ah_length (iv bs : List UInt8) (hv : iv.length = 16) (m : Nat) (hb : bs.length = 16 * m) (k : Nat) (hk : k ≤ m) : (ah iv bs k).length = 16 := by
  unfold ah
  split
  · exact hv
  · exact blkOf_length bs m (k - 1) hb (by omega)
theorem opT_length (f : List UInt8 → List UInt8) (hf : ∀ s, s.length = 16 → (f s).length = 16) (iv bs : List UInt8) (hv : iv.length = 16) (m : Nat) (hb : bs.length = 16 * m) (i : Nat) (hi : i ≤ m) : (opT f iv bs i).length = 16 * i := by
  induction i with
  | zero => rfl
  | succ i ih =>
    show (opT f iv bs i ++ added (f (blkOf bs i)) (ah iv bs i)).length = _
    rw [List.length_append, ih (by omega), added_length (hf _ (blkOf_length bs m i hb (by omega))) (ah_length iv bs hv m hb i (by omega))]
    omega
def fillsB (b : List UInt8) : Bool := decide (0 < b.length) && decide (b.length % 16 = 0)
def openU (key iv box : List UInt8) : List UInt8 := if fillsB box then unpadU (opT (openF key) iv box (box.length / 16)) else []
def openE (key iv box : List UInt8) : Int := if fillsB box then unpadE (opT (openF key) iv box (box.length / 16)) else 11

theorem step_append_run {P : Program} {w : World} {ops : Array Oper} {o : Oper} {a : Act} {K : Act → World → Prop} {Q : Exit → Act → World → Prop} {E : Prop} (hgd : o.guard = none) (s x : Operand) (t : TypeId)
    (ho : o.op = .call { callee := .builtin .append, args := #[s, x], argTypes := #[t, t] }) (v xv v' : Value) (w' : World) (hs : a.eval s = v) (hxv : a.eval x = xv)
    (hr : (Builtin.append_ #[t, t] o.type #[v, xv]).run P w = .ok v' w') (h : K (a.put o.dst v') w') : if Region.wanted o (yielded ops a.tmps) = true then Oper.wp P o a w K Q else E := by
  have hw : Region.wanted o (yielded ops a.tmps) = true := by simp [Region.wanted, hgd]
  rw [if_pos hw]
  unfold Oper.wp execOp
  simp only [ho, resolve, invoke, builtin, Sem.run_bind, Sem.run_pure, Result.andThen_ok, List.map_toArray, List.map_cons, List.map_nil, hs, hxv, hr]
  exact h

theorem step_rowBlk {w : World} {ops : Array Oper} {o : Oper} {a : Act} {K : Act → World → Prop} {Q : Exit → Act → World → Prop} {E : Prop} (hgd : o.guard = none) (x : Operand)
    (ho : o.op = .buildSlice 40 1 #[(0, x)]) (l : List UInt8) (hl : l.length = 16) (hx : a.eval x = .agg (l.map bv).toArray)
    (h : K (a.put o.dst (.slice (some ⟨w.heap.size, 0, none⟩) 1 1)) (w.alloc (.cells (l.map bv).toArray 37))) : if Region.wanted o (yielded ops a.tmps) = true then Oper.wp Try.prog o a w K Q else E := by
  have hw : Region.wanted o (yielded ops a.tmps) = true := by simp [Region.wanted, hgd]
  rw [if_pos hw]
  unfold Oper.wp execOp
  simp only [ho, List.map_toArray, List.map_cons, List.map_nil, hx, Sem.run_bind, buildSlice_blk l hl w, Result.andThen_ok, Sem.run_pure]
  exact h
theorem after2 {S : Nat → Prop} {a b : World} (o : Only (fun _ => False) a b) : Only S a b := o.mono (fun _ _ e => e.elim)

set_option maxRecDepth 100000 in
set_option maxHeartbeats 4000000 in
theorem openM_fine (key iv box : List UInt8) (h : keyB key) (hi : iv.length = 16) (hl : box.length ≤ 140737488355328) (kv vv tv : Value) (w : World) (hk : Has w kv key) (hv : Has w vv iv) (ht : Has w tv box) :
    Calls Try.prog 7 #[kv, vv, tv] w fun e w' => ∃ v, e = .returned (.tuple #[v, .int .i64 (openE key iv box)]) ∧ Has w' v (openU key iv box) ∧ Only (fun _ => False) w w' := by
  have HB := hide (begin_fine key iv h hi kv vv w hk hv)
  have HT := hide ht
  have HF : Hid (∀ W, Calls Try.prog 21 #[tv] W fun e w' => e = .returned (.bool (fillsB box)) ∧ w' = W) := by
    obtain ⟨ta, tc, rfl, _⟩ := ht.shape
    exact fun W => fills_any ta box.length tc W
  have HOE : Hid (openE key iv box = if fillsB box then unpadE (opT (openF key) iv box (box.length / 16)) else 11) := rfl
  have HOU : Hid (openU key iv box = if fillsB box then unpadU (opT (openF key) iv box (box.length / 16)) else []) := rfl
  have hfp : fillsB box = true → 0 < box.length ∧ box.length % 16 = 0 := fun e => by unfold fillsB at e; simpa using e
  have HFP := hide hfp
  clear hk hv ht hfp
  go_enter Try.func7, Try.ntmps7
  go_wp2_with fail
  refine (unhide HB).mono ?_
  rintro e w1 ⟨cb, rfl, hc, o1⟩
  have HC := hide hc
  have O1 := hide o1
  obtain ⟨wy, b9, ey, eb9, a9, o9⟩ := made16 w1 iv hi
  have ht2 : (w1.alloc (.cells (zero16.map bv).toArray 37)).there w1.heap.size 0 (iv.map bv).toArray.size := there16 (Arr.new w1 37 zero16 _ rfl) rfl hi
  have hz2 := size16s hi
  have HT2 := hide ht2
  have HZ2 := hide hz2
  clear hc o1 ht2 hz2
  go_upto_region 2 with (refine wpList_store_mid rfl 37 (.tmp 9) (.tmp 19) rfl w1.heap.size 0 (iv.map bv).toArray rfl rfl (unhide HT2) (unhide HZ2) (ag_one _) ?_)
  rw [Ae.zeros_eq, ← ey, ← eb9]
  have HNB : Hid (¬ b9 < w.heap.size) := by have := (unhide O1).size; show ¬ _; omega
  have A9 := hide a9
  have O9 := hide ((unhide O1).trans o9 (fun _ _ e => e))
  have HAC := hide (acts_open key h (unhide HC))
  have OY1 := hide o9
  have HB1 : Hid (w1.heap.size ≤ b9) := by show _ ≤ _; omega
  have HTY := hide ((unhide HT).only (unhide O9) (fun _ _ _ e => e))
  clear ey eb9 a9 o9 HT2 HZ2 HC O1 HB HT
  go_wp2_with fail
  refine (unhide HF _).mono ?_
  rintro e w1b ⟨rfl, hw1b⟩
  rw [hw1b]
  clear hw1b w1b
  by_cases hfb : fillsB box = true
  case neg =>
    rw [Bool.not_eq_true] at hfb
    rw [hfb]
    have HE2 : Hid (openE key iv box = 11) := by show _ = _; rw [unhide HOE, hfb]; rfl
    have HU2 : Hid (openU key iv box = []) := by show _ = _; rw [unhide HOU, hfb]; rfl
    clear hfb HOE HOU
    go_wp2
    go_ret2
    exact ⟨.slice none 0 0, (by rw [unhide HE2]; rfl), (by rw [unhide HU2]; exact Or.inl ⟨rfl, rfl⟩), unhide O9⟩
  case pos =>
    have HE2 : Hid (openE key iv box = unpadE (opT (openF key) iv box (box.length / 16))) := by show _ = _; rw [unhide HOE, hfb, if_pos rfl]
    have HU2 : Hid (openU key iv box = unpadU (opT (openF key) iv box (box.length / 16))) := by show _ = _; rw [unhide HOU, hfb, if_pos rfl]
    obtain ⟨hp0, hp16⟩ := unhide HFP hfb
    rw [hfb]
    have hml : box.length / 16 ≤ 8796093022208 := by omega
    have hmt : box.length = 16 * (box.length / 16) := by omega
    have HML := hide hml
    have HMT := hide hmt
    clear hfb HOE HOU hml hmt hp16 hp0 hl
    generalize box.length / 16 = m at *
    have hf : ∀ s, s.length = 16 → (openF key s).length = 16 := fun s hs => openF_length key h s hs
    have HOL := hide (fun k hk => opT_length (openF key) hf iv box hi m (unhide HMT) k hk)
    generalize openF key = f at *
    have HFL := hide hf
    clear hf h
    go_wp2_with fail
    refine (blocks_has m box (unhide HML) (unhide HMT) tv wy (unhide HTY)).mono ?_
    rintro e w2 ⟨v28, rfl, h28, y2⟩
    obtain ⟨ao, cap, rfl⟩ := ownsRow_shape h28
    have H28 := hide h28
    have A92 := hide ((unhide A9).only y2 (fun e => e))
    have O92 := hide ((unhide O9).trans y2 (fun _ _ e => e))
    have OY2 := hide ((unhide OY1).trans y2 (fun _ _ e => e))
    have hb2 : b9 < w2.heap.size := (unhide A92).lt
    have HB9 := hide (unhide A9).lt
    clear h28 y2 HTY O9 A9 OY1
    obtain ⟨B2, hB2⟩ : ∃ B2, B2 = w2.heap.size := ⟨_, rfl⟩
    have HB2 := hide hB2
    clear hB2
    go_wp2
    go_loopw [11, 13, 30] (fun s _ i wr => ∃ k : Nat, k ≤ m ∧ i = .int .i64 k ∧ Hid (wr.ownsRow B2 37 16 s k ((opT f iv box k).map bv)) ∧ Hid (Arr wr b9 37 (ah iv box k)) ∧ Hid (Only (fun j => j = b9) w2 wr)) (fun _ _ i _ => m - (intOf i).toNat)
    case atStart => exact ⟨0, Nat.zero_le _, rfl, World.ownsRow_nil _ _ _ _, A92, Only.refl _ _⟩
    case round =>
      rename World => wr
      obtain ⟨k, hk, rfl, hrow, har, hor⟩ := hrel
      by_cases hlt : k < m
      · obtain ⟨g, rfl⟩ : ∃ g, ao = some ⟨g, 0, none⟩ := by
          rcases (unhide H28).2 with ⟨e, _⟩ | ⟨g, c2, cur, e, _⟩
          · simp at e; omega
          · simp only [Value.slice.injEq] at e
            exact ⟨g, e.1⟩
        have hgl := (unhide H28).lt g rfl
        have hgn : g ≠ b9 := by have h2 := unhide HB9; omega
        obtain ⟨B, hB⟩ : ∃ B, B = blkOf box k := ⟨_, rfl⟩
        have hBl : B.length = 16 := by rw [hB]; exact blkOf_length box m k (unhide HMT) hlt
        have hrg : wr.rangeAt g (k * 16) (B.map bv) := by
          rw [hB]
          exact range_only (row_range (f := fun k => (blkOf box k).map bv) (xs := upto m) (unhide H28) (fun x hx => by have : x < m := List.mem_range.1 hx; rw [List.length_map, blkOf_length box m x (unhide HMT) this]) (upto_length m) k k (by simp [upto, hlt])) (unhide hor) hgn
        have hld := loadM hrg hBl
        obtain ⟨C, hC⟩ : ∃ C, C = ah iv box k := ⟨_, rfl⟩
        have hCl : C.length = 16 := by rw [hC]; exact ah_length iv box hi m (unhide HMT) k hk
        rw [← hC] at har
        have hN1 : Hid (ah iv box (k + 1) = B) := by show _ = _; rw [hB]; unfold ah; rw [if_neg (by omega)]; rfl
        have hN2 : Hid (opT f iv box (k + 1) = opT f iv box k ++ added (f B) C) := by rw [hB, hC]; rfl
        have hfl := unhide HFL B hBl
        have hal := added_length hfl hCl
        have hrl := (unhide hrow).lt
        have hor1 := (unhide hor).size
        obtain ⟨wq, b13, ey, eb13, a13, o13⟩ := made16 wr B hBl
        have ht2 : (wr.alloc (.cells (zero16.map bv).toArray 37)).there wr.heap.size 0 (B.map bv).toArray.size := there16 (Arr.new wr 37 zero16 _ rfl) rfl hBl
        have hz2 := size16s hBl
        have HRL := hide hrl
        have HAL := hide hal
        have HFB := hide hfl
        have HBL := hide hBl
        have HCL := hide hCl
        have HT2 := hide ht2
        have HZ2 := hide hz2
        have hkm : (k : Int) < (m : Int) := by omega
        have hne13 : ¬ (Value.ownBlock u11 = some b13) := fun e => by have := (hrl b13 e).2; omega
        have hne9 : ¬ (Value.ownBlock u11 = some b9) := fun e => by have := (hrl b9 e).1; have := unhide HB2; omega
        clear hB hC hfl hal hrg ht2 hz2 hrl
        go_upto_region 10 with (refine wpList_store_mid rfl 37 (.tmp 13) (.tmp 33) rfl wr.heap.size 0 (B.map bv).toArray rfl rfl (unhide HT2) (unhide HZ2) (ag_one _) ?_)
        rw [Ae.zeros_eq, ← ey, ← eb13]
        have A13 := hide a13
        have A9q := hide ((unhide har).only o13 (fun e => e))
        have HROW := hide (o13.owns (unhide hrow) (fun _ _ e => e))
        have OWQ := hide o13
        have O1Q : Hid (Only (fun _ => False) w1 wq) := ((unhide OY2).trans (unhide hor) (fun j hj e => by have := unhide HB1; omega)).trans o13 (fun _ _ e => e)
        clear ey eb13 a13 o13 HT2 HZ2 hld har hrow hBl hCl
        go_wp2_with fail
        refine wp_region_held_drew (S := (fun w' => Only (fun j => Value.ownBlock u11 = some j) wq w')) (by kernel_rfl) ((Only.refl _ _).drew) (fun hHeld => ?_)
        refine wpAnyH_take (i := 0) (v := ?v21) rfl (by kernel_rfl) (by kernel_rfl) (by kernel_rfl) (fun _ _ _ h => h) (Or.inl ⟨by rfl, ?hy21⟩) (by assumption) ?rest21
        case hy21 =>
          intro w hSw
          go_simp
          try with_reducible rfl
        try simp only [Act.put, List.setIfInBounds_toArray, List.set_cons_zero, List.set_cons_succ, List.getElem_toArray, List.getElem_cons_succ, List.getElem_cons_zero]
        refine wpAnyH_take (i := 1) (v := ?v22) rfl (by kernel_rfl) (by kernel_rfl) (by kernel_rfl) (fun _ _ _ h => h) (Or.inl ⟨by rfl, ?hy22⟩) (by assumption) ?rest22
        case hy22 =>
          intro w hSw
          go_simp
          try with_reducible rfl
        try simp only [Act.put, List.setIfInBounds_toArray, List.set_cons_zero, List.set_cons_succ, List.getElem_toArray, List.getElem_cons_succ, List.getElem_cons_zero]
        refine wpAnyH_take (i := 2) (v := ?v23) rfl (by kernel_rfl) (by kernel_rfl) (by kernel_rfl) (fun _ _ _ h => h) (Or.inl ⟨by rfl, ?hy23⟩) (by assumption) ?rest23
        case hy23 =>
          intro w hSw
          (refine exec_load_mid 37 (.tmp 13) ?_ b13 0 ?_ (B.map bv) _ (range_only (unhide A13).range hSw hne13) Try.underMB rfl (by rw [Try.sizeMB]; simp [unhide HBL]) <;> rfl)
        try simp only [Act.put, List.setIfInBounds_toArray, List.set_cons_zero, List.set_cons_succ, List.getElem_toArray, List.getElem_cons_succ, List.getElem_cons_zero]
        refine wpAnyH_take (i := 4) (v := ?v24) rfl (by kernel_rfl) (by kernel_rfl) (by kernel_rfl) (fun _ _ _ h => h) (Or.inl ⟨by rfl, ?hy24⟩) (by assumption) ?rest24
        case hy24 =>
          intro w hSw
          (refine exec_load_mid 37 (.tmp 9) ?_ b9 0 ?_ (C.map bv) _ (range_only (unhide A9q).range hSw hne9) Try.underMB rfl (by rw [Try.sizeMB]; simp [unhide HCL]) <;> rfl)
        try simp only [Act.put, List.setIfInBounds_toArray, List.set_cons_zero, List.set_cons_succ, List.getElem_toArray, List.getElem_cons_succ, List.getElem_cons_zero]
        refine wpAnyH_ready (rs := [3]) (by kernel_rfl) (by simp) ?_
        refine AllReadyH.cons rfl (fun K hK => ?_) AllReadyH.nil
        go_simp
        go_wp2_with fail; refine (unhide HAC B _ (unhide HBL) ((unhide O1Q).drew)).mono ?_; rintro e x1 ⟨rfl, y1⟩; have Q1 : Hid (Only (fun _ => False) wq x1) := ((Only.refl (fun _ => False) wq).drew).trans y1 (fun _ _ e => e); clear y1
        refine hK.out _ _ ((after2 (unhide Q1))) (fun hHeld => ?_)
        clear hK K
        try simp only [Act.put, List.setIfInBounds_toArray, List.set_cons_zero, List.set_cons_succ, List.getElem_toArray, List.getElem_cons_succ, List.getElem_cons_zero]
        refine wpAnyH_ready (rs := [5]) (by kernel_rfl) (by simp) ?_
        refine AllReadyH.cons rfl (fun K hK => ?_) AllReadyH.nil
        go_simp
        go_wp2_with fail; refine (xored_any (f B) C x1 (unhide HFB) (unhide HCL)).mono ?_; rintro e x2 ⟨rfl, y2⟩; have Q2 : Hid (Only (fun _ => False) wq x2) := (unhide Q1).trans y2 (fun _ _ e => e); clear y2
        refine hK.out _ _ ((after2 (unhide Q2))) (fun hHeld => ?_)
        clear hK K
        try simp only [Act.put, List.setIfInBounds_toArray, List.set_cons_zero, List.set_cons_succ, List.getElem_toArray, List.getElem_cons_succ, List.getElem_cons_zero]
        obtain ⟨D, hD⟩ : ∃ D, D = added (f B) C := ⟨_, rfl⟩
        rw [← hD] at HAL hN2 ⊢
        clear hD
        obtain ⟨g2, cap2, x3, hrun, own2, op2⟩ := push16 x2 B2 u11 k (opT f iv box k) D (unhide HAL) ((unhide Q2).owns (unhide HROW) (fun _ _ e => e)) (by have := unhide HML; omega) (by have h1 := (unhide Q2).size; have h2 := (unhide OWQ).size; have := unhide HB2; omega)
        have HRUN := hide hrun
        have OWN2 : Hid (x3.ownsRow B2 37 16 (.slice (some ⟨g2, 0, none⟩) (k + 1) cap2) (k + 1) ((opT f iv box (k + 1)).map bv)) := by rw [unhide hN2]; exact own2
        have OX3 : Hid (Only (fun j => Value.ownBlock u11 = some j) wq x3) := (after2 (unhide Q2)).trans op2 (fun _ _ e => e)
        clear hrun own2 op2
        refine wpAnyH_ready (rs := [6]) (by kernel_rfl) (by simp) ?_
        refine AllReadyH.cons rfl (fun K hK => ?_) AllReadyH.nil
        refine step_rowBlk rfl (.tmp 39) rfl D (unhide HAL) rfl ?_
        refine hK.out _ _ (((after2 (unhide Q2)).alloc _)) (fun hHeld => ?_)
        clear hK K
        try simp only [Act.put, List.setIfInBounds_toArray, List.set_cons_zero, List.set_cons_succ, List.getElem_toArray, List.getElem_cons_succ, List.getElem_cons_zero]
        refine wpAnyH_ready (rs := [7]) (by kernel_rfl) (by simp) ?_
        refine AllReadyH.cons rfl (fun K hK => ?_) AllReadyH.nil
        refine step_append_run rfl (.tmp 34) (.tmp 40) 40 rfl _ _ _ _ rfl rfl (unhide HRUN) ?_
        refine hK.out _ _ ((unhide OX3)) (fun hHeld => ?_)
        clear hK K
        try simp only [Act.put, List.setIfInBounds_toArray, List.set_cons_zero, List.set_cons_succ, List.getElem_toArray, List.getElem_cons_succ, List.getElem_cons_zero]
        refine wpAnyH_take (i := 8) (v := ?v25) rfl (by kernel_rfl) (by kernel_rfl) (by kernel_rfl) (fun _ _ _ h => h) (Or.inl ⟨by rfl, ?hy25⟩) (by assumption) ?rest25
        case hy25 =>
          intro w hSw
          go_simp
          try with_reducible rfl
        try simp only [Act.put, List.setIfInBounds_toArray, List.set_cons_zero, List.set_cons_succ, List.getElem_toArray, List.getElem_cons_succ, List.getElem_cons_zero]
        refine wpAnyH_done (by kernel_rfl) ?_ _
        have A13x := hide ((unhide A13).only (unhide OX3) hne13)
        have A9x := hide ((unhide A9q).only (unhide OX3) hne9)
        have hl13 := loadM (unhide A13x).range (unhide HBL)
        have ht3 := there16 (unhide A9x) (unhide HCL) (unhide HBL)
        have hz3 := size16s (unhide HBL)
        have HT3 := hide ht3
        have HZ3 := hide hz3
        obtain ⟨wz, ez, az, oz⟩ := restored x3 b9 C B (unhide A9x) (by rw [unhide HBL, unhide HCL])
        clear ht3 hz3
        go_upto_region 12 with (refine wpList_store_mid rfl 37 (.tmp 9) (.tmp 42) rfl b9 0 (B.map bv).toArray rfl rfl (unhide HT3) (unhide HZ3) (ag_one _) ?_)
        first
          | rw [← ez]
          | (simp only [List.toList_toArray]; rw [← ez])
        have OWZ := hide (oz.owns (unhide OWN2) (fun j hj e => by have h1 := ((unhide OWN2).lt j hj).1; have := unhide HB2; omega))
        have AZ := hide az
        have OZ : Hid (Only (fun j => j = b9) w2 wz) := by
          have h1 : Only (fun j => j = b9) w2 wq := (unhide hor).trans (unhide OWQ) (fun _ _ e => e.elim)
          have h2 := h1.trans (unhide OX3) (fun j hj e => by have := (unhide HRL j e).1; have := unhide HB2; omega)
          exact h2.trans oz (fun _ _ e => e)
        have hmb : m ≤ 8796093022208 := unhide HML
        clear ez az oz OX3 OWN2 A13x A9x hl13 HT3 HZ3 HRUN Q1 Q2 O1Q OWQ HROW A9q A13 hor
        go_wp2
        go_roundw
        case rel => exact ⟨k + 1, by omega, by go_num, OWZ, by rw [unhide hN1]; exact AZ, OZ⟩
        case measure => simp [intOf]; omega
      · obtain rfl : k = m := by omega
        have OW : Hid (Only (fun _ => False) w wr) := (unhide O92).trans (unhide hor) (fun j hj e => by have := unhide HNB; omega)
        have hl := unhide HOL k (Nat.le_refl _)
        have HLN := hide hl
        have HBK := hide (Blks.ofOwns hl (by rw [bflat_all _ _ hl]; exact unhide hrow))
        clear hl hrow har
        go_wp2_with fail
        refine (join_any k _ (unhide HLN) (unhide HML) _ wr (unhide HBK)).mono ?_
        rintro e z1 ⟨vj, rfl, hj, yj⟩
        have HJ := hide (Has.ofOwns hj)
        have OJ := hide ((unhide OW).trans yj (fun _ _ e => e))
        clear hj yj
        go_wp2_with fail
        refine (unpad_any vj _ z1 (unhide HJ) (by rw [unhide HLN]; have := unhide HML; omega)).mono ?_
        rintro e z2 ⟨vu, rfl, hu, yu⟩
        have HU := hide hu
        have OU := hide ((unhide OJ).trans yu (fun _ _ e => e))
        clear hu yu
        go_wp2
        go_ret2
        exact ⟨vu, (by rw [unhide HE2]; rfl), (by rw [unhide HU2]; exact unhide HU), unhide OU⟩

set_option maxRecDepth 100000 in
set_option maxHeartbeats 2000000 in
theorem openM_not (key iv : List UInt8) (h : ¬ (keyB key ∧ iv.length = 16)) (kv vv tv : Value) (w : World) (hk : Has w kv key) (hv : Has w vv iv) :
    Calls Try.prog 7 #[kv, vv, tv] w fun e w' => e = .returned (.tuple #[.slice none 0 0, .int .i64 1]) ∧ Only (fun _ => False) w w' := by
  obtain ⟨Z, hZ⟩ : ∃ Z : List UInt8, Z = zero16 := ⟨_, rfl⟩
  have HB := hide (begin_not key iv h kv vv w hk hv)
  rw [← hZ] at HB
  have hz16 : Z.length = 16 := by rw [hZ]; rfl
  clear hk hv h hZ
  go_enter Try.func7, Try.ntmps7
  go_wp2_with fail
  refine (unhide HB).mono ?_
  rintro e w1 ⟨rfl, o1⟩
  have O1 := hide o1
  obtain ⟨wy, b9, ey, eb9, a9, o9⟩ := made16 w1 Z hz16
  have ht2 : (w1.alloc (.cells (zero16.map bv).toArray 37)).there w1.heap.size 0 (Z.map bv).toArray.size := there16 (Arr.new w1 37 zero16 _ rfl) rfl hz16
  have hz2 := size16s hz16
  have HT2 := hide ht2
  have HZ2 := hide hz2
  clear o1 ht2 hz2
  go_upto_region 2 with (refine wpList_store_mid rfl 37 (.tmp 9) (.tmp 19) rfl w1.heap.size 0 (Z.map bv).toArray rfl rfl (unhide HT2) (unhide HZ2) (ag_one _) ?_)
  rw [Ae.zeros_eq, ← ey, ← eb9]
  have O9 := hide ((unhide O1).trans o9 (fun _ _ e => e))
  clear ey eb9 a9 o9
  go_wp2
  go_ret2
  exact ⟨rfl, unhide O9⟩

end Md
end Go.Proofs.Ytdmcnblnoiahcaa
