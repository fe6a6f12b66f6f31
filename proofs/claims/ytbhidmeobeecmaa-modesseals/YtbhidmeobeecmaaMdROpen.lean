/-
  locksmithref8: Open.
-/
import Derived.Test.YtbhidmeobeecmaaMdRSeal
import Derived.Test.YtbhidmeobeecmaaMdOpen
namespace Go.Proofs.Ytbhidmeobeecmaa
open Go.RowKit
set_option linter.unusedSimpArgs false
set_option linter.unusedVariables false
namespace Md
open Ae (zero16 Arr ag_one range_only after exec_load_mid step_store_mid RCip added added_length blkOf blkOf_length)

set_option maxRecDepth 100000 in
set_option maxHeartbeats 4000000 in
theorem ropenM_fine (key iv box : List UInt8) (h : keyB key) (hi : iv.length = 16) (hl : box.length ≤ 140737488355328) (kv vv tv : Value) (w : World) (hk : Has w kv key) (hv : Has w vv iv) (ht : Has w tv box) :
    Calls Try.prog 21 #[kv, vv, tv] w fun e w' => ∃ v, e = .returned (.tuple #[v, .int .i64 (openE key iv box)]) ∧ Has w' v (openU key iv box) ∧ Only (fun _ => False) w w' := by
  obtain ⟨i0, hi0, hz0, hz1, hz2⟩ := info_parts Try.info5
  obtain ⟨ia, ic, hvs, _⟩ := hv.shape
  subst hvs
  rw [hi] at hv ⊢
  obtain ⟨ba, bc, hts, hbc, _⟩ := ht.shape
  subst hts
  have HN := hide (rnew_fine key h kv w hk)
  have HT := hide ht
  have HV := hide hv
  have HOE : Hid (openE key iv box = if fillsB box then unpadE (opT (openF key) iv box (box.length / 16)) else 11) := rfl
  have HOU : Hid (openU key iv box = if fillsB box then unpadU (opT (openF key) iv box (box.length / 16)) else []) := rfl
  have hm1 : (box.length : Int).tmod 16 = ((box.length % 16 : Nat) : Int) := by rw [Int.tmod_eq_emod_of_nonneg (by omega)]; omega
  have hm2 : (box.length : Int) % 16 = ((box.length % 16 : Nat) : Int) := by omega
  have hf : ∀ s, s.length = 16 → (openF key s).length = 16 := fun s hs => openF_length key h s hs
  have HF := hide hf
  clear hk hv ht hf
  go_enter Try.func21, Try.ntmps21
  go_wp2_with fail
  refine (unhide HN).mono ?_
  rintro e w1 ⟨cb, rfl, hc, o1⟩
  have HAC := hide (racts_open key h hc)
  have O1 := hide o1
  have HT1 := hide ((unhide HT).only o1 (fun _ _ _ e => e))
  have HV1 := hide ((unhide HV).only o1 (fun _ _ _ e => e))
  clear hc o1 HN HT HV
  by_cases h0 : box.length = 0
  · have hfb : fillsB box = false := by unfold fillsB; rw [h0]; rfl
    have HE2 : Hid (openE key iv box = 11) := by show _ = _; rw [unhide HOE, hfb]; rfl
    have HU2 : Hid (openU key iv box = []) := by show _ = _; rw [unhide HOU, hfb]; rfl
    have h0b : ((box.length : Int) == 0) = true := by rw [h0]; rfl
    clear hfb HOE HOU hm1 hm2 h0
    generalize box.length = bl at *
    go_wp2
    go_ret2
    exact ⟨.slice none 0 0, (by rw [unhide HE2]; rfl), (by rw [unhide HU2]; exact Or.inl ⟨rfl, rfl⟩), unhide O1⟩
  by_cases h16 : box.length % 16 = 0
  case neg =>
    have hfb : fillsB box = false := by unfold fillsB; rw [show decide (box.length % 16 = 0) = false by simpa using h16]; simp
    have HE2 : Hid (openE key iv box = 11) := by show _ = _; rw [unhide HOE, hfb]; rfl
    have HU2 : Hid (openU key iv box = []) := by show _ = _; rw [unhide HOU, hfb]; rfl
    have h0b : ((box.length : Int) == 0) = false := by rw [beq_eq_false_iff_ne]; omega
    have hr0 : 0 < box.length % 16 := Nat.pos_of_ne_zero h16
    have hr' : (0 : Int) < ((box.length % 16 : Nat) : Int) := Int.natCast_pos.2 hr0
    have hr15 : box.length % 16 < 16 := Nat.mod_lt _ (by decide)
    clear hfb HOE HOU h0 h16
    generalize box.length % 16 = r at *
    generalize box.length = bl at *
    go_wp2
    go_ret2
    exact ⟨.slice none 0 0, (by rw [unhide HE2]; rfl), (by rw [unhide HU2]; exact Or.inl ⟨rfl, rfl⟩), unhide O1⟩
  case pos =>
    have hfb : fillsB box = true := by unfold fillsB; simp; omega
    have HE2 : Hid (openE key iv box = unpadE (opT (openF key) iv box (box.length / 16))) := by show _ = _; rw [unhide HOE, hfb, if_pos rfl]
    have HU2 : Hid (openU key iv box = unpadU (opT (openF key) iv box (box.length / 16))) := by show _ = _; rw [unhide HOU, hfb, if_pos rfl]
    have h0b : ((box.length : Int) == 0) = false := by rw [beq_eq_false_iff_ne]; omega
    have hmt : box.length = 16 * (box.length / 16) := by omega
    have hml : box.length / 16 ≤ 8796093022208 := by omega
    have hm0 : 0 < box.length / 16 := by omega
    rw [h16] at hm1 hm2
    clear hfb HOE HOU h16 h0
    have HML := hide hml
    have HMT := hide hmt
    generalize box.length / 16 = m at *
    generalize openF key = f at *
    obtain ⟨pg, po, rfl, _, _⟩ := (unhide HT1).at (by omega)
    have hpc : 16 * m ≤ bc := by omega
    clear hmt hml
    go_wp2_with fail
    refine (rblock_any _ iv w1 (unhide HV1)).mono ?_
    rintro e w3 ⟨rfl, o3⟩
    rw [ivS_self iv hi]
    obtain ⟨wy, b10, ey, eb, a10, oy⟩ := fresh16 w3 iv hi
    have HT2 := hide (Ae.there16 (Arr.new w3 41 zero16 _ rfl) rfl hi)
    have HZ2 := hide (Ae.size16s hi)
    have O3 := hide ((unhide O1).trans o3 (fun _ _ e => e))
    have O13 := hide o3
    have hsz3 := (unhide O3).size
    have hpg3 : pg < w3.heap.size := Nat.lt_of_lt_of_le ((unhide HT1).blk_lt (by intro e; have := unhide HMT; rw [e] at this; simp at this; omega) pg rfl) o3.size
    clear o3
    go_upto_region 7 with (refine wpList_store_mid rfl 41 (.tmp 10) (.tmp 37) rfl w3.heap.size 0 (iv.map bv).toArray rfl rfl (unhide HT2) (unhide HZ2) (ag_one _) ?_)
    rw [Ae.zeros_eq, ← ey, ← eb]
    have A10 := hide a10
    have OY := hide ((unhide O3).trans oy (fun _ _ e => e))
    have HPY := hide (((unhide HT1).only (unhide O13) (fun _ _ _ e => e)).only oy (fun _ _ _ e => e))
    have HAY := hide ((unhide HAC).new (unhide O13))
    have HB10 : Hid (w3.heap.size ≤ b10) := by show _ ≤ _; omega
    have HW3 := hide hsz3
    have O3Y := hide oy
    have HPG := hide hpg3
    clear ey eb a10 oy HT2 HZ2 HAC hsz3 hpg3 HT1 HV1
    obtain ⟨B2, hB2⟩ : ∃ B2, B2 = wy.heap.size := ⟨_, rfl⟩
    have hb10y : b10 < wy.heap.size := (unhide A10).lt
    have HBY := hide hb10y
    have HB2 := hide hB2
    clear hB2 hb10y
    have HMT2 := unhide HMT
    have hbl2 : box.length = 16 * m := HMT2
    rw [hbl2]
    have hbi : (box.length : Int) = 16 * (m : Int) := by omega
    clear HMT2 hbl2
    go_wp2
    go_loopw [11, 12, 13, 14] (fun s i _ _ wr => ∃ k : Nat, k ≤ m ∧ i = .int .i64 (16 * (k : Int)) ∧ Hid (wr.ownsRow B2 5 1 s (16 * k) ((opT f iv box k).map bv)) ∧ Hid (Arr wr b10 41 (ah iv box k)) ∧ Hid (Only (fun j => j = b10) wy wr)) (fun _ i _ _ _ => 16 * m - (intOf i).toNat)
    case atStart => exact ⟨0, Nat.zero_le _, rfl, World.ownsRow_nil _ _ _ _, A10, Only.refl _ _⟩
    case round =>
      rename World => wr
      obtain ⟨k, hkm, rfl, hrow, har, hor⟩ := hrel
      by_cases hlt : k < m
      · obtain ⟨C, hC⟩ : ∃ C, C = ah iv box k := ⟨_, rfl⟩
        have hCl : C.length = 16 := by rw [hC]; exact ah_length iv box hi m (unhide HMT) k hkm
        obtain ⟨B, hB⟩ : ∃ B, B = blkOf box k := ⟨_, rfl⟩
        have hBl : B.length = 16 := by rw [hB]; exact blkOf_length box m k (unhide HMT) hlt
        rw [← hC] at har
        have hN1 : Hid (ah iv box (k + 1) = B) := by show _ = _; rw [hB]; unfold ah; rw [if_neg (by omega)]; rfl
        have hN2 : Hid (opT f iv box (k + 1) = opT f iv box k ++ added C (f B)) := by rw [hB, hC, added_comm]; rfl
        have hfl := unhide HF B hBl
        have hal := added_length hCl hfl
        obtain ⟨p, hp⟩ : ∃ p, p = 16 * k := ⟨_, rfl⟩
        obtain ⟨q, hq⟩ : ∃ q, q = p + 16 := ⟨_, rfl⟩
        have hmb := unhide HML
        have M2 : Hid (IntKind.i64.wrap ((p : Int) + 16) = (q : Int)) := by show _ = _; rw [wrap_small _ (by omega) (by omega)]; omega
        have hq2 : (p : Int) + 16 = (q : Int) := by omega
        have M1 : Hid ((16 * (k : Int)) = (p : Int)) := by show _ = _; omega
        have hpr : Has wr (.slice (some ⟨pg, po, none⟩) box.length bc) box := (unhide HPY).only (unhide hor) (fun _ j hj e => by
          have hj' : some pg = some j := hj
          have h1 := unhide HPG
          have h2 := unhide HB10
          simp at hj'
          omega)
        have hmid : Has wr (.slice (some ⟨pg, po + p, none⟩) 16 (bc - p)) B := by
          have h1 := Has.mid hpr (n := 16) p (by rw [unhide HMT]; omega) (by decide)
          rw [hB]
          rw [hp] at h1 ⊢
          exact h1
        have HMID := hide hmid
        have O1R : Hid (Only (fun _ => False) w3 wr) := (unhide O3Y).trans (unhide hor) (fun j hj e => by have := unhide HB10; omega)
        have hsub : q - p = 16 := by omega
        have hpq : p ≤ q := by omega
        have hqk : (q : Int) ≤ (bc : Int) := by omega
        have hnep : ¬ bc = p := by omega
        have hkI : 16 * (k : Int) < 16 * (m : Int) := by omega
        have hp16 : (p : Int) < 16 * (m : Int) := by omega
        have hpb : p ≤ 140737488355328 := by omega
        have HCL := hide hCl
        have HBL := hide hBl
        have HAL := hide hal
        have HFL := hide hfl
        have HPK := hide hp
        clear hC hB hCl hBl hal hfl hpr hmid hp hq
        rw [unhide M1]
        go_wp2_with fail
        refine (rblock_any _ B _ (unhide HMID)).mono ?_
        rintro e x1 ⟨rfl, y1⟩
        rw [ivS_self B (unhide HBL)]
        obtain ⟨wq, b13, eq, eb13, a13, oq⟩ := fresh16 x1 B (unhide HBL)
        have HT3 := hide (Ae.there16 (Arr.new x1 41 zero16 _ rfl) rfl (unhide HBL))
        have HZ3 := hide (Ae.size16s (unhide HBL))
        have Y1 := hide y1
        clear y1
        go_upto_region 12 with (refine wpList_store_mid rfl 41 (.tmp 13) (.tmp 49) rfl x1.heap.size 0 (B.map bv).toArray rfl rfl (unhide HT3) (unhide HZ3) (ag_one _) ?_)
        rw [Ae.zeros_eq, ← eq, ← eb13]
        have HB13 : Hid (wr.heap.size ≤ b13) := by have h1 := (unhide Y1).size; show _ ≤ _; omega
        have A13 := hide a13
        have hY1s := (unhide Y1).size
        have ORQ := hide ((unhide Y1).trans oq (fun _ _ e => e))
        have O1Q : Hid (Only (fun _ => False) w3 wq) := (unhide O1R).trans (unhide ORQ) (fun _ _ e => e)
        have A10q := hide ((unhide har).only (unhide ORQ) (fun e => e))
        clear eq eb13 a13 oq HT3 HZ3
        go_wp2_with fail
        refine wp_region_last_drew (S := (fun w' => Only (fun _ => False) wq w')) 6 (by kernel_rfl) ((Only.refl _ _).drew) (fun hHeld => ?_)
        refine wpAnyL_take (i := 0) (v := ?v1) rfl (by kernel_rfl) (by kernel_rfl) (by kernel_rfl) (by kernel_rfl) (fun _ _ _ h => h) (Or.inl ⟨by rfl, ?hy1⟩) (by assumption) ?rest1
        case hy1 =>
          intro w hSw
          (refine exec_load_mid 41 (.tmp 10) ?_ b10 0 ?_ (C.map bv) _ (range_only (unhide A10q).range hSw (fun e => e)) Ae.Try.under16 rfl (by rw [Ae.Try.size16]; simp [unhide HCL]) <;> rfl)
        try simp only [Act.put, List.setIfInBounds_toArray, List.set_cons_zero, List.set_cons_succ, List.getElem_toArray, List.getElem_cons_succ, List.getElem_cons_zero]
        refine wpAnyL_take (i := 1) (v := ?v2) rfl (by kernel_rfl) (by kernel_rfl) (by kernel_rfl) (by kernel_rfl) (fun _ _ _ h => h) (Or.inl ⟨by rfl, ?hy2⟩) (by assumption) ?rest2
        case hy2 =>
          intro w hSw
          go_simp
          try with_reducible rfl
        try simp only [Act.put, List.setIfInBounds_toArray, List.set_cons_zero, List.set_cons_succ, List.getElem_toArray, List.getElem_cons_succ, List.getElem_cons_zero]
        refine wpAnyL_take (i := 2) (v := ?v3) rfl (by kernel_rfl) (by kernel_rfl) (by kernel_rfl) (by kernel_rfl) (fun _ _ _ h => h) (Or.inl ⟨by rfl, ?hy3⟩) (by assumption) ?rest3
        case hy3 =>
          intro w hSw
          (refine exec_load_mid 41 (.tmp 13) ?_ b13 0 ?_ (B.map bv) _ (range_only (unhide A13).range hSw (fun e => e)) Ae.Try.under16 rfl (by rw [Ae.Try.size16]; simp [unhide HBL]) <;> rfl)
        try simp only [Act.put, List.setIfInBounds_toArray, List.set_cons_zero, List.set_cons_succ, List.getElem_toArray, List.getElem_cons_succ, List.getElem_cons_zero]
        refine wpAnyL_ready (rs := [3, 5]) (by kernel_rfl) (by simp) ?_
        refine (AllReadyL.cons rfl (fun K hK => ?_) (AllReadyL.cons rfl (fun K hK => ?_) AllReadyL.nil))
        · skip
          go_simp
          go_wp2_with fail; refine (unhide HAY B _ (unhide HBL) ((unhide O1Q).drew)).mono ?_; rintro e x3 ⟨rfl, y3⟩; have Q3 : Hid (Only (fun _ => False) wq x3) := ((Only.refl (fun _ => False) wq).drew).trans y3 (fun _ _ e => e); clear y3
          refine hK.out _ _ ((unhide Q3)) (fun hHeld => ?_)
          clear hK K
          try simp only [Act.put, List.setIfInBounds_toArray, List.set_cons_zero, List.set_cons_succ, List.getElem_toArray, List.getElem_cons_succ, List.getElem_cons_zero]
          refine wpAnyL_ready (rs := [4, 5]) (by kernel_rfl) (by simp) ?_
          refine (AllReadyL.cons rfl (fun K hK => ?_) (AllReadyL.cons rfl (fun K hK => ?_) AllReadyL.nil))
          · skip
            go_simp
            go_wp2_with fail; refine (rxor_any C (f B) _ (unhide HCL) (unhide HFL)).mono ?_; rintro e x4 ⟨rfl, y4⟩; have Q4 : Hid (Only (fun _ => False) wq x4) := (unhide Q3).trans y4 (fun _ _ e => e); clear y4
            refine hK.out _ _ ((unhide Q4)) (fun hHeld => ?_)
            clear hK K
            try simp only [Act.put, List.setIfInBounds_toArray, List.set_cons_zero, List.set_cons_succ, List.getElem_toArray, List.getElem_cons_succ, List.getElem_cons_zero]
            obtain ⟨b14, hb14⟩ : ∃ b14, b14 = x4.heap.size := ⟨_, rfl⟩
            have A14 : Hid (Arr (x4.alloc (.cells #[Value.int IntKind.u8 0, Value.int IntKind.u8 0, Value.int IntKind.u8 0, Value.int IntKind.u8 0, Value.int IntKind.u8 0, Value.int IntKind.u8 0, Value.int IntKind.u8 0, Value.int IntKind.u8 0, Value.int IntKind.u8 0, Value.int IntKind.u8 0, Value.int IntKind.u8 0, Value.int IntKind.u8 0, Value.int IntKind.u8 0, Value.int IntKind.u8 0, Value.int IntKind.u8 0, Value.int IntKind.u8 0] 41)) b14 41 zero16) := by rw [hb14]; exact Arr.new x4 _ zero16 _ rfl
            have HB14 : Hid (wr.heap.size ≤ b14) := by have h1 := (unhide ORQ).size; have h2 := (unhide Q4).size; show _ ≤ _; omega
            have HB14q : Hid (wq.heap.size ≤ b14) := by have h2 := (unhide Q4).size; show _ ≤ _; omega
            refine wpAnyL_ready (rs := [5]) (by kernel_rfl) (by simp) ?_
            refine AllReadyL.cons rfl (fun K hK => ?_) AllReadyL.nil
            go_simp
            refine hK.out _ _ ((((unhide Q4)).alloc _)) (fun hHeld => ?_)
            clear hK K
            try simp only [Act.put, List.setIfInBounds_toArray, List.set_cons_zero, List.set_cons_succ, List.getElem_toArray, List.getElem_cons_succ, List.getElem_cons_zero]
            rw [← hb14]
            have QX := hide ((unhide Q4).alloc (.cells #[Value.int IntKind.u8 0, Value.int IntKind.u8 0, Value.int IntKind.u8 0, Value.int IntKind.u8 0, Value.int IntKind.u8 0, Value.int IntKind.u8 0, Value.int IntKind.u8 0, Value.int IntKind.u8 0, Value.int IntKind.u8 0, Value.int IntKind.u8 0, Value.int IntKind.u8 0, Value.int IntKind.u8 0, Value.int IntKind.u8 0, Value.int IntKind.u8 0, Value.int IntKind.u8 0, Value.int IntKind.u8 0] 41))
            clear hb14
            generalize x4.alloc _ = xx at *
            have HT4 := hide (Ae.there16 (unhide A14) rfl (unhide HAL))
            have HZ4 := hide (Ae.size16s (unhide HAL))
            refine wpAnyL_ready (rs := [6]) (by kernel_rfl) (by simp) ?_
            refine AllReadyL.last rfl (fun K hK => ?_)
            refine step_store_mid rfl 41 (.tmp 14) (.tmp 54) rfl b14 0 ((added C (f B)).map bv).toArray rfl rfl (unhide HT4) (unhide HZ4) (ag_one _) ?_
            refine hK.out _ _ (trivial) (fun hHeld => ?_)
            clear hK K
            try simp only [Act.put, List.setIfInBounds_toArray, List.set_cons_zero, List.set_cons_succ, List.getElem_toArray, List.getElem_cons_succ, List.getElem_cons_zero]
            refine wpAnyL_done (by kernel_rfl) ?_ _
            obtain ⟨wz, ez, az, oz⟩ := Ae.restored xx b14 zero16 (added C (f B)) (unhide A14) (by rw [unhide HAL]; rfl)
            first
              | rw [← ez]
              | (simp only [List.toList_toArray]; rw [← ez])
            obtain ⟨L, hL⟩ : ∃ L, L = added C (f B) := ⟨_, rfl⟩
            rw [← hL] at az HAL hN2
            have hh : Has wz (.slice (some ⟨b14, 0, none⟩) 16 16) L := by
              have h := has_lit az.out (by rw [unhide HAL]; unfold maxLen; omega)
              rw [unhide HAL] at h
              exact h
            have HH := hide hh
            have ORZ : Hid (Only (fun _ => False) wr wz) := ((unhide ORQ).trans (unhide QX) (fun _ _ e => e)).trans oz (fun j hj e => by have h1 := unhide HB14; omega)
            have A13z := hide ((unhide A13).only ((unhide QX).trans oz (fun j hj e => show False by have h1 := unhide HB14q; omega)) (fun e => e))
            have A10z := hide ((unhide har).only (unhide ORZ) (fun e => e))
            have hrow2 := hide ((unhide ORZ).owns (unhide hrow) (fun _ _ e => e))
            have OZ2 : Hid (Only (fun j => j = b10) wy wz) := (unhide hor).trans (unhide ORZ) (fun _ _ e => e.elim)
            have HSZ : Hid (B2 ≤ wz.heap.size) := by have h1 := (unhide OZ2).size; have h2 := unhide HB2; show _ ≤ _; omega
            have hLl := unhide HAL
            have h47 : 16 * k + L.length ≤ 140737488355328 := by omega
            have hrl := (unhide hrow).lt
            have HRL := hide hrl
            have hz13 := hide az
            clear ez az oz hL hh HT4 HZ4 hrl
            go_upto_region 14 with (at_builtin; refine wpList_append_has rfl (.tmp 55) (.tmp 56) 22 rfl B2 5 i0 Try.underlying22 hi0 hz0 hz1 hz2 _ (16 * k) _ rfl (unhide hrow2) _ L rfl (unhide HH) h47 (unhide HSZ) ?_; intro ao2 cap2 w5 own5 gr5 at5)
            rw [hLl] at own5
            have OG : Hid (Only (fun j => Value.ownBlock u11 = some j) wz w5) := (Only.refl (fun j => Value.ownBlock u11 = some j) wz).grown gr5 (fun j hj hlt => hj)
            have A13g := hide ((unhide A13z).only (unhide OG) (fun e => by have h1 := (unhide HRL b13 e).2; have h2 := unhide HB13; omega))
            have A10g := hide ((unhide A10z).only (unhide OG) (fun e => by have h1 := (unhide HRL b10 e).1; have h2 := unhide HB2; have h3 := unhide HBY; omega))
            have HT5 := hide (Ae.there16 (unhide A10g) (unhide HCL) (unhide HBL))
            have HZ5 := hide (Ae.size16s (unhide HBL))
            obtain ⟨wv, ev, av, ov⟩ := Ae.restored w5 b10 C B (unhide A10g) (by rw [unhide HBL, unhide HCL])
            have OWN5 : Hid (w5.ownsRow B2 5 1 (.slice ao2 (16 * k + 16) cap2) (16 * (k + 1)) ((opT f iv box (k + 1)).map bv)) := by
              rw [unhide hN2, List.map_append]
              exact own5
            have OWNV := hide (ov.owns (unhide OWN5) (fun j hj e => by have h1 := ((unhide OWN5).lt j hj).1; have h2 := unhide HB2; have h3 := unhide HBY; omega))
            have OV : Hid (Only (fun j => j = b10) wy wv) := ((unhide OZ2).trans (unhide OG) (fun j hj e => by have h1 := (unhide HRL j e).1; have h2 := unhide HB2; omega)).trans ov (fun _ _ e => e)
            have AV := hide av
            clear own5 gr5 at5 av ov
            have hmm := unhide HML
            go_upto_region 10 with (first | (refine wpList_load_mid rfl 41 (.tmp 13) rfl b13 0 rfl (B.map bv) _ (unhide A13g).range Ae.Try.under16 rfl (by rw [Ae.Try.size16]; simp [unhide HBL]) ?_) | (refine wpList_store_mid rfl 41 (.tmp 10) (.tmp 58) rfl b10 0 (B.map bv).toArray rfl rfl (unhide HT5) (unhide HZ5) (ag_one _) ?_))
            first
              | rw [← ev]
              | (simp only [List.toList_toArray]; rw [← ev])
            clear ev
            go_wp2
            go_roundw
            case rel =>
              refine ⟨k + 1, by omega, ?_, ?_, by rw [unhide hN1]; exact AV, OV⟩
              · have h1 := unhide HPK
                congr 1
                omega
              · exact OWNV
            case measure => have h1 := unhide HPK; simp [intOf]; omega
          · skip
            obtain ⟨b14, hb14⟩ : ∃ b14, b14 = x3.heap.size := ⟨_, rfl⟩
            have A14a : Hid (Arr (x3.alloc (.cells #[Value.int IntKind.u8 0, Value.int IntKind.u8 0, Value.int IntKind.u8 0, Value.int IntKind.u8 0, Value.int IntKind.u8 0, Value.int IntKind.u8 0, Value.int IntKind.u8 0, Value.int IntKind.u8 0, Value.int IntKind.u8 0, Value.int IntKind.u8 0, Value.int IntKind.u8 0, Value.int IntKind.u8 0, Value.int IntKind.u8 0, Value.int IntKind.u8 0, Value.int IntKind.u8 0, Value.int IntKind.u8 0] 41)) b14 41 zero16) := by rw [hb14]; exact Arr.new x3 _ zero16 _ rfl
            have HB14 : Hid (wr.heap.size ≤ b14) := by have h1 := (unhide ORQ).size; have h2 : wq.heap.size ≤ x3.heap.size := (unhide Q3).size; show _ ≤ _; omega
            have HB14q : Hid (wq.heap.size ≤ b14) := by have h2 : wq.heap.size ≤ x3.heap.size := (unhide Q3).size; show _ ≤ _; omega
            have QA := hide ((unhide Q3).alloc (.cells #[Value.int IntKind.u8 0, Value.int IntKind.u8 0, Value.int IntKind.u8 0, Value.int IntKind.u8 0, Value.int IntKind.u8 0, Value.int IntKind.u8 0, Value.int IntKind.u8 0, Value.int IntKind.u8 0, Value.int IntKind.u8 0, Value.int IntKind.u8 0, Value.int IntKind.u8 0, Value.int IntKind.u8 0, Value.int IntKind.u8 0, Value.int IntKind.u8 0, Value.int IntKind.u8 0, Value.int IntKind.u8 0] 41))
            go_simp
            refine hK.out _ _ (((unhide Q3).alloc _)) (fun hHeld => ?_)
            clear hK K
            try simp only [Act.put, List.setIfInBounds_toArray, List.set_cons_zero, List.set_cons_succ, List.getElem_toArray, List.getElem_cons_succ, List.getElem_cons_zero]
            rw [← hb14]
            clear hb14
            generalize x3.alloc _ = xa at *
            refine wpAnyL_ready (rs := [4]) (by kernel_rfl) (by simp) ?_
            refine AllReadyL.cons rfl (fun K hK => ?_) AllReadyL.nil
            go_simp
            go_wp2_with fail; refine (rxor_any C (f B) _ (unhide HCL) (unhide HFL)).mono ?_; rintro e x4 ⟨rfl, y4⟩; have Q4 : Hid (Only (fun _ => False) wq x4) := (unhide QA).trans y4 (fun _ _ e => e); have A14 : Hid (Arr x4 b14 41 zero16) := (unhide A14a).only y4 (fun e => e); have QX := Q4; clear y4
            refine hK.out _ _ ((unhide Q4)) (fun hHeld => ?_)
            clear hK K
            try simp only [Act.put, List.setIfInBounds_toArray, List.set_cons_zero, List.set_cons_succ, List.getElem_toArray, List.getElem_cons_succ, List.getElem_cons_zero]
            obtain ⟨xx, hxx⟩ : ∃ xx, xx = x4 := ⟨_, rfl⟩
            rw [← hxx] at A14 QX Q4 ⊢
            clear hxx
            have HT4 := hide (Ae.there16 (unhide A14) rfl (unhide HAL))
            have HZ4 := hide (Ae.size16s (unhide HAL))
            refine wpAnyL_ready (rs := [6]) (by kernel_rfl) (by simp) ?_
            refine AllReadyL.last rfl (fun K hK => ?_)
            refine step_store_mid rfl 41 (.tmp 14) (.tmp 54) rfl b14 0 ((added C (f B)).map bv).toArray rfl rfl (unhide HT4) (unhide HZ4) (ag_one _) ?_
            refine hK.out _ _ (trivial) (fun hHeld => ?_)
            clear hK K
            try simp only [Act.put, List.setIfInBounds_toArray, List.set_cons_zero, List.set_cons_succ, List.getElem_toArray, List.getElem_cons_succ, List.getElem_cons_zero]
            refine wpAnyL_done (by kernel_rfl) ?_ _
            obtain ⟨wz, ez, az, oz⟩ := Ae.restored xx b14 zero16 (added C (f B)) (unhide A14) (by rw [unhide HAL]; rfl)
            first
              | rw [← ez]
              | (simp only [List.toList_toArray]; rw [← ez])
            obtain ⟨L, hL⟩ : ∃ L, L = added C (f B) := ⟨_, rfl⟩
            rw [← hL] at az HAL hN2
            have hh : Has wz (.slice (some ⟨b14, 0, none⟩) 16 16) L := by
              have h := has_lit az.out (by rw [unhide HAL]; unfold maxLen; omega)
              rw [unhide HAL] at h
              exact h
            have HH := hide hh
            have ORZ : Hid (Only (fun _ => False) wr wz) := ((unhide ORQ).trans (unhide QX) (fun _ _ e => e)).trans oz (fun j hj e => by have h1 := unhide HB14; omega)
            have A13z := hide ((unhide A13).only ((unhide QX).trans oz (fun j hj e => show False by have h1 := unhide HB14q; omega)) (fun e => e))
            have A10z := hide ((unhide har).only (unhide ORZ) (fun e => e))
            have hrow2 := hide ((unhide ORZ).owns (unhide hrow) (fun _ _ e => e))
            have OZ2 : Hid (Only (fun j => j = b10) wy wz) := (unhide hor).trans (unhide ORZ) (fun _ _ e => e.elim)
            have HSZ : Hid (B2 ≤ wz.heap.size) := by have h1 := (unhide OZ2).size; have h2 := unhide HB2; show _ ≤ _; omega
            have hLl := unhide HAL
            have h47 : 16 * k + L.length ≤ 140737488355328 := by omega
            have hrl := (unhide hrow).lt
            have HRL := hide hrl
            have hz13 := hide az
            clear ez az oz hL hh HT4 HZ4 hrl
            go_upto_region 14 with (at_builtin; refine wpList_append_has rfl (.tmp 55) (.tmp 56) 22 rfl B2 5 i0 Try.underlying22 hi0 hz0 hz1 hz2 _ (16 * k) _ rfl (unhide hrow2) _ L rfl (unhide HH) h47 (unhide HSZ) ?_; intro ao2 cap2 w5 own5 gr5 at5)
            rw [hLl] at own5
            have OG : Hid (Only (fun j => Value.ownBlock u11 = some j) wz w5) := (Only.refl (fun j => Value.ownBlock u11 = some j) wz).grown gr5 (fun j hj hlt => hj)
            have A13g := hide ((unhide A13z).only (unhide OG) (fun e => by have h1 := (unhide HRL b13 e).2; have h2 := unhide HB13; omega))
            have A10g := hide ((unhide A10z).only (unhide OG) (fun e => by have h1 := (unhide HRL b10 e).1; have h2 := unhide HB2; have h3 := unhide HBY; omega))
            have HT5 := hide (Ae.there16 (unhide A10g) (unhide HCL) (unhide HBL))
            have HZ5 := hide (Ae.size16s (unhide HBL))
            obtain ⟨wv, ev, av, ov⟩ := Ae.restored w5 b10 C B (unhide A10g) (by rw [unhide HBL, unhide HCL])
            have OWN5 : Hid (w5.ownsRow B2 5 1 (.slice ao2 (16 * k + 16) cap2) (16 * (k + 1)) ((opT f iv box (k + 1)).map bv)) := by
              rw [unhide hN2, List.map_append]
              exact own5
            have OWNV := hide (ov.owns (unhide OWN5) (fun j hj e => by have h1 := ((unhide OWN5).lt j hj).1; have h2 := unhide HB2; have h3 := unhide HBY; omega))
            have OV : Hid (Only (fun j => j = b10) wy wv) := ((unhide OZ2).trans (unhide OG) (fun j hj e => by have h1 := (unhide HRL j e).1; have h2 := unhide HB2; omega)).trans ov (fun _ _ e => e)
            have AV := hide av
            clear own5 gr5 at5 av ov
            have hmm := unhide HML
            go_upto_region 10 with (first | (refine wpList_load_mid rfl 41 (.tmp 13) rfl b13 0 rfl (B.map bv) _ (unhide A13g).range Ae.Try.under16 rfl (by rw [Ae.Try.size16]; simp [unhide HBL]) ?_) | (refine wpList_store_mid rfl 41 (.tmp 10) (.tmp 58) rfl b10 0 (B.map bv).toArray rfl rfl (unhide HT5) (unhide HZ5) (ag_one _) ?_))
            first
              | rw [← ev]
              | (simp only [List.toList_toArray]; rw [← ev])
            clear ev
            go_wp2
            go_roundw
            case rel =>
              refine ⟨k + 1, by omega, ?_, ?_, by rw [unhide hN1]; exact AV, OV⟩
              · have h1 := unhide HPK
                congr 1
                omega
              · exact OWNV
            case measure => have h1 := unhide HPK; simp [intOf]; omega
        · skip
          obtain ⟨b14, hb14⟩ : ∃ b14, b14 = wq.heap.size := ⟨_, rfl⟩
          have A14a : Hid (Arr ((wq.alloc (.cells #[Value.int IntKind.u8 0, Value.int IntKind.u8 0, Value.int IntKind.u8 0, Value.int IntKind.u8 0, Value.int IntKind.u8 0, Value.int IntKind.u8 0, Value.int IntKind.u8 0, Value.int IntKind.u8 0, Value.int IntKind.u8 0, Value.int IntKind.u8 0, Value.int IntKind.u8 0, Value.int IntKind.u8 0, Value.int IntKind.u8 0, Value.int IntKind.u8 0, Value.int IntKind.u8 0, Value.int IntKind.u8 0] 41)).drew) b14 41 zero16) := by rw [hb14]; exact Arr.new wq _ zero16 _ rfl
          have HB14 : Hid (wr.heap.size ≤ b14) := by have h1 := (unhide ORQ).size; show _ ≤ _; omega
          have HB14q : Hid (wq.heap.size ≤ b14) := by show _ ≤ _; omega
          have QA := hide ((((Only.refl (fun _ => False) wq)).alloc (.cells #[Value.int IntKind.u8 0, Value.int IntKind.u8 0, Value.int IntKind.u8 0, Value.int IntKind.u8 0, Value.int IntKind.u8 0, Value.int IntKind.u8 0, Value.int IntKind.u8 0, Value.int IntKind.u8 0, Value.int IntKind.u8 0, Value.int IntKind.u8 0, Value.int IntKind.u8 0, Value.int IntKind.u8 0, Value.int IntKind.u8 0, Value.int IntKind.u8 0, Value.int IntKind.u8 0, Value.int IntKind.u8 0] 41)).drew)
          go_simp
          refine hK.out _ _ (((((Only.refl (fun _ => False) wq)).alloc _).drew)) (fun hHeld => ?_)
          clear hK K
          try simp only [Act.put, List.setIfInBounds_toArray, List.set_cons_zero, List.set_cons_succ, List.getElem_toArray, List.getElem_cons_succ, List.getElem_cons_zero]
          rw [← hb14]
          clear hb14
          generalize (wq.alloc _).drew = xa at *
          refine wpAnyL_ready (rs := [3]) (by kernel_rfl) (by simp) ?_
          refine AllReadyL.cons rfl (fun K hK => ?_) AllReadyL.nil
          go_simp
          go_wp2_with fail; refine (unhide HAY B _ (unhide HBL) ((unhide O1Q).trans (unhide QA) (fun _ _ e => e))).mono ?_; rintro e x3 ⟨rfl, y3⟩; have Q3 : Hid (Only (fun _ => False) wq x3) := (unhide QA).trans y3 (fun _ _ e => e); have A14b : Hid (Arr x3 b14 41 zero16) := (unhide A14a).only y3 (fun e => e); clear y3
          refine hK.out _ _ ((unhide Q3)) (fun hHeld => ?_)
          clear hK K
          try simp only [Act.put, List.setIfInBounds_toArray, List.set_cons_zero, List.set_cons_succ, List.getElem_toArray, List.getElem_cons_succ, List.getElem_cons_zero]
          refine wpAnyL_ready (rs := [4]) (by kernel_rfl) (by simp) ?_
          refine AllReadyL.cons rfl (fun K hK => ?_) AllReadyL.nil
          go_simp
          go_wp2_with fail; refine (rxor_any C (f B) _ (unhide HCL) (unhide HFL)).mono ?_; rintro e x4 ⟨rfl, y4⟩; have Q4 : Hid (Only (fun _ => False) wq x4) := (unhide Q3).trans y4 (fun _ _ e => e); have A14 : Hid (Arr x4 b14 41 zero16) := (unhide A14b).only y4 (fun e => e); have QX := Q4; clear y4
          refine hK.out _ _ ((unhide Q4)) (fun hHeld => ?_)
          clear hK K
          try simp only [Act.put, List.setIfInBounds_toArray, List.set_cons_zero, List.set_cons_succ, List.getElem_toArray, List.getElem_cons_succ, List.getElem_cons_zero]
          obtain ⟨xx, hxx⟩ : ∃ xx, xx = x4 := ⟨_, rfl⟩
          rw [← hxx] at A14 QX Q4 ⊢
          clear hxx
          have HT4 := hide (Ae.there16 (unhide A14) rfl (unhide HAL))
          have HZ4 := hide (Ae.size16s (unhide HAL))
          refine wpAnyL_ready (rs := [6]) (by kernel_rfl) (by simp) ?_
          refine AllReadyL.last rfl (fun K hK => ?_)
          refine step_store_mid rfl 41 (.tmp 14) (.tmp 54) rfl b14 0 ((added C (f B)).map bv).toArray rfl rfl (unhide HT4) (unhide HZ4) (ag_one _) ?_
          refine hK.out _ _ (trivial) (fun hHeld => ?_)
          clear hK K
          try simp only [Act.put, List.setIfInBounds_toArray, List.set_cons_zero, List.set_cons_succ, List.getElem_toArray, List.getElem_cons_succ, List.getElem_cons_zero]
          refine wpAnyL_done (by kernel_rfl) ?_ _
          obtain ⟨wz, ez, az, oz⟩ := Ae.restored xx b14 zero16 (added C (f B)) (unhide A14) (by rw [unhide HAL]; rfl)
          first
            | rw [← ez]
            | (simp only [List.toList_toArray]; rw [← ez])
          obtain ⟨L, hL⟩ : ∃ L, L = added C (f B) := ⟨_, rfl⟩
          rw [← hL] at az HAL hN2
          have hh : Has wz (.slice (some ⟨b14, 0, none⟩) 16 16) L := by
            have h := has_lit az.out (by rw [unhide HAL]; unfold maxLen; omega)
            rw [unhide HAL] at h
            exact h
          have HH := hide hh
          have ORZ : Hid (Only (fun _ => False) wr wz) := ((unhide ORQ).trans (unhide QX) (fun _ _ e => e)).trans oz (fun j hj e => by have h1 := unhide HB14; omega)
          have A13z := hide ((unhide A13).only ((unhide QX).trans oz (fun j hj e => show False by have h1 := unhide HB14q; omega)) (fun e => e))
          have A10z := hide ((unhide har).only (unhide ORZ) (fun e => e))
          have hrow2 := hide ((unhide ORZ).owns (unhide hrow) (fun _ _ e => e))
          have OZ2 : Hid (Only (fun j => j = b10) wy wz) := (unhide hor).trans (unhide ORZ) (fun _ _ e => e.elim)
          have HSZ : Hid (B2 ≤ wz.heap.size) := by have h1 := (unhide OZ2).size; have h2 := unhide HB2; show _ ≤ _; omega
          have hLl := unhide HAL
          have h47 : 16 * k + L.length ≤ 140737488355328 := by omega
          have hrl := (unhide hrow).lt
          have HRL := hide hrl
          have hz13 := hide az
          clear ez az oz hL hh HT4 HZ4 hrl
          go_upto_region 14 with (at_builtin; refine wpList_append_has rfl (.tmp 55) (.tmp 56) 22 rfl B2 5 i0 Try.underlying22 hi0 hz0 hz1 hz2 _ (16 * k) _ rfl (unhide hrow2) _ L rfl (unhide HH) h47 (unhide HSZ) ?_; intro ao2 cap2 w5 own5 gr5 at5)
          rw [hLl] at own5
          have OG : Hid (Only (fun j => Value.ownBlock u11 = some j) wz w5) := (Only.refl (fun j => Value.ownBlock u11 = some j) wz).grown gr5 (fun j hj hlt => hj)
          have A13g := hide ((unhide A13z).only (unhide OG) (fun e => by have h1 := (unhide HRL b13 e).2; have h2 := unhide HB13; omega))
          have A10g := hide ((unhide A10z).only (unhide OG) (fun e => by have h1 := (unhide HRL b10 e).1; have h2 := unhide HB2; have h3 := unhide HBY; omega))
          have HT5 := hide (Ae.there16 (unhide A10g) (unhide HCL) (unhide HBL))
          have HZ5 := hide (Ae.size16s (unhide HBL))
          obtain ⟨wv, ev, av, ov⟩ := Ae.restored w5 b10 C B (unhide A10g) (by rw [unhide HBL, unhide HCL])
          have OWN5 : Hid (w5.ownsRow B2 5 1 (.slice ao2 (16 * k + 16) cap2) (16 * (k + 1)) ((opT f iv box (k + 1)).map bv)) := by
            rw [unhide hN2, List.map_append]
            exact own5
          have OWNV := hide (ov.owns (unhide OWN5) (fun j hj e => by have h1 := ((unhide OWN5).lt j hj).1; have h2 := unhide HB2; have h3 := unhide HBY; omega))
          have OV : Hid (Only (fun j => j = b10) wy wv) := ((unhide OZ2).trans (unhide OG) (fun j hj e => by have h1 := (unhide HRL j e).1; have h2 := unhide HB2; omega)).trans ov (fun _ _ e => e)
          have AV := hide av
          clear own5 gr5 at5 av ov
          have hmm := unhide HML
          go_upto_region 10 with (first | (refine wpList_load_mid rfl 41 (.tmp 13) rfl b13 0 rfl (B.map bv) _ (unhide A13g).range Ae.Try.under16 rfl (by rw [Ae.Try.size16]; simp [unhide HBL]) ?_) | (refine wpList_store_mid rfl 41 (.tmp 10) (.tmp 58) rfl b10 0 (B.map bv).toArray rfl rfl (unhide HT5) (unhide HZ5) (ag_one _) ?_))
          first
            | rw [← ev]
            | (simp only [List.toList_toArray]; rw [← ev])
          clear ev
          go_wp2
          go_roundw
          case rel =>
            refine ⟨k + 1, by omega, ?_, ?_, by rw [unhide hN1]; exact AV, OV⟩
            · have h1 := unhide HPK
              congr 1
              omega
            · exact OWNV
          case measure => have h1 := unhide HPK; simp [intOf]; omega
      · obtain rfl : k = m := by omega
        have OW : Hid (Only (fun _ => False) w wr) := (unhide OY).trans (unhide hor) (fun j hj e => by have h1 := unhide HB10; have h2 := unhide HW3; omega)
        have hl := opT_length f (unhide HF) iv box hi k (unhide HMT) k (Nat.le_refl _)
        have hown : Has wr u11 (opT f iv box k) := Has.ofOwns (unhide hrow)
        have HU := hide (runpad_any u11 _ wr hown (by rw [hl]; have := unhide HML; omega))
        clear hrow har hown
        go_wp2_with fail
        refine (unhide HU).mono ?_
        rintro e z2 ⟨vu, rfl, hu, yu⟩
        have HU2' := hide hu
        have OU := hide ((unhide OW).trans yu (fun _ _ e => e))
        clear hu yu
        go_wp2
        go_ret2
        exact ⟨vu, (by rw [unhide HE2]; rfl), (by rw [unhide HU2]; exact unhide HU2'), unhide OU⟩

end Md
end Go.Proofs.Ytbhidmeobeecmaa
