/-
  locksmithref8: Seal.
-/
import Derived.Test.YtbhidmeobeecmaaMdRNew
import Derived.Test.YtbhidmeobeecmaaMdRBlk
import Derived.Test.YtbhidmeobeecmaaMdSeal
import Derived.Test.YtbhidmeobeecmaaMdRPad
namespace Go.Proofs.Ytbhidmeobeecmaa
open Go.RowKit
set_option linter.unusedSimpArgs false
set_option linter.unusedVariables false
namespace Md
open Ae (zero16 Arr ag_one range_only after exec_load_mid step_store_mid RCip added added_length blkOf blkOf_length)

theorem Has.mid {w : World} {b o l cap n : Nat} {bs : List UInt8} (h : Has w (.slice (some ⟨b, o, none⟩) l cap) bs) (i : Nat) (hi : i + n ≤ bs.length) (hn : 0 < n) : Has w (.slice (some ⟨b, o + i, none⟩) n (cap - i)) ((bs.drop i).take n) := by
  have h1 := h.back (n := i) (by omega)
  have h2 := h1.front (n := n) (by simp; omega)
  rw [show Option.map (fun x : Addr => x.add i) (some ⟨b, o, none⟩) = some ⟨b, o + i, none⟩ from by rw [Option.map_some, addr_add _ rfl]] at h2
  exact h2
theorem ivS_self (bs : List UInt8) (h : bs.length = 16) : ivS bs = bs := by
  have e : bs.take 16 = bs := List.take_of_length_le (by omega)
  unfold ivS
  rw [e, List.take_left' h]

theorem fresh16 (x : World) (s : List UInt8) (hs : s.length = 16) : ∃ wy b, wy = (x.alloc (.cells (zero16.map bv).toArray 41)).setCells x.heap.size 0 (s.map bv).toArray.toList ∧ b = x.heap.size ∧ Arr wy b 41 s ∧ Only (fun _ => False) x wy := Ae.made16 x s hs

set_option maxRecDepth 100000 in
set_option maxHeartbeats 4000000 in
theorem rsealM_fine (key iv t : List UInt8) (h : keyB key) (hi : iv.length = 16) (hl : t.length ≤ 140737488351232) (kv vv tv : Value) (w : World) (hk : Has w kv key) (hv : Has w vv iv) (ht : Has w tv t) :
    Calls Try.prog 20 #[kv, vv, tv] w fun e w' => ∃ v, e = .returned (.tuple #[v, .int .i64 0]) ∧ Owns w.heap.size w' v (boxT key iv t) ∧ Only (fun _ => False) w w' := by
  obtain ⟨i0, hi0, hz0, hz1, hz2⟩ := info_parts Try.info5
  obtain ⟨ia, ic, hvs, _⟩ := hv.shape
  subst hvs
  rw [hi] at hv ⊢
  have HN := hide (rnew_fine key h kv w hk)
  have HT := hide ht
  have HV := hide hv
  have hml : mT t ≤ 8796093022208 := by unfold mT; omega
  have hmt : (padT t).length = 16 * mT t := padT_length t
  have HBX : Hid (boxT key iv t = chT (sealF key) iv (padT t) (mT t)) := rfl
  have HML := hide hml
  have HMT := hide hmt
  have hf : ∀ s, s.length = 16 → (sealF key s).length = 16 := fun s hs => sealF_length key h s hs
  have HF := hide hf
  clear hk hv ht hml hmt
  generalize mT t = m at *
  go_enter Try.func20, Try.ntmps20
  go_wp2_with fail
  refine (unhide HN).mono ?_
  rintro e w1 ⟨cb, rfl, hc, o1⟩
  have HAC := hide (racts_seal key h hc)
  have O1 := hide o1
  have HT1 := hide ((unhide HT).only o1 (fun _ _ _ e => e))
  have HV1 := hide ((unhide HV).only o1 (fun _ _ _ e => e))
  clear hc o1 HN HT HV
  generalize sealF key = f at *
  go_wp2_with fail
  refine (rpad_any _ t w1 (unhide HT1) hl).mono ?_
  rintro e w2 ⟨pv, rfl, hp, o2⟩
  rw [show Owns w1.heap.size w2 pv (padT t) = w2.ownsRow w1.heap.size 5 1 pv (padT t).length ((padT t).map bv) from rfl, unhide HMT] at hp
  obtain ⟨pg, pc, rfl⟩ : ∃ pg pc, pv = .slice (some ⟨pg, 0, none⟩) (16 * m) pc := by
    have hm1 : 0 < m := by have := unhide HMT; unfold padT pd at this; rw [List.length_append, List.length_replicate] at this; omega
    rw [show 16 * m = (16 * m - 1) + 1 by omega] at hp ⊢
    exact ownsRow_succ hp
  have hpc : 16 * m ≤ pc := by
    rcases hp.2 with ⟨e, _⟩ | ⟨g', c2, cur, e, _, _, hc, _⟩
    · simp at e
    · simp only [Value.slice.injEq] at e
      omega
  have hph : Has w2 (.slice (some ⟨pg, 0, none⟩) (16 * m) pc) (padT t) := Has.ofOwns hp
  have HP := hide hph
  have O2 := hide ((unhide O1).trans o2 (fun _ _ e => e))
  have O12 := hide o2
  have HV2 := hide ((unhide HV1).only o2 (fun _ _ _ e => e))
  clear hp hph o2 HT1 HV1
  go_wp2_with fail
  refine (rblock_any _ iv w2 (unhide HV2)).mono ?_
  rintro e w3 ⟨rfl, o3⟩
  rw [ivS_self iv hi]
  obtain ⟨wy, b11, ey, eb, a11, oy⟩ := fresh16 w3 iv hi
  have HT2 := hide (Ae.there16 (Arr.new w3 41 zero16 _ rfl) rfl hi)
  have HZ2 := hide (Ae.size16s hi)
  have O3 := hide ((unhide O2).trans o3 (fun _ _ e => e))
  have O23 := hide o3
  have hsz3 := (unhide O3).size
  clear o3
  go_upto_region 6 with (refine wpList_store_mid rfl 41 (.tmp 11) (.tmp 29) rfl w3.heap.size 0 (iv.map bv).toArray rfl rfl (unhide HT2) (unhide HZ2) (ag_one _) ?_)
  rw [Ae.zeros_eq, ← ey, ← eb]
  have A11 := hide a11
  have OY := hide ((unhide O3).trans oy (fun _ _ e => e))
  have HPY := hide (((unhide HP).only (unhide O23) (fun _ _ _ e => e)).only oy (fun _ _ _ e => e))
  have HAY := hide (((unhide HAC).new (unhide O12)).new (unhide O23))
  have HB11 : Hid (w3.heap.size ≤ b11) := by show _ ≤ _; omega
  have HW3 := hide hsz3
  have O3Y := hide oy
  have hpg3 : pg < w3.heap.size := Nat.lt_of_lt_of_le ((unhide HP).blk_lt (by intro e; have := unhide HMT; rw [e] at this; unfold padT pd at e; have h2 := congrArg List.length e; rw [List.length_append, List.length_replicate] at h2; simp at h2; omega) pg rfl) (unhide O23).size
  have HPG := hide hpg3
  clear ey eb a11 oy HT2 HZ2 HAC hsz3 hpg3
  obtain ⟨B2, hB2⟩ : ∃ B2, B2 = wy.heap.size := ⟨_, rfl⟩
  have hb11y : b11 < wy.heap.size := (unhide A11).lt
  have HBY := hide hb11y
  have HB2 := hide hB2
  clear hB2 hb11y
  go_wp2
  go_loopw [12, 13] (fun s i wr => ∃ k : Nat, k ≤ m ∧ i = .int .i64 (16 * (k : Int)) ∧ Hid (wr.ownsRow B2 5 1 s (16 * k) ((chT f iv (padT t) k).map bv)) ∧ Hid (Arr wr b11 41 (ch f iv (padT t) k)) ∧ Hid (Only (fun j => j = b11) wy wr)) (fun _ i _ => 16 * m - (intOf i).toNat)
  case atStart => exact ⟨0, Nat.zero_le _, rfl, World.ownsRow_nil _ _ _ _, A11, Only.refl _ _⟩
  case round =>
    rename World => wr
    obtain ⟨k, hkm, rfl, hrow, har, hor⟩ := hrel
    by_cases hlt : k < m
    · obtain ⟨C, hC⟩ : ∃ C, C = ch f iv (padT t) k := ⟨_, rfl⟩
      have hCl : C.length = 16 := by rw [hC]; exact ch_length f (unhide HF) iv (padT t) hi m (unhide HMT) k hkm
      obtain ⟨B, hB⟩ : ∃ B, B = blkOf (padT t) k := ⟨_, rfl⟩
      have hBl : B.length = 16 := by rw [hB]; exact blkOf_length (padT t) m k (unhide HMT) hlt
      rw [← hC] at har
      have hN1 : Hid (ch f iv (padT t) (k + 1) = f (added C B)) := by rw [hB, hC, added_comm]; rfl
      have hN2 : Hid (chT f iv (padT t) (k + 1) = chT f iv (padT t) k ++ ch f iv (padT t) (k + 1)) := rfl
      have hal := added_length hCl hBl
      have hfl := unhide HF _ hal
      obtain ⟨p, hp⟩ : ∃ p, p = 16 * k := ⟨_, rfl⟩
      obtain ⟨q, hq⟩ : ∃ q, q = p + 16 := ⟨_, rfl⟩
      have hmb := unhide HML
      have M2 : Hid (IntKind.i64.wrap ((p : Int) + 16) = (q : Int)) := by show _ = _; rw [wrap_small _ (by omega) (by omega)]; omega
      have M1 : Hid ((16 * (k : Int)) = (p : Int)) := by show _ = _; omega
      have hpr : Has wr (.slice (some ⟨pg, 0, none⟩) (16 * m) pc) (padT t) := (unhide HPY).only (unhide hor) (fun _ j hj e => by
        have hj' : some pg = some j := hj
        have h1 := unhide HPG
        have h2 := unhide HB11
        simp at hj'
        omega)
      have hmid : Has wr (.slice (some ⟨pg, p, none⟩) 16 (pc - p)) B := by
        have h1 := Has.mid hpr (n := 16) p (by rw [unhide HMT]; omega) (by decide)
        rw [Nat.zero_add] at h1
        rw [hB, hp]
        rw [hp] at h1
        exact h1
      have HMID := hide hmid
      have O1R : Hid (Only (fun _ => False) w3 wr) := (unhide O3Y).trans (unhide hor) (fun j hj e => by have := unhide HB11; omega)
      have hsub : q - p = 16 := by omega
      have hpq : p ≤ q := by omega
      have hqk : (q : Int) ≤ (pc : Int) := by omega
      have hnep : ¬ pc = p := by omega
      have hkI : 16 * (k : Int) < 16 * (m : Int) := by omega
      have HCL := hide hCl
      have HBL := hide hBl
      have HAL := hide hal
      have HFL := hide hfl
      clear hC hB hCl hBl hal hfl hpr hmid
      rw [unhide M1]
      have hp16 : (p : Int) < 16 * (m : Int) := by omega
      have hpb : p ≤ 140737488355328 := by omega
      have HPK := hide hp
      have HQK := hide hq
      clear hp hq
      go_wp2_with fail
      refine wp_region_last_drew (S := (fun w' => Only (fun _ => False) wr w')) 10 (by kernel_rfl) ((Only.refl _ _).drew) (fun hHeld => ?_)
      refine wpAnyL_take (i := 0) (v := ?v1) rfl (by kernel_rfl) (by kernel_rfl) (by kernel_rfl) (by kernel_rfl) (fun _ _ _ h => h) (Or.inl ⟨by rfl, ?hy1⟩) (by assumption) ?rest1
      case hy1 =>
        intro w hSw
        go_simp
        try with_reducible rfl
      try simp only [Act.put, List.setIfInBounds_toArray, List.set_cons_zero, List.set_cons_succ, List.getElem_toArray, List.getElem_cons_succ, List.getElem_cons_zero]
      refine wpAnyL_take (i := 1) (v := ?v2) rfl (by kernel_rfl) (by kernel_rfl) (by kernel_rfl) (by kernel_rfl) (fun _ _ _ h => h) (Or.inl ⟨by rfl, ?hy2⟩) (by assumption) ?rest2
      case hy2 =>
        intro w hSw
        (refine exec_load_mid 41 (.tmp 11) ?_ b11 0 ?_ (C.map bv) _ (range_only (unhide har).range hSw (fun e => e)) Ae.Try.under16 rfl (by rw [Ae.Try.size16]; simp [unhide HCL]) <;> rfl)
      try simp only [Act.put, List.setIfInBounds_toArray, List.set_cons_zero, List.set_cons_succ, List.getElem_toArray, List.getElem_cons_succ, List.getElem_cons_zero]
      refine wpAnyL_take (i := 2) (v := ?v3) rfl (by kernel_rfl) (by kernel_rfl) (by kernel_rfl) (by kernel_rfl) (fun _ _ _ h => h) (Or.inl ⟨by rfl, ?hy3⟩) (by assumption) ?rest3
      case hy3 =>
        intro w hSw
        go_simp
        try with_reducible rfl
      try simp only [Act.put, List.setIfInBounds_toArray, List.set_cons_zero, List.set_cons_succ, List.getElem_toArray, List.getElem_cons_succ, List.getElem_cons_zero]
      refine wpAnyL_take (i := 3) (v := ?v4) rfl (by kernel_rfl) (by kernel_rfl) (by kernel_rfl) (by kernel_rfl) (fun _ _ _ h => h) (Or.inl ⟨by rfl, ?hy4⟩) (by assumption) ?rest4
      case hy4 =>
        intro w hSw
        go_simp
        try with_reducible rfl
      try simp only [Act.put, List.setIfInBounds_toArray, List.set_cons_zero, List.set_cons_succ, List.getElem_toArray, List.getElem_cons_succ, List.getElem_cons_zero]
      refine wpAnyL_take (i := 4) (v := ?v5) rfl (by kernel_rfl) (by kernel_rfl) (by kernel_rfl) (by kernel_rfl) (fun _ _ _ h => h) (Or.inl ⟨by rfl, ?hy5⟩) (by assumption) ?rest5
      case hy5 =>
        intro w hSw
        go_simp
        try with_reducible rfl
      try simp only [Act.put, List.setIfInBounds_toArray, List.set_cons_zero, List.set_cons_succ, List.getElem_toArray, List.getElem_cons_succ, List.getElem_cons_zero]
      refine wpAnyL_take (i := 5) (v := ?v6) rfl (by kernel_rfl) (by kernel_rfl) (by kernel_rfl) (by kernel_rfl) (fun _ _ _ h => h) (Or.inl ⟨by rfl, ?hy6⟩) (by assumption) ?rest6
      case hy6 =>
        intro w hSw
        (go_simp; rw [unhide M2]; try with_reducible rfl)
      try simp only [Act.put, List.setIfInBounds_toArray, List.set_cons_zero, List.set_cons_succ, List.getElem_toArray, List.getElem_cons_succ, List.getElem_cons_zero]
      refine wpAnyL_take (i := 6) (v := ?v7) rfl (by kernel_rfl) (by kernel_rfl) (by kernel_rfl) (by kernel_rfl) (fun _ _ _ h => h) (Or.inl ⟨by rfl, ?hy7⟩) (by assumption) ?rest7
      case hy7 =>
        intro w hSw
        go_simp
        try with_reducible rfl
      try simp only [Act.put, List.setIfInBounds_toArray, List.set_cons_zero, List.set_cons_succ, List.getElem_toArray, List.getElem_cons_succ, List.getElem_cons_zero]
      refine wpAnyL_ready (rs := [7]) (by kernel_rfl) (by simp) ?_
      refine AllReadyL.cons rfl (fun K hK => ?_) AllReadyL.nil
      go_simp
      go_wp2_with fail; refine (rblock_any _ B _ ((unhide HMID).only ((Only.refl (fun _ => False) wr).drew) (fun _ _ _ e => e))).mono ?_; rintro e x1 ⟨rfl, y1⟩; have Q1 : Hid (Only (fun _ => False) wr x1) := ((Only.refl (fun _ => False) wr).drew).trans y1 (fun _ _ e => e); clear y1; rw [ivS_self B (unhide HBL)]
      refine hK.out _ _ ((unhide Q1)) (fun hHeld => ?_)
      clear hK K
      try simp only [Act.put, List.setIfInBounds_toArray, List.set_cons_zero, List.set_cons_succ, List.getElem_toArray, List.getElem_cons_succ, List.getElem_cons_zero]
      refine wpAnyL_ready (rs := [8]) (by kernel_rfl) (by simp) ?_
      refine AllReadyL.cons rfl (fun K hK => ?_) AllReadyL.nil
      go_simp
      go_wp2_with fail; refine (rxor_any C B x1 (unhide HCL) (unhide HBL)).mono ?_; rintro e x2 ⟨rfl, y2⟩; have Q2 : Hid (Only (fun _ => False) wr x2) := (unhide Q1).trans y2 (fun _ _ e => e); clear y2
      refine hK.out _ _ ((unhide Q2)) (fun hHeld => ?_)
      clear hK K
      try simp only [Act.put, List.setIfInBounds_toArray, List.set_cons_zero, List.set_cons_succ, List.getElem_toArray, List.getElem_cons_succ, List.getElem_cons_zero]
      refine wpAnyL_ready (rs := [9]) (by kernel_rfl) (by simp) ?_
      refine AllReadyL.cons rfl (fun K hK => ?_) AllReadyL.nil
      go_simp
      go_wp2_with fail; refine (unhide HAY (added C B) x2 (unhide HAL) ((unhide O1R).trans (unhide Q2) (fun _ _ e => e))).mono ?_; rintro e x3 ⟨rfl, y3⟩; have Q3 : Hid (Only (fun _ => False) wr x3) := (unhide Q2).trans y3 (fun _ _ e => e); clear y3
      refine hK.out _ _ ((unhide Q3)) (fun hHeld => ?_)
      clear hK K
      try simp only [Act.put, List.setIfInBounds_toArray, List.set_cons_zero, List.set_cons_succ, List.getElem_toArray, List.getElem_cons_succ, List.getElem_cons_zero]
      have A3x := hide ((unhide har).only (unhide Q3) (fun e => e))
      have HT3 := hide (Ae.there16 (unhide A3x) (unhide HCL) (unhide HFL))
      have HZ3 := hide (Ae.size16s (unhide HFL))
      refine wpAnyL_ready (rs := [10]) (by kernel_rfl) (by simp) ?_
      refine AllReadyL.last rfl (fun K hK => ?_)
      refine step_store_mid rfl 41 (.tmp 11) (.tmp 45) rfl b11 0 ((f (added C B)).map bv).toArray rfl rfl (unhide HT3) (unhide HZ3) (ag_one _) ?_
      refine hK.out _ _ (trivial) (fun hHeld => ?_)
      clear hK K
      try simp only [Act.put, List.setIfInBounds_toArray, List.set_cons_zero, List.set_cons_succ, List.getElem_toArray, List.getElem_cons_succ, List.getElem_cons_zero]
      refine wpAnyL_done (by kernel_rfl) ?_ _
      obtain ⟨wz, ez, az, oz⟩ := Ae.restored x3 b11 C (f (added C B)) (unhide A3x) (by rw [unhide HFL, unhide HCL])
      first
        | rw [← ez]
        | (simp only [List.toList_toArray]; rw [← ez])
      obtain ⟨L, hL⟩ : ∃ L, L = ch f iv (padT t) (k + 1) := ⟨_, rfl⟩
      rw [← unhide hN1, ← hL] at az HFL
      rw [← hL] at hN2
      have HLL := hide hL
      have hh : Has wz (.slice (some ⟨b11, 0, none⟩) 16 16) L := by
        have h := has_lit az.out (by rw [unhide HFL]; unfold maxLen; omega)
        rw [unhide HFL] at h
        exact h
      have HH := hide hh
      have AZ := hide az
      have OZ : Hid (Only (fun j => j = b11) wr wz) := (unhide Q3 |>.mono (fun _ _ e => e.elim)).trans oz (fun _ _ e => e)
      have hrl := (unhide hrow).lt
      have hrow2 := hide ((unhide OZ).owns (unhide hrow) (fun j hj e => by have h1 := (hrl j hj).1; have h2 := unhide HB2; have h3 := unhide HBY; omega))
      have OZ2 : Hid (Only (fun j => j = b11) wy wz) := (unhide hor).trans (unhide OZ) (fun _ _ e => e)
      have HSZ : Hid (B2 ≤ wz.heap.size) := by have h1 := (unhide OZ2).size; have h2 := unhide HB2; show _ ≤ _; omega
      have hLl := unhide HFL
      have h47 : 16 * k + L.length ≤ 140737488355328 := by omega
      clear ez az oz hL hh hN1 A3x HT3 HZ3 hrow har hor Q1 Q2 Q3 hrl
      go_wp2_with (at_builtin; refine wpList_append_has rfl (.tmp 46) (.tmp 47) 22 rfl B2 5 i0 Try.underlying22 hi0 hz0 hz1 hz2 _ (16 * k) _ rfl (unhide hrow2) _ L rfl (unhide HH) h47 (unhide HSZ) ?_; intro ao2 cap2 w5 own5 gr5 at5)
      rw [hLl] at own5
      go_roundw
      case rel =>
        refine ⟨k + 1, by omega, ?_, ?_, ?_, ?_⟩
        · have h1 := unhide HPK
          congr 1
          omega
        · show _
          rw [unhide hN2, List.map_append]
          exact own5
        · rw [← unhide HLL]
          exact (unhide AZ).only ((Only.refl (fun j => ∃ x, (Value.ownBlock u12 = some x) ∧ j = x) wz).grown gr5 (fun j hj hlt => ⟨j, hj, rfl⟩)) (fun e => by obtain ⟨x, hx, e2⟩ := e; have h1 := ((unhide hrow2).lt x hx).1; have h2 := unhide HB2; have h3 := unhide HBY; omega)
        · exact (unhide OZ2).grown gr5 (fun j hj hlt => by have h1 := ((unhide hrow2).lt j hj).1; have h2 := unhide HB2; omega)
      case measure => have h1 := unhide HPK; simp [intOf]; omega
    · obtain rfl : k = m := by omega
      have OW : Hid (Only (fun _ => False) w wr) := (unhide OY).trans (unhide hor) (fun j hj e => by have h1 := unhide HB11; have h2 := unhide HW3; omega)
      go_wp2
      go_ret2
      refine ⟨_, rfl, ?_, unhide OW⟩
      rw [unhide HBX]
      unfold Owns
      rw [chT_length f (unhide HF) iv (padT t) hi k (unhide HMT) k (Nat.le_refl _)]
      exact ownsRow_base (unhide hrow) (by have h1 := (unhide OY).size; have h2 := unhide HB2; omega)

set_option maxRecDepth 100000 in
set_option maxHeartbeats 2000000 in
theorem rsealM_not (key iv : List UInt8) (h : ¬ (keyB key ∧ iv.length = 16)) (kv vv tv : Value) (w : World) (hk : Has w kv key) (hv : Has w vv iv) :
    Calls Try.prog 20 #[kv, vv, tv] w fun e w' => e = .returned (.tuple #[.slice none 0 0, .int .i64 1]) ∧ Only (fun _ => False) w w' := by
  by_cases hkb : keyB key
  · obtain ⟨ia, ic, rfl, _⟩ := hv.shape
    have hi : iv.length ≠ 16 := fun e => h ⟨hkb, e⟩
    have h16 : ((iv.length : Int) == 16) = false := by simp; omega
    have g16 : ((iv.length : Int) != 16) = true := by simp; omega
    have HN := hide (rnew_fine key hkb kv w hk)
    clear hk hv h hi
    generalize iv.length = il at *
    go_enter Try.func20, Try.ntmps20
    go_wp2_with fail
    refine (unhide HN).mono ?_
    rintro e w1 ⟨cb, rfl, hc, o1⟩
    have O1 := hide o1
    clear hc o1
    go_wp2
    go_ret2
    exact ⟨rfl, unhide O1⟩
  · have HN := hide (rnew_not key hkb kv w hk)
    clear hk hv h
    go_enter Try.func20, Try.ntmps20
    go_wp2_with fail
    refine (unhide HN).mono ?_
    rintro e w1 ⟨rfl, hw⟩
    rw [hw]
    clear hw w1
    go_wp2
    go_ret2
    exact ⟨rfl, Only.refl _ _⟩

end Md
end Go.Proofs.Ytbhidmeobeecmaa
