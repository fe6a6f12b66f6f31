/-
  The law: which items are the same, and which kid is meant.
-/
import Derived.Test.YtedmfjnmclbkpaaDoorTtKidA
import Derived.Test.YtedmfjnmclbkpaaDoorTtPsame
import Derived.Deep.QuietTactic
import Derived.BigQuiet
namespace Go.Proofs.YtedmfjnmclbkpaaDoor
open Go.RowKit
set_option linter.unusedSimpArgs false
set_option linter.unusedVariables false
namespace Tt

mutual
theorem sameB_refl' : ∀ (i : It), sameB i i = true
  | .mk t y n d ks => by rw [sameB_eq, sameAllB_refl' ks]; simp
theorem sameAllB_refl' : ∀ (ks : List It), sameAllB ks ks = true
  | [] => by rw [sameAllB]
  | k :: r => by rw [sameAllB, sameB_refl' k, sameAllB_refl' r]; rfl
end

/-- what 'at' holds when the kids from m on have been looked at -/
def AtIs (tag : Int) (ks : List It) (m : Nat) (a : Int) : Prop :=
  (a = -1 ∧ ∀ (j : Nat) (x : It), m ≤ j → ks[j]? = some x → x.tag ≠ tag) ∨
  (∃ (p : Nat) (x : It), a = p ∧ m ≤ p ∧ ks[p]? = some x ∧ x.tag = tag ∧ ∀ (j : Nat) (y : It), m ≤ j → j < p → ks[j]? = some y → y.tag ≠ tag)
theorem atIs_yes {tag : Int} {ks : List It} {m : Nat} {x : It} (hx : ks[m]? = some x) (ht : x.tag = tag) : AtIs tag ks m m :=
  Or.inr ⟨m, x, rfl, Nat.le_refl _, hx, ht, fun j y h1 h2 => absurd h1 (by omega)⟩
theorem atIs_no {tag a : Int} {ks : List It} {m : Nat} {x : It} (h : AtIs tag ks (m + 1) a) (hx : ks[m]? = some x) (ht : ¬ x.tag = tag) : AtIs tag ks m a := by
  rcases h with ⟨rfl, h⟩ | ⟨p, y, rfl, h1, h2, h3, h4⟩
  · refine Or.inl ⟨rfl, fun j z h1 h2 => ?_⟩
    rcases Nat.lt_or_ge m j with e | e
    · exact h j z e h2
    · obtain rfl : j = m := by omega
      rw [hx] at h2; cases h2; exact ht
  · refine Or.inr ⟨p, y, rfl, by omega, h2, h3, fun j z k1 k2 k3 => ?_⟩
    rcases Nat.lt_or_ge m j with e | e
    · exact h4 j z e k2 k3
    · obtain rfl : j = m := by omega
      rw [hx] at k3; cases k3; exact ht
theorem atIs_end {tag a : Int} {ks : List It} (h : AtIs tag ks 0 a) : (a = -1 ∧ firstKid tag ks = none) ∨ ∃ (p : Nat) (x : It), a = p ∧ ks[p]? = some x ∧ firstKid tag ks = some x := by
  rcases h with ⟨rfl, h⟩ | ⟨p, y, rfl, _, h2, h3, h4⟩
  · exact Or.inl ⟨rfl, firstKid_no (fun j x hx => h j x (Nat.zero_le _) hx)⟩
  · exact Or.inr ⟨p, y, rfl, h2, firstKid_at h2 h3 (fun j x hj hx => h4 j x (Nat.zero_le _) hj hx)⟩

theorem Only.drewsS {S : Nat → Prop} {w : World} (n : Nat) : Only S w (w.drewN n) := ⟨rfl, rfl, rfl, Nat.le_refl _, fun _ _ _ => rfl⟩

set_option maxHeartbeats 8000000 in
set_option maxRecDepth 100000 in
theorem ttlvSame_no (lv lv' : Value) (m m' : Nat) (X X' : Nat → Raw6) (tag : Int) (w : World) (hr : Raws6 w lv m X) (hr' : Raws6 w lv' m' X') (hT : Tabs w) :
    Calls Tryd.prog 7 #[lv, lv', .int .i64 tag, .bool false] w fun e w' => e = .returned (.bool true) ∧ Only (fun _ => False) w w' := by
  have HTree := hide (fun W (o : Only (fun _ => False) w W) => tree_any lv m X 30 0 W (hr.same o) (by omega) (by omega))
  have HTree2 := hide (fun W (o : Only (fun _ => False) w W) => tree_any lv' m' X' 30 0 W (hr'.same o) (by omega) (by omega))
  have HT := hide hT
  have HKn := hide (fun W (o : Only (fun _ => False) w W) => known_any W ((unhide HT).same o))
  clear hr hr' hT
  go_enter Tryd.func7, Tryd.ntmps7
  go_wp2_with fail
  refine (unhide HTree _ (Only.refl _ _)).mono ?_
  rintro e w1 ⟨it, dv, kv, rfl, hit, hsm, hcnt, o1⟩
  have hfair := fair_of hsm hcnt
  have HCnt : Hid (it.count ≤ 1000) := by
    show _ ≤ _
    have h2 := cnt_le (fun k => ((X k).parent % k).toNat) (fun k hk => by
      have := Int.emod_nonneg (X k).parent (show (k : Int) ≠ 0 by omega)
      have := Int.emod_lt_of_pos (X k).parent (show (0 : Int) < k by omega)
      omega) (min m 30) 30
    omega
  have HSm : Hid (it.small 1000) := small_le it (by decide) hsm
  obtain ⟨⟨da, dc, hds⟩, ka, kc, hks⟩ := hit.shapes
  subst hds
  subst hks
  have hb1 := heap_alloc_new w1 (.cells #[.int .i64 it.tag, .int .i64 it.typ, .int .i64 it.int, .slice da it.data.length dc, .slice ka it.kids.length kc] 25)
  have oI := (Only.refl (fun _ => False) w1).alloc (.cells #[.int .i64 it.tag, .int .i64 it.typ, .int .i64 it.int, .slice da it.data.length dc, .slice ka it.kids.length kc] 25)
  have HO2 := hide (o1.trans oI (fun _ _ e => e))
  have HIT := hide (ItAt.mono (R := fun q => w.heap.size ≤ q ∧ q < w1.heap.size) (fun q h1 h2 => ⟨h2, h1⟩) 31 hit)
  have HIT := hide ((unhide HIT).same oI)
  have HSW := hide o1.size
  have HB1 := hide hb1
  have HS2 : Hid ((w1.alloc (.cells #[.int .i64 it.tag, .int .i64 it.typ, .int .i64 it.int, .slice da it.data.length dc, .slice ka it.kids.length kc] 25)).heap.size = w1.heap.size + 1) := by show _ = _; simp
  clear hit hsm hcnt o1 hfair oI hb1
  go_upto_region 2 with fail
  generalize w1.alloc (.cells #[.int .i64 it.tag, .int .i64 it.typ, .int .i64 it.int, .slice da it.data.length dc, .slice ka it.kids.length kc] 25) = w2 at *
  generalize w1.heap.size = b1 at *
  go_wp2_with fail
  refine (unhide HTree2 _ (unhide HO2)).mono ?_
  rintro e w3 ⟨jt, dv, kv, rfl, hjt, hsm, hcnt, o3⟩
  obtain ⟨⟨ja, jc, hds⟩, la, lc, hks⟩ := hjt.shapes
  subst hds
  subst hks
  have hb3 := heap_alloc_new w3 (.cells #[.int .i64 jt.tag, .int .i64 jt.typ, .int .i64 jt.int, .slice ja jt.data.length jc, .slice la jt.kids.length lc] 25)
  have oJ := (Only.refl (fun _ => False) w3).alloc (.cells #[.int .i64 jt.tag, .int .i64 jt.typ, .int .i64 jt.int, .slice ja jt.data.length jc, .slice la jt.kids.length lc] 25)
  have HO4 := hide ((unhide HO2).trans (o3.trans oJ (fun _ _ e => e)) (fun _ _ e => e))
  have HB14 := hide ((o3.trans oJ (fun _ _ e => e)).heap (unhide HB1) (fun e => e))
  have HIT4 := hide ((unhide HIT).same (o3.trans oJ (fun _ _ e => e)))
  have HJT := hide (hjt.same oJ)
  have HB3 := hide hb3
  have HS13 := hide o3.size
  clear hjt hsm hcnt o3 oJ hb3 HB1 HIT HO2 HTree2
  go_upto_region 5 with fail
  generalize w3.alloc (.cells #[.int .i64 jt.tag, .int .i64 jt.typ, .int .i64 jt.int, .slice ja jt.data.length jc, .slice la jt.kids.length lc] 25) = w4 at *
  generalize w3.heap.size = b3 at *
  have HC1 := hide (cells_of5 (unhide HB14))
  have HC2 := hide (cells_of5 (unhide HB3))
  have HKid := hide (fun (g : Int) => kid_any 30 it _ _ g w4 (unhide HIT4) (unhide HCnt) (unhide HSm))
  have HPs := hide (fun W' (o : Only (fun _ => False) w4 W') => psame_any 31 _ _ it jt _ _ _ _ W' ((unhide HIT4).same o) ((unhide HJT).same o))
  have HRs := hide (fun W' (o : Only (fun _ => False) w4 W') => rsame_any 31 it jt _ _ _ _ W' ((unhide HIT4).same o) ((unhide HJT).same o))
  have HKs := hide (unhide HIT4).2.2
  unfold ival at HKid HPs HRs
  clear HB14 HB3
  go_wp2_with fail
  refine (pick_any tag 200 _ (by omega) (by omega)).mono ?_
  rintro e wp ⟨rfl, rfl⟩
  obtain ⟨g, hg, hg2⟩ : ∃ g : Nat, tag % 200 = (g : Int) ∧ g < 200 := ⟨(tag % 200).toNat, by omega, by omega⟩
  rw [hg]
  clear hg
  obtain ⟨c0, c1, c2, c3, c4⟩ := unhide HC1
  have hwg : IntKind.i64.wrap (4325376 + (g : Int)) = ((4325376 + g : Nat) : Int) := by rw [IntKind.wrap_i64]; omega
  obtain ⟨G, hG⟩ : ∃ G : Int, G = ((4325376 + g : Nat) : Int) := ⟨_, rfl⟩
  rw [← hG] at hwg
  have hwg' : 4325376 + (g : Int) = G := by omega
  clear hG
  go_wp2_with fail
  refine (unhide HKid _).mono ?_
  rintro e w7 ⟨he, o7⟩
  have H7 := hide o7
  clear c0 c1 c2 c3 c4 o7 hwg hwg'
  cases hfk : firstKid G it.kids with
  | none =>
    rw [hfk] at he
    have he2 : e = .returned (.tuple #[zeroI, .bool false]) := he
    subst he2
    clear he
    have oX := (Only.refl (fun _ => False) w7).alloc (.cells #[.int .i64 0, .int .i64 0, .int .i64 0, .slice none 0 0, .slice none 0 0] 25)
    have hbX := heap_alloc_new w7 (.cells #[.int .i64 0, .int .i64 0, .int .i64 0, .slice none 0 0, .slice none 0 0] 25)
    have H8 := hide ((unhide H7).trans oX (fun _ _ e => e))
    have HBX := hide hbX
    have HFK := hide hfk
    clear oX hbX hfk H7
    go_upto_region 7 with fail
    generalize w7.alloc (.cells #[.int .i64 0, .int .i64 0, .int .i64 0, .slice none 0 0, .slice none 0 0] 25) = w8 at *
    generalize w7.heap.size = b7 at *
    obtain ⟨_, _, _, _, c4⟩ := unhide HC1
    have c4 := (unhide H8).cell c4 (fun e => e)
    obtain ⟨N, hN⟩ : ∃ N, N = it.kids.length := ⟨_, rfl⟩
    have HN := hide hN
    rw [← hN] at c4
    have hNb : N ≤ 1000 := by rw [hN]; have := countAll_len it.kids; have h2 := unhide HCnt; obtain ⟨t, y, k, d, ks⟩ := it; rw [It.count] at h2; simp only [It.kids] at this ⊢; omega
    rw [← hN] at HKs
    clear hN
    go_wp2
    go_loop [13, 14] (fun a j => ∃ (m : Nat) (av : Int), m ≤ N ∧ a = .int .i64 av ∧ j = .int .i64 ((m : Int) - 1) ∧ Hid (AtIs G it.kids m av)) (fun _ j => (intOf j + 1).toNat)
    case atStart => exact ⟨N, -1, Nat.le_refl _, rfl, by go_num, Or.inl ⟨rfl, fun j x hj hx => absurd (List.getElem?_eq_some_iff.1 hx).1 (by rw [← unhide HN]; omega)⟩⟩
    case round =>
      obtain ⟨m, av, hm, rfl, rfl, HAt⟩ := hrel
      by_cases hlt : 0 < m
      · obtain ⟨m, rfl⟩ : ∃ p, m = p + 1 := ⟨m - 1, by omega⟩
        have hmk : m < it.kids.length := by rw [← unhide HN]; omega
        obtain ⟨bb, off, dv, kv, rfl, hq, p0, _, _, _, _, _⟩ := (unhide HKs).at m hmk
        have p0 := (unhide H8).cell p0 (fun e => e)
        have HKm : Hid (it.kids[m]? = some it.kids[m]) := List.getElem?_eq_getElem hmk
        generalize it.kids[m] = kd at *
        have hm1 : ((m + 1 : Nat) : Int) - 1 = (m : Int) := by omega
        rw [hm1]
        have hmN : (m : Int) < N := by omega
        have hm0 : (0 : Int) ≤ m := by omega
        clear hq hmk hm1 hlt hm
        by_cases he : kd.tag = G
        · have HA2 : Hid (AtIs G it.kids m m) := atIs_yes (unhide HKm) he
          have heb : (kd.tag == G) = true := by simp [he]
          clear he
          go_wp2
          go_round
          case rel => exact ⟨m, m, by omega, rfl, by go_num, HA2⟩
          case measure => first | (simp [intOf]; done) | (simp [intOf]; omega)
        · have HA2 : Hid (AtIs G it.kids m av) := atIs_no (unhide HAt) (unhide HKm) he
          have heb : (kd.tag == G) = false := by simp [he]
          clear he
          go_wp2
          go_round
          case rel => exact ⟨m, av, by omega, rfl, by go_num, HA2⟩
          case measure => first | (simp [intOf]; done) | (simp [intOf]; omega)
      · obtain rfl : m = 0 := by omega
        rcases atIs_end (unhide HAt) with ⟨rfl, hf⟩ | ⟨p, x, rfl, hp, hf⟩
        · skip
          clear hf HAt hm hlt c4 HBX
          go_wp2_with fail
          go_quiet (fail)
          generalize hw9 : w8.drewN _ = w9 at *
          have H9 : Hid (Only (fun _ => False) wp w9) := by rw [← hw9]; exact (unhide H8).trans (Only.drewsS _) (fun _ _ e => e)
          clear hw9
          have HO9 := hide ((unhide HO4).trans (unhide H9) (fun _ _ e => e))
          obtain ⟨B, hB⟩ : ∃ B, sameB it jt = B := ⟨_, rfl⟩
          rw [hB] at HPs HRs
          clear hB
          have H99 := hide (Only.refl (fun _ => False) w9)
          go_wp2_with fail
          refine wp_region_held_drew (S := (fun w' => Only (fun _ => False) w9 w')) (by kernel_rfl) ((Only.refl _ _).drew) (fun hHeld => ?_)
          refine wpAnyH_ready (rs := [0]) (by kernel_rfl) (by simp) ?_
          refine AllReadyH.cons rfl (fun K hK => ?_) AllReadyH.nil
          go_simp
          go_wp2_with fail; refine (unhide HKn _ (Only.trans (unhide HO9) (by first | exact Only.refl _ _ | exact (Only.refl _ _).drew) (fun _ _ e => e))).mono ?_; rintro e xa ⟨rfl, ya⟩; have HMa : Hid (Only (fun _ => False) w9 xa) := Only.trans (by first | exact Only.refl _ _ | exact (Only.refl _ _).drew) ya (fun _ _ e => e)
          refine hK.out _ _ ((unhide HMa)) (fun hHeld => ?_)
          clear hK K
          try simp only [Act.put, List.setIfInBounds_toArray, List.set_cons_zero, List.set_cons_succ, List.getElem_toArray, List.getElem_cons_succ, List.getElem_cons_zero]
          refine wpAnyH_take (i := 1) (v := ?v1) rfl (by kernel_rfl) (by kernel_rfl) (by kernel_rfl) (fun _ _ _ h => h) (Or.inl ⟨by rfl, ?hy1⟩) (by assumption) ?rest1
          case hy1 =>
            intro w hSw
            go_simp
            try with_reducible rfl
          try simp only [Act.put, List.setIfInBounds_toArray, List.set_cons_zero, List.set_cons_succ, List.getElem_toArray, List.getElem_cons_succ, List.getElem_cons_zero]
          refine wpAnyH_take (i := 2) (v := ?v2) rfl (by kernel_rfl) (by kernel_rfl) (by kernel_rfl) (fun _ _ _ h => h) (Or.inl ⟨by rfl, ?hy2⟩) (by assumption) ?rest2
          case hy2 =>
            intro w hSw
            (obtain ⟨q0, q1, q2, q3, q4⟩ := unhide HC1; have q0 := hSw.cell ((unhide H9).cell q0 (fun e => e)) (fun e => e); have q1 := hSw.cell ((unhide H9).cell q1 (fun e => e)) (fun e => e); have q2 := hSw.cell ((unhide H9).cell q2 (fun e => e)) (fun e => e); have q3 := hSw.cell ((unhide H9).cell q3 (fun e => e)) (fun e => e); have q4 := hSw.cell ((unhide H9).cell q4 (fun e => e)) (fun e => e); go_simp; try with_reducible rfl)
          try simp only [Act.put, List.setIfInBounds_toArray, List.set_cons_zero, List.set_cons_succ, List.getElem_toArray, List.getElem_cons_succ, List.getElem_cons_zero]
          refine wpAnyH_take (i := 3) (v := ?v3) rfl (by kernel_rfl) (by kernel_rfl) (by kernel_rfl) (fun _ _ _ h => h) (Or.inl ⟨by rfl, ?hy3⟩) (by assumption) ?rest3
          case hy3 =>
            intro w hSw
            (obtain ⟨q0, q1, q2, q3, q4⟩ := unhide HC2; have q0 := hSw.cell ((unhide H9).cell q0 (fun e => e)) (fun e => e); have q1 := hSw.cell ((unhide H9).cell q1 (fun e => e)) (fun e => e); have q2 := hSw.cell ((unhide H9).cell q2 (fun e => e)) (fun e => e); have q3 := hSw.cell ((unhide H9).cell q3 (fun e => e)) (fun e => e); have q4 := hSw.cell ((unhide H9).cell q4 (fun e => e)) (fun e => e); go_simp; try with_reducible rfl)
          try simp only [Act.put, List.setIfInBounds_toArray, List.set_cons_zero, List.set_cons_succ, List.getElem_toArray, List.getElem_cons_succ, List.getElem_cons_zero]
          refine wpAnyH_take (i := 5) (v := ?v4) rfl (by kernel_rfl) (by kernel_rfl) (by kernel_rfl) (fun _ _ _ h => h) (Or.inl ⟨by rfl, ?hy4⟩) (by assumption) ?rest4
          case hy4 =>
            intro w hSw
            (obtain ⟨q0, q1, q2, q3, q4⟩ := unhide HC1; have q0 := hSw.cell ((unhide H9).cell q0 (fun e => e)) (fun e => e); have q1 := hSw.cell ((unhide H9).cell q1 (fun e => e)) (fun e => e); have q2 := hSw.cell ((unhide H9).cell q2 (fun e => e)) (fun e => e); have q3 := hSw.cell ((unhide H9).cell q3 (fun e => e)) (fun e => e); have q4 := hSw.cell ((unhide H9).cell q4 (fun e => e)) (fun e => e); go_simp; try with_reducible rfl)
          try simp only [Act.put, List.setIfInBounds_toArray, List.set_cons_zero, List.set_cons_succ, List.getElem_toArray, List.getElem_cons_succ, List.getElem_cons_zero]
          refine wpAnyH_take (i := 6) (v := ?v5) rfl (by kernel_rfl) (by kernel_rfl) (by kernel_rfl) (fun _ _ _ h => h) (Or.inl ⟨by rfl, ?hy5⟩) (by assumption) ?rest5
          case hy5 =>
            intro w hSw
            (obtain ⟨q0, q1, q2, q3, q4⟩ := unhide HC2; have q0 := hSw.cell ((unhide H9).cell q0 (fun e => e)) (fun e => e); have q1 := hSw.cell ((unhide H9).cell q1 (fun e => e)) (fun e => e); have q2 := hSw.cell ((unhide H9).cell q2 (fun e => e)) (fun e => e); have q3 := hSw.cell ((unhide H9).cell q3 (fun e => e)) (fun e => e); have q4 := hSw.cell ((unhide H9).cell q4 (fun e => e)) (fun e => e); go_simp; try with_reducible rfl)
          try simp only [Act.put, List.setIfInBounds_toArray, List.set_cons_zero, List.set_cons_succ, List.getElem_toArray, List.getElem_cons_succ, List.getElem_cons_zero]
          refine wpAnyH_ready (rs := [4]) (by kernel_rfl) (by simp) ?_
          refine AllReadyH.cons rfl (fun K hK => ?_) AllReadyH.nil
          go_simp
          go_wp2_with fail; refine (unhide HPs _ (Only.trans (unhide H9) (by first | exact unhide HMa | exact (unhide HMa).drew) (fun _ _ e => e))).mono ?_; rintro e xb ⟨rfl, yb⟩; have HMb : Hid (Only (fun _ => False) w9 xb) := Only.trans (by first | exact unhide HMa | exact (unhide HMa).drew) yb (fun _ _ e => e)
          refine hK.out _ _ ((unhide HMb)) (fun hHeld => ?_)
          clear hK K
          try simp only [Act.put, List.setIfInBounds_toArray, List.set_cons_zero, List.set_cons_succ, List.getElem_toArray, List.getElem_cons_succ, List.getElem_cons_zero]
          refine wpAnyH_ready (rs := [7]) (by kernel_rfl) (by simp) ?_
          refine AllReadyH.cons rfl (fun K hK => ?_) AllReadyH.nil
          go_simp
          go_wp2_with fail; refine (unhide HRs _ (Only.trans (unhide H9) (by first | exact unhide HMb | exact (unhide HMb).drew) (fun _ _ e => e))).mono ?_; rintro e xc ⟨rfl, yc⟩; have HMc : Hid (Only (fun _ => False) w9 xc) := Only.trans (by first | exact unhide HMb | exact (unhide HMb).drew) yc (fun _ _ e => e)
          refine hK.out _ _ ((unhide HMc)) (fun hHeld => ?_)
          clear hK K
          try simp only [Act.put, List.setIfInBounds_toArray, List.set_cons_zero, List.set_cons_succ, List.getElem_toArray, List.getElem_cons_succ, List.getElem_cons_zero]
          refine wpAnyH_take (i := 8) (v := ?v6) rfl (by kernel_rfl) (by kernel_rfl) (by kernel_rfl) (fun _ _ _ h => h) (Or.inl ⟨by rfl, ?hy6⟩) (by assumption) ?rest6
          case hy6 =>
            intro w hSw
            go_simp
            try with_reducible rfl
          try simp only [Act.put, List.setIfInBounds_toArray, List.set_cons_zero, List.set_cons_succ, List.getElem_toArray, List.getElem_cons_succ, List.getElem_cons_zero]
          refine wpAnyH_take (i := 9) (v := ?v7) rfl (by kernel_rfl) (by kernel_rfl) (by kernel_rfl) (fun _ _ _ h => h) (Or.inl ⟨by rfl, ?hy7⟩) (by assumption) ?rest7
          case hy7 =>
            intro w hSw
            go_simp
            try with_reducible rfl
          try simp only [Act.put, List.setIfInBounds_toArray, List.set_cons_zero, List.set_cons_succ, List.getElem_toArray, List.getElem_cons_succ, List.getElem_cons_zero]
          refine wpAnyH_take (i := 10) (v := ?v8) rfl (by kernel_rfl) (by kernel_rfl) (by kernel_rfl) (fun _ _ _ h => h) (Or.inl ⟨by rfl, ?hy8⟩) (by assumption) ?rest8
          case hy8 =>
            intro w hSw
            go_simp
            try with_reducible rfl
          try simp only [Act.put, List.setIfInBounds_toArray, List.set_cons_zero, List.set_cons_succ, List.getElem_toArray, List.getElem_cons_succ, List.getElem_cons_zero]
          refine wpAnyH_done (by kernel_rfl) ?_ _
          go_wp2
          go_ret
          exact ⟨rfl, (unhide HO9).trans (unhide HMc) (fun _ _ e => e)⟩
        · exact absurd ((unhide HFK).symm.trans hf) (by simp)
  | some kid =>
    rw [hfk] at he
    obtain ⟨xa, xl, xc, xb, xm, xd, rfl, hx⟩ := he
    have oX := (Only.refl (fun _ => False) w7).alloc (.cells #[.int .i64 kid.tag, .int .i64 kid.typ, .int .i64 kid.int, .slice xa xl xc, .slice xb xm xd] 25)
    have hbX := heap_alloc_new w7 (.cells #[.int .i64 kid.tag, .int .i64 kid.typ, .int .i64 kid.int, .slice xa xl xc, .slice xb xm xd] 25)
    have H8 := hide ((unhide H7).trans oX (fun _ _ e => e))
    have HBX := hide hbX
    have HFK := hide hfk
    have HX8 := hide (hx.same oX)
    clear oX hbX hfk H7 hx
    go_upto_region 7 with fail
    generalize w7.alloc (.cells #[.int .i64 kid.tag, .int .i64 kid.typ, .int .i64 kid.int, .slice xa xl xc, .slice xb xm xd] 25) = w8 at *
    generalize w7.heap.size = b7 at *
    obtain ⟨_, _, _, _, c4⟩ := unhide HC1
    have c4 := (unhide H8).cell c4 (fun e => e)
    obtain ⟨N, hN⟩ : ∃ N, N = it.kids.length := ⟨_, rfl⟩
    have HN := hide hN
    rw [← hN] at c4
    have hNb : N ≤ 1000 := by rw [hN]; have := countAll_len it.kids; have h2 := unhide HCnt; obtain ⟨t, y, k, d, ks⟩ := it; rw [It.count] at h2; simp only [It.kids] at this ⊢; omega
    rw [← hN] at HKs
    clear hN
    go_wp2
    go_loop [13, 14] (fun a j => ∃ (m : Nat) (av : Int), m ≤ N ∧ a = .int .i64 av ∧ j = .int .i64 ((m : Int) - 1) ∧ Hid (AtIs G it.kids m av)) (fun _ j => (intOf j + 1).toNat)
    case atStart => exact ⟨N, -1, Nat.le_refl _, rfl, by go_num, Or.inl ⟨rfl, fun j x hj hx => absurd (List.getElem?_eq_some_iff.1 hx).1 (by rw [← unhide HN]; omega)⟩⟩
    case round =>
      obtain ⟨m, av, hm, rfl, rfl, HAt⟩ := hrel
      by_cases hlt : 0 < m
      · obtain ⟨m, rfl⟩ : ∃ p, m = p + 1 := ⟨m - 1, by omega⟩
        have hmk : m < it.kids.length := by rw [← unhide HN]; omega
        obtain ⟨bb, off, dv, kv, rfl, hq, p0, _, _, _, _, _⟩ := (unhide HKs).at m hmk
        have p0 := (unhide H8).cell p0 (fun e => e)
        have HKm : Hid (it.kids[m]? = some it.kids[m]) := List.getElem?_eq_getElem hmk
        generalize it.kids[m] = kd at *
        have hm1 : ((m + 1 : Nat) : Int) - 1 = (m : Int) := by omega
        rw [hm1]
        have hmN : (m : Int) < N := by omega
        have hm0 : (0 : Int) ≤ m := by omega
        clear hq hmk hm1 hlt hm
        by_cases he : kd.tag = G
        · have HA2 : Hid (AtIs G it.kids m m) := atIs_yes (unhide HKm) he
          have heb : (kd.tag == G) = true := by simp [he]
          clear he
          go_wp2
          go_round
          case rel => exact ⟨m, m, by omega, rfl, by go_num, HA2⟩
          case measure => first | (simp [intOf]; done) | (simp [intOf]; omega)
        · have HA2 : Hid (AtIs G it.kids m av) := atIs_no (unhide HAt) (unhide HKm) he
          have heb : (kd.tag == G) = false := by simp [he]
          clear he
          go_wp2
          go_round
          case rel => exact ⟨m, av, by omega, rfl, by go_num, HA2⟩
          case measure => first | (simp [intOf]; done) | (simp [intOf]; omega)
      · obtain rfl : m = 0 := by omega
        rcases atIs_end (unhide HAt) with ⟨rfl, hf⟩ | ⟨p, x, rfl, hp, hf⟩
        · exact absurd ((unhide HFK).symm.trans hf) (by simp)
        · obtain rfl : kid = x := by have := (unhide HFK).symm.trans hf; simpa using this
          have hpl : p < it.kids.length := (List.getElem?_eq_some_iff.1 hp).1
          have hpk : it.kids[p] = kid := by have := List.getElem?_eq_getElem hpl; rw [hp] at this; simpa using this.symm
          obtain ⟨bb, off, dv, kv, rfl, hq, p0, p1, p2, p3, p4, hik⟩ := (unhide HKs).at p hpl
          rw [hpk] at p0 p1 p2 hik
          obtain ⟨⟨ea, ec, hds⟩, eb, ed, hks⟩ := hik.shapes
          subst hds
          subst hks
          have HKC := hide (And.intro p0 (And.intro p1 (And.intro p2 (And.intro p3 p4))))
          have HRk := hide (fun W' (o : Only (fun _ => False) w8 W') => rsame_any 30 kid kid _ _ _ _ W' ((unhide HX8).same o) ((hik.same (unhide H8)).same o))
          rw [sameB_refl'] at HRk
          unfold ival at HRk
          have hpN : (p : Int) < N := by have := unhide HN; omega
          have hp0 : (0 : Int) ≤ p := by omega
          have HXC := hide (cells_of5 (unhide HBX))
          have H88 := hide (Only.refl (fun _ => False) w8)
          clear hp hf hpl hpk hq p0 p1 p2 p3 p4 hik HAt hm hlt c4
          go_wp2_with fail
          refine wp_region_held_drew (S := (fun w' => Only (fun _ => False) w8 w')) (by kernel_rfl) ((Only.refl _ _).drew) (fun hHeld => ?_)
          refine wpAnyH_take (i := 0) (v := ?v9) rfl (by kernel_rfl) (by kernel_rfl) (by kernel_rfl) (fun _ _ _ h => h) (Or.inl ⟨by rfl, ?hy9⟩) (by assumption) ?rest9
          case hy9 =>
            intro w hSw
            go_simp
            try with_reducible rfl
          try simp only [Act.put, List.setIfInBounds_toArray, List.set_cons_zero, List.set_cons_succ, List.getElem_toArray, List.getElem_cons_succ, List.getElem_cons_zero]
          refine wpAnyH_take (i := 1) (v := ?v10) rfl (by kernel_rfl) (by kernel_rfl) (by kernel_rfl) (fun _ _ _ h => h) (Or.inl ⟨by rfl, ?hy10⟩) (by assumption) ?rest10
          case hy10 =>
            intro w hSw
            go_simp
            try with_reducible rfl
          try simp only [Act.put, List.setIfInBounds_toArray, List.set_cons_zero, List.set_cons_succ, List.getElem_toArray, List.getElem_cons_succ, List.getElem_cons_zero]
          refine wpAnyH_take (i := 2) (v := ?v11) rfl (by kernel_rfl) (by kernel_rfl) (by kernel_rfl) (fun _ _ _ h => h) (Or.inl ⟨by rfl, ?hy11⟩) (by assumption) ?rest11
          case hy11 =>
            intro w hSw
            go_simp
            try with_reducible rfl
          try simp only [Act.put, List.setIfInBounds_toArray, List.set_cons_zero, List.set_cons_succ, List.getElem_toArray, List.getElem_cons_succ, List.getElem_cons_zero]
          refine wpAnyH_take (i := 3) (v := ?v12) rfl (by kernel_rfl) (by kernel_rfl) (by kernel_rfl) (fun _ _ _ h => h) (Or.inl ⟨by rfl, ?hy12⟩) (by assumption) ?rest12
          case hy12 =>
            intro w hSw
            go_simp
            try with_reducible rfl
          try simp only [Act.put, List.setIfInBounds_toArray, List.set_cons_zero, List.set_cons_succ, List.getElem_toArray, List.getElem_cons_succ, List.getElem_cons_zero]
          refine wpAnyH_take (i := 4) (v := ?v13) rfl (by kernel_rfl) (by kernel_rfl) (by kernel_rfl) (fun _ _ _ h => h) (Or.inl ⟨by rfl, ?hy13⟩) (by assumption) ?rest13
          case hy13 =>
            intro w hSw
            go_simp
            try with_reducible rfl
          try simp only [Act.put, List.setIfInBounds_toArray, List.set_cons_zero, List.set_cons_succ, List.getElem_toArray, List.getElem_cons_succ, List.getElem_cons_zero]
          refine wpAnyH_take (i := 5) (v := ?v14) rfl (by kernel_rfl) (by kernel_rfl) (by kernel_rfl) (fun _ _ _ h => h) (Or.inl ⟨by rfl, ?hy14⟩) (by assumption) ?rest14
          case hy14 =>
            intro w hSw
            go_simp
            try with_reducible rfl
          try simp only [Act.put, List.setIfInBounds_toArray, List.set_cons_zero, List.set_cons_succ, List.getElem_toArray, List.getElem_cons_succ, List.getElem_cons_zero]
          refine wpAnyH_take (i := 6) (v := ?v15) rfl (by kernel_rfl) (by kernel_rfl) (by kernel_rfl) (fun _ _ _ h => h) (Or.inl ⟨by rfl, ?hy15⟩) (by assumption) ?rest15
          case hy15 =>
            intro w hSw
            go_simp
            try with_reducible rfl
          try simp only [Act.put, List.setIfInBounds_toArray, List.set_cons_zero, List.set_cons_succ, List.getElem_toArray, List.getElem_cons_succ, List.getElem_cons_zero]
          refine wpAnyH_take (i := 7) (v := ?v16) rfl (by kernel_rfl) (by kernel_rfl) (by kernel_rfl) (fun _ _ _ h => h) (Or.inl ⟨by rfl, ?hy16⟩) (by assumption) ?rest16
          case hy16 =>
            intro w hSw
            (obtain ⟨q0, q1, q2, q3, q4⟩ := unhide HXC; have q0 := hSw.cell ((unhide H88).cell q0 (fun e => e)) (fun e => e); have q1 := hSw.cell ((unhide H88).cell q1 (fun e => e)) (fun e => e); have q2 := hSw.cell ((unhide H88).cell q2 (fun e => e)) (fun e => e); have q3 := hSw.cell ((unhide H88).cell q3 (fun e => e)) (fun e => e); have q4 := hSw.cell ((unhide H88).cell q4 (fun e => e)) (fun e => e); go_simp; try with_reducible rfl)
          try simp only [Act.put, List.setIfInBounds_toArray, List.set_cons_zero, List.set_cons_succ, List.getElem_toArray, List.getElem_cons_succ, List.getElem_cons_zero]
          refine wpAnyH_take (i := 8) (v := ?v17) rfl (by kernel_rfl) (by kernel_rfl) (by kernel_rfl) (fun _ _ _ h => h) (Or.inl ⟨by rfl, ?hy17⟩) (by assumption) ?rest17
          case hy17 =>
            intro w hSw
            go_simp
            try with_reducible rfl
          try simp only [Act.put, List.setIfInBounds_toArray, List.set_cons_zero, List.set_cons_succ, List.getElem_toArray, List.getElem_cons_succ, List.getElem_cons_zero]
          refine wpAnyH_take (i := 9) (v := ?v18) rfl (by kernel_rfl) (by kernel_rfl) (by kernel_rfl) (fun _ _ _ h => h) (Or.inl ⟨by rfl, ?hy18⟩) (by assumption) ?rest18
          case hy18 =>
            intro w hSw
            (obtain ⟨_, _, _, _, q4⟩ := unhide HC1; have q4 := hSw.cell ((unhide H8).cell q4 (fun e => e)) (fun e => e); rw [← unhide HN] at q4; go_simp; try with_reducible rfl)
          try simp only [Act.put, List.setIfInBounds_toArray, List.set_cons_zero, List.set_cons_succ, List.getElem_toArray, List.getElem_cons_succ, List.getElem_cons_zero]
          refine wpAnyH_take (i := 10) (v := ?v19) rfl (by kernel_rfl) (by kernel_rfl) (by kernel_rfl) (fun _ _ _ h => h) (Or.inl ⟨by rfl, ?hy19⟩) (by assumption) ?rest19
          case hy19 =>
            intro w hSw
            go_simp
            try with_reducible rfl
          try simp only [Act.put, List.setIfInBounds_toArray, List.set_cons_zero, List.set_cons_succ, List.getElem_toArray, List.getElem_cons_succ, List.getElem_cons_zero]
          refine wpAnyH_take (i := 11) (v := ?v20) rfl (by kernel_rfl) (by kernel_rfl) (by kernel_rfl) (fun _ _ _ h => h) (Or.inl ⟨by rfl, ?hy20⟩) (by assumption) ?rest20
          case hy20 =>
            intro w hSw
            go_simp
            try with_reducible rfl
          try simp only [Act.put, List.setIfInBounds_toArray, List.set_cons_zero, List.set_cons_succ, List.getElem_toArray, List.getElem_cons_succ, List.getElem_cons_zero]
          refine wpAnyH_take (i := 12) (v := ?v21) rfl (by kernel_rfl) (by kernel_rfl) (by kernel_rfl) (fun _ _ _ h => h) (Or.inl ⟨by rfl, ?hy21⟩) (by assumption) ?rest21
          case hy21 =>
            intro w hSw
            (obtain ⟨q0, q1, q2, q3, q4⟩ := unhide HKC; have q0 := hSw.cell ((unhide H8).cell q0 (fun e => e)) (fun e => e); have q1 := hSw.cell ((unhide H8).cell q1 (fun e => e)) (fun e => e); have q2 := hSw.cell ((unhide H8).cell q2 (fun e => e)) (fun e => e); have q3 := hSw.cell ((unhide H8).cell q3 (fun e => e)) (fun e => e); have q4 := hSw.cell ((unhide H8).cell q4 (fun e => e)) (fun e => e); go_simp; try with_reducible rfl)
          try simp only [Act.put, List.setIfInBounds_toArray, List.set_cons_zero, List.set_cons_succ, List.getElem_toArray, List.getElem_cons_succ, List.getElem_cons_zero]
          refine wpAnyH_ready (rs := [13]) (by kernel_rfl) (by simp) ?_
          refine AllReadyH.cons rfl (fun K hK => ?_) AllReadyH.nil
          go_simp
          go_wp2_with fail; refine (unhide HRk _ (by first | exact Only.refl _ _ | exact (Only.refl _ _).drew)).mono ?_; rintro e w9 ⟨rfl, y9⟩; have HNa : Hid (Only (fun _ => False) w8 w9) := Only.trans (by first | exact Only.refl _ _ | exact (Only.refl _ _).drew) y9 (fun _ _ e => e)
          refine hK.out _ _ ((unhide HNa)) (fun hHeld => ?_)
          clear hK K
          try simp only [Act.put, List.setIfInBounds_toArray, List.set_cons_zero, List.set_cons_succ, List.getElem_toArray, List.getElem_cons_succ, List.getElem_cons_zero]
          refine wpAnyH_take (i := 14) (v := ?v22) rfl (by kernel_rfl) (by kernel_rfl) (by kernel_rfl) (fun _ _ _ h => h) (Or.inl ⟨by rfl, ?hy22⟩) (by assumption) ?rest22
          case hy22 =>
            intro w hSw
            go_simp
            try with_reducible rfl
          try simp only [Act.put, List.setIfInBounds_toArray, List.set_cons_zero, List.set_cons_succ, List.getElem_toArray, List.getElem_cons_succ, List.getElem_cons_zero]
          refine wpAnyH_take (i := 15) (v := ?v23) rfl (by kernel_rfl) (by kernel_rfl) (by kernel_rfl) (fun _ _ _ h => h) (Or.inl ⟨by rfl, ?hy23⟩) (by assumption) ?rest23
          case hy23 =>
            intro w hSw
            go_simp
            try with_reducible rfl
          try simp only [Act.put, List.setIfInBounds_toArray, List.set_cons_zero, List.set_cons_succ, List.getElem_toArray, List.getElem_cons_succ, List.getElem_cons_zero]
          refine wpAnyH_take (i := 16) (v := ?v24) rfl (by kernel_rfl) (by kernel_rfl) (by kernel_rfl) (fun _ _ _ h => h) (Or.inl ⟨by rfl, ?hy24⟩) (by assumption) ?rest24
          case hy24 =>
            intro w hSw
            go_simp
            try with_reducible rfl
          try simp only [Act.put, List.setIfInBounds_toArray, List.set_cons_zero, List.set_cons_succ, List.getElem_toArray, List.getElem_cons_succ, List.getElem_cons_zero]
          refine wpAnyH_done (by kernel_rfl) ?_ _
          have H9 := hide ((unhide H8).trans (unhide HNa) (fun _ _ e => e))
          have HO9 := hide ((unhide HO4).trans (unhide H9) (fun _ _ e => e))
          obtain ⟨B, hB⟩ : ∃ B, sameB it jt = B := ⟨_, rfl⟩
          rw [hB] at HPs HRs
          clear hB
          have H99 := hide (Only.refl (fun _ => False) w9)
          go_wp2_with fail
          refine wp_region_held_drew (S := (fun w' => Only (fun _ => False) w9 w')) (by kernel_rfl) ((Only.refl _ _).drew) (fun hHeld => ?_)
          refine wpAnyH_ready (rs := [0]) (by kernel_rfl) (by simp) ?_
          refine AllReadyH.cons rfl (fun K hK => ?_) AllReadyH.nil
          go_simp
          go_wp2_with fail; refine (unhide HKn _ (Only.trans (unhide HO9) (by first | exact Only.refl _ _ | exact (Only.refl _ _).drew) (fun _ _ e => e))).mono ?_; rintro e xa ⟨rfl, ya⟩; have HMa : Hid (Only (fun _ => False) w9 xa) := Only.trans (by first | exact Only.refl _ _ | exact (Only.refl _ _).drew) ya (fun _ _ e => e)
          refine hK.out _ _ ((unhide HMa)) (fun hHeld => ?_)
          clear hK K
          try simp only [Act.put, List.setIfInBounds_toArray, List.set_cons_zero, List.set_cons_succ, List.getElem_toArray, List.getElem_cons_succ, List.getElem_cons_zero]
          refine wpAnyH_take (i := 1) (v := ?v25) rfl (by kernel_rfl) (by kernel_rfl) (by kernel_rfl) (fun _ _ _ h => h) (Or.inl ⟨by rfl, ?hy25⟩) (by assumption) ?rest25
          case hy25 =>
            intro w hSw
            go_simp
            try with_reducible rfl
          try simp only [Act.put, List.setIfInBounds_toArray, List.set_cons_zero, List.set_cons_succ, List.getElem_toArray, List.getElem_cons_succ, List.getElem_cons_zero]
          refine wpAnyH_take (i := 2) (v := ?v26) rfl (by kernel_rfl) (by kernel_rfl) (by kernel_rfl) (fun _ _ _ h => h) (Or.inl ⟨by rfl, ?hy26⟩) (by assumption) ?rest26
          case hy26 =>
            intro w hSw
            (obtain ⟨q0, q1, q2, q3, q4⟩ := unhide HC1; have q0 := hSw.cell ((unhide H9).cell q0 (fun e => e)) (fun e => e); have q1 := hSw.cell ((unhide H9).cell q1 (fun e => e)) (fun e => e); have q2 := hSw.cell ((unhide H9).cell q2 (fun e => e)) (fun e => e); have q3 := hSw.cell ((unhide H9).cell q3 (fun e => e)) (fun e => e); have q4 := hSw.cell ((unhide H9).cell q4 (fun e => e)) (fun e => e); go_simp; try with_reducible rfl)
          try simp only [Act.put, List.setIfInBounds_toArray, List.set_cons_zero, List.set_cons_succ, List.getElem_toArray, List.getElem_cons_succ, List.getElem_cons_zero]
          refine wpAnyH_take (i := 3) (v := ?v27) rfl (by kernel_rfl) (by kernel_rfl) (by kernel_rfl) (fun _ _ _ h => h) (Or.inl ⟨by rfl, ?hy27⟩) (by assumption) ?rest27
          case hy27 =>
            intro w hSw
            (obtain ⟨q0, q1, q2, q3, q4⟩ := unhide HC2; have q0 := hSw.cell ((unhide H9).cell q0 (fun e => e)) (fun e => e); have q1 := hSw.cell ((unhide H9).cell q1 (fun e => e)) (fun e => e); have q2 := hSw.cell ((unhide H9).cell q2 (fun e => e)) (fun e => e); have q3 := hSw.cell ((unhide H9).cell q3 (fun e => e)) (fun e => e); have q4 := hSw.cell ((unhide H9).cell q4 (fun e => e)) (fun e => e); go_simp; try with_reducible rfl)
          try simp only [Act.put, List.setIfInBounds_toArray, List.set_cons_zero, List.set_cons_succ, List.getElem_toArray, List.getElem_cons_succ, List.getElem_cons_zero]
          refine wpAnyH_take (i := 5) (v := ?v28) rfl (by kernel_rfl) (by kernel_rfl) (by kernel_rfl) (fun _ _ _ h => h) (Or.inl ⟨by rfl, ?hy28⟩) (by assumption) ?rest28
          case hy28 =>
            intro w hSw
            (obtain ⟨q0, q1, q2, q3, q4⟩ := unhide HC1; have q0 := hSw.cell ((unhide H9).cell q0 (fun e => e)) (fun e => e); have q1 := hSw.cell ((unhide H9).cell q1 (fun e => e)) (fun e => e); have q2 := hSw.cell ((unhide H9).cell q2 (fun e => e)) (fun e => e); have q3 := hSw.cell ((unhide H9).cell q3 (fun e => e)) (fun e => e); have q4 := hSw.cell ((unhide H9).cell q4 (fun e => e)) (fun e => e); go_simp; try with_reducible rfl)
          try simp only [Act.put, List.setIfInBounds_toArray, List.set_cons_zero, List.set_cons_succ, List.getElem_toArray, List.getElem_cons_succ, List.getElem_cons_zero]
          refine wpAnyH_take (i := 6) (v := ?v29) rfl (by kernel_rfl) (by kernel_rfl) (by kernel_rfl) (fun _ _ _ h => h) (Or.inl ⟨by rfl, ?hy29⟩) (by assumption) ?rest29
          case hy29 =>
            intro w hSw
            (obtain ⟨q0, q1, q2, q3, q4⟩ := unhide HC2; have q0 := hSw.cell ((unhide H9).cell q0 (fun e => e)) (fun e => e); have q1 := hSw.cell ((unhide H9).cell q1 (fun e => e)) (fun e => e); have q2 := hSw.cell ((unhide H9).cell q2 (fun e => e)) (fun e => e); have q3 := hSw.cell ((unhide H9).cell q3 (fun e => e)) (fun e => e); have q4 := hSw.cell ((unhide H9).cell q4 (fun e => e)) (fun e => e); go_simp; try with_reducible rfl)
          try simp only [Act.put, List.setIfInBounds_toArray, List.set_cons_zero, List.set_cons_succ, List.getElem_toArray, List.getElem_cons_succ, List.getElem_cons_zero]
          refine wpAnyH_ready (rs := [4]) (by kernel_rfl) (by simp) ?_
          refine AllReadyH.cons rfl (fun K hK => ?_) AllReadyH.nil
          go_simp
          go_wp2_with fail; refine (unhide HPs _ (Only.trans (unhide H9) (by first | exact unhide HMa | exact (unhide HMa).drew) (fun _ _ e => e))).mono ?_; rintro e xb ⟨rfl, yb⟩; have HMb : Hid (Only (fun _ => False) w9 xb) := Only.trans (by first | exact unhide HMa | exact (unhide HMa).drew) yb (fun _ _ e => e)
          refine hK.out _ _ ((unhide HMb)) (fun hHeld => ?_)
          clear hK K
          try simp only [Act.put, List.setIfInBounds_toArray, List.set_cons_zero, List.set_cons_succ, List.getElem_toArray, List.getElem_cons_succ, List.getElem_cons_zero]
          refine wpAnyH_ready (rs := [7]) (by kernel_rfl) (by simp) ?_
          refine AllReadyH.cons rfl (fun K hK => ?_) AllReadyH.nil
          go_simp
          go_wp2_with fail; refine (unhide HRs _ (Only.trans (unhide H9) (by first | exact unhide HMb | exact (unhide HMb).drew) (fun _ _ e => e))).mono ?_; rintro e xc ⟨rfl, yc⟩; have HMc : Hid (Only (fun _ => False) w9 xc) := Only.trans (by first | exact unhide HMb | exact (unhide HMb).drew) yc (fun _ _ e => e)
          refine hK.out _ _ ((unhide HMc)) (fun hHeld => ?_)
          clear hK K
          try simp only [Act.put, List.setIfInBounds_toArray, List.set_cons_zero, List.set_cons_succ, List.getElem_toArray, List.getElem_cons_succ, List.getElem_cons_zero]
          refine wpAnyH_take (i := 8) (v := ?v30) rfl (by kernel_rfl) (by kernel_rfl) (by kernel_rfl) (fun _ _ _ h => h) (Or.inl ⟨by rfl, ?hy30⟩) (by assumption) ?rest30
          case hy30 =>
            intro w hSw
            go_simp
            try with_reducible rfl
          try simp only [Act.put, List.setIfInBounds_toArray, List.set_cons_zero, List.set_cons_succ, List.getElem_toArray, List.getElem_cons_succ, List.getElem_cons_zero]
          refine wpAnyH_take (i := 9) (v := ?v31) rfl (by kernel_rfl) (by kernel_rfl) (by kernel_rfl) (fun _ _ _ h => h) (Or.inl ⟨by rfl, ?hy31⟩) (by assumption) ?rest31
          case hy31 =>
            intro w hSw
            go_simp
            try with_reducible rfl
          try simp only [Act.put, List.setIfInBounds_toArray, List.set_cons_zero, List.set_cons_succ, List.getElem_toArray, List.getElem_cons_succ, List.getElem_cons_zero]
          refine wpAnyH_take (i := 10) (v := ?v32) rfl (by kernel_rfl) (by kernel_rfl) (by kernel_rfl) (fun _ _ _ h => h) (Or.inl ⟨by rfl, ?hy32⟩) (by assumption) ?rest32
          case hy32 =>
            intro w hSw
            go_simp
            try with_reducible rfl
          try simp only [Act.put, List.setIfInBounds_toArray, List.set_cons_zero, List.set_cons_succ, List.getElem_toArray, List.getElem_cons_succ, List.getElem_cons_zero]
          refine wpAnyH_done (by kernel_rfl) ?_ _
          go_wp2
          go_ret
          exact ⟨rfl, (unhide HO9).trans (unhide HMc) (fun _ _ e => e)⟩

set_option maxHeartbeats 8000000 in
set_option maxRecDepth 100000 in
theorem ttlvSame_yes (lv lv' : Value) (m m' : Nat) (X X' : Nat → Raw6) (tag : Int) (w : World) (hr : Raws6 w lv m X) (hr' : Raws6 w lv' m' X') (hT : Tabs w) :
    Calls Tryd.prog 7 #[lv, lv', .int .i64 tag, .bool true] w fun e w' => e = .returned (.bool true) ∧ Only (fun _ => False) w w' := by
  have HTree := hide (fun W (o : Only (fun _ => False) w W) => tree_any lv m X 30 0 W (hr.same o) (by omega) (by omega))
  have HTree2 := hide (fun W (o : Only (fun _ => False) w W) => tree_any lv' m' X' 30 0 W (hr'.same o) (by omega) (by omega))
  have HT := hide hT
  have HKn := hide (fun W (o : Only (fun _ => False) w W) => known_any W ((unhide HT).same o))
  clear hr hr' hT
  go_enter Tryd.func7, Tryd.ntmps7
  go_wp2_with fail
  refine (unhide HTree _ (Only.refl _ _)).mono ?_
  rintro e w1 ⟨it, dv, kv, rfl, hit, hsm, hcnt, o1⟩
  have hfair := fair_of hsm hcnt
  have HCnt : Hid (it.count ≤ 1000) := by
    show _ ≤ _
    have h2 := cnt_le (fun k => ((X k).parent % k).toNat) (fun k hk => by
      have := Int.emod_nonneg (X k).parent (show (k : Int) ≠ 0 by omega)
      have := Int.emod_lt_of_pos (X k).parent (show (0 : Int) < k by omega)
      omega) (min m 30) 30
    omega
  have HSm : Hid (it.small 1000) := small_le it (by decide) hsm
  obtain ⟨⟨da, dc, hds⟩, ka, kc, hks⟩ := hit.shapes
  subst hds
  subst hks
  have hb1 := heap_alloc_new w1 (.cells #[.int .i64 it.tag, .int .i64 it.typ, .int .i64 it.int, .slice da it.data.length dc, .slice ka it.kids.length kc] 25)
  have oI := (Only.refl (fun _ => False) w1).alloc (.cells #[.int .i64 it.tag, .int .i64 it.typ, .int .i64 it.int, .slice da it.data.length dc, .slice ka it.kids.length kc] 25)
  have HO2 := hide (o1.trans oI (fun _ _ e => e))
  have HIT := hide (ItAt.mono (R := fun q => w.heap.size ≤ q ∧ q < w1.heap.size) (fun q h1 h2 => ⟨h2, h1⟩) 31 hit)
  have HIT := hide ((unhide HIT).same oI)
  have HSW := hide o1.size
  have HB1 := hide hb1
  have HS2 : Hid ((w1.alloc (.cells #[.int .i64 it.tag, .int .i64 it.typ, .int .i64 it.int, .slice da it.data.length dc, .slice ka it.kids.length kc] 25)).heap.size = w1.heap.size + 1) := by show _ = _; simp
  clear hit hsm hcnt o1 hfair oI hb1
  go_upto_region 2 with fail
  generalize w1.alloc (.cells #[.int .i64 it.tag, .int .i64 it.typ, .int .i64 it.int, .slice da it.data.length dc, .slice ka it.kids.length kc] 25) = w2 at *
  generalize w1.heap.size = b1 at *
  go_wp2_with fail
  refine (unhide HTree2 _ (unhide HO2)).mono ?_
  rintro e w3 ⟨jt, dv, kv, rfl, hjt, hsm, hcnt, o3⟩
  obtain ⟨⟨ja, jc, hds⟩, la, lc, hks⟩ := hjt.shapes
  subst hds
  subst hks
  have hb3 := heap_alloc_new w3 (.cells #[.int .i64 jt.tag, .int .i64 jt.typ, .int .i64 jt.int, .slice ja jt.data.length jc, .slice la jt.kids.length lc] 25)
  have oJ := (Only.refl (fun _ => False) w3).alloc (.cells #[.int .i64 jt.tag, .int .i64 jt.typ, .int .i64 jt.int, .slice ja jt.data.length jc, .slice la jt.kids.length lc] 25)
  have HO4 := hide ((unhide HO2).trans (o3.trans oJ (fun _ _ e => e)) (fun _ _ e => e))
  have HB14 := hide ((o3.trans oJ (fun _ _ e => e)).heap (unhide HB1) (fun e => e))
  have HIT4 := hide ((unhide HIT).same (o3.trans oJ (fun _ _ e => e)))
  have HJT := hide (hjt.same oJ)
  have HB3 := hide hb3
  have HS13 := hide o3.size
  clear hjt hsm hcnt o3 oJ hb3 HB1 HIT HO2 HTree2
  have HJL := hide ((unhide HO4).size)
  go_upto_region 4 with fail
  generalize w3.alloc (.cells #[.int .i64 jt.tag, .int .i64 jt.typ, .int .i64 jt.int, .slice ja jt.data.length jc, .slice la jt.kids.length lc] 25) = w4 at *
  generalize w3.heap.size = b3 at *
  go_wp2_with fail
  refine (unhide HTree _ (unhide HO4)).mono ?_
  rintro e w5 ⟨qt, dv, kv, rfl, hqt, hsm, hcnt, o5⟩
  obtain ⟨⟨qa, qc, hds⟩, qb, qd, hks⟩ := hqt.shapes
  subst hds
  subst hks
  have hb35 := o5.heap (unhide HB3) (fun e => e)
  have hf35 : ∀ i, w5.frozen? ⟨b3, i, none⟩ = false := by simp [World.frozen?, hb35]
  obtain ⟨d0, d1, d2, d3, d4⟩ := cells_of5 hb35
  obtain ⟨hb36, o6⟩ := put5 hb35 (.int .i64 qt.tag) (.int .i64 qt.typ) (.int .i64 qt.int) (.slice qa qt.data.length qc) (.slice qb qt.kids.length qd)
  have hb3l : b3 < w4.heap.size := (Array.getElem?_eq_some_iff.1 (unhide HB3)).1
  have HB3L := hide hb3l
  have HB36 := hide hb36
  have HQT := hide (ItAt.only o6 (fun q _ hq e => by have := unhide HB3L; omega) 31 hqt)
  have o46 := (o5.mono (T := fun q => q = b3) (fun _ _ e => e.elim)).trans o6 (fun _ _ e => e)
  have HB16 := hide (o46.heap (unhide HB14) (by have := unhide HS13; have := unhide HS2; omega))
  have HIT6 := hide (ItAt.only o46 (fun q _ hq e => by have h1 := hq.2; have := unhide HS13; have := unhide HS2; omega) 31 (unhide HIT4))
  have HO6 := hide ((unhide HO4).trans o46 (fun q hq e => by have := unhide HS13; have := unhide HS2; have := unhide HSW; omega))
  clear hqt hsm hcnt o5 hb35 hb36 o6 o46 hb3l HB3 HB14 HIT4 HO4 HJT
  go_upto_region 5 with fail
  clear d0 d1 d2 d3 d4 hf35
  generalize ((((w5.setCell ⟨b3, 0, none⟩ (.int .i64 qt.tag)).setCell ⟨b3, 1, none⟩ (.int .i64 qt.typ)).setCell ⟨b3, 2, none⟩ (.int .i64 qt.int)).setCell ⟨b3, 3, none⟩ (.slice qa qt.data.length qc)).setCell ⟨b3, 4, none⟩ (.slice qb qt.kids.length qd) = w6 at *
  have HC1 := hide (cells_of5 (unhide HB16))
  have HC2 := hide (cells_of5 (unhide HB36))
  have HKid := hide (fun (g : Int) => kid_any 30 it _ _ g w6 (unhide HIT6) (unhide HCnt) (unhide HSm))
  have HPs := hide (fun W' (o : Only (fun _ => False) w6 W') => psame_any 31 _ _ it qt _ _ _ _ W' ((unhide HIT6).same o) ((unhide HQT).same o))
  have HRs := hide (fun W' (o : Only (fun _ => False) w6 W') => rsame_any 31 it qt _ _ _ _ W' ((unhide HIT6).same o) ((unhide HQT).same o))
  have HKs := hide (unhide HIT6).2.2
  unfold ival at HKid HPs HRs
  clear HB16 HB36
  go_wp2_with fail
  refine (pick_any tag 200 _ (by omega) (by omega)).mono ?_
  rintro e wp ⟨rfl, rfl⟩
  obtain ⟨g, hg, hg2⟩ : ∃ g : Nat, tag % 200 = (g : Int) ∧ g < 200 := ⟨(tag % 200).toNat, by omega, by omega⟩
  rw [hg]
  clear hg
  obtain ⟨c0, c1, c2, c3, c4⟩ := unhide HC1
  have hwg : IntKind.i64.wrap (4325376 + (g : Int)) = ((4325376 + g : Nat) : Int) := by rw [IntKind.wrap_i64]; omega
  obtain ⟨G, hG⟩ : ∃ G : Int, G = ((4325376 + g : Nat) : Int) := ⟨_, rfl⟩
  rw [← hG] at hwg
  have hwg' : 4325376 + (g : Int) = G := by omega
  clear hG
  go_wp2_with fail
  refine (unhide HKid _).mono ?_
  rintro e w7 ⟨he, o7⟩
  have H7 := hide o7
  clear c0 c1 c2 c3 c4 o7 hwg hwg'
  cases hfk : firstKid G it.kids with
  | none =>
    rw [hfk] at he
    have he2 : e = .returned (.tuple #[zeroI, .bool false]) := he
    subst he2
    clear he
    have oX := (Only.refl (fun _ => False) w7).alloc (.cells #[.int .i64 0, .int .i64 0, .int .i64 0, .slice none 0 0, .slice none 0 0] 25)
    have hbX := heap_alloc_new w7 (.cells #[.int .i64 0, .int .i64 0, .int .i64 0, .slice none 0 0, .slice none 0 0] 25)
    have H8 := hide ((unhide H7).trans oX (fun _ _ e => e))
    have HBX := hide hbX
    have HFK := hide hfk
    clear oX hbX hfk H7
    go_upto_region 7 with fail
    generalize w7.alloc (.cells #[.int .i64 0, .int .i64 0, .int .i64 0, .slice none 0 0, .slice none 0 0] 25) = w8 at *
    generalize w7.heap.size = b7 at *
    obtain ⟨_, _, _, _, c4⟩ := unhide HC1
    have c4 := (unhide H8).cell c4 (fun e => e)
    obtain ⟨N, hN⟩ : ∃ N, N = it.kids.length := ⟨_, rfl⟩
    have HN := hide hN
    rw [← hN] at c4
    have hNb : N ≤ 1000 := by rw [hN]; have := countAll_len it.kids; have h2 := unhide HCnt; obtain ⟨t, y, k, d, ks⟩ := it; rw [It.count] at h2; simp only [It.kids] at this ⊢; omega
    rw [← hN] at HKs
    clear hN
    go_wp2
    go_loop [13, 14] (fun a j => ∃ (m : Nat) (av : Int), m ≤ N ∧ a = .int .i64 av ∧ j = .int .i64 ((m : Int) - 1) ∧ Hid (AtIs G it.kids m av)) (fun _ j => (intOf j + 1).toNat)
    case atStart => exact ⟨N, -1, Nat.le_refl _, rfl, by go_num, Or.inl ⟨rfl, fun j x hj hx => absurd (List.getElem?_eq_some_iff.1 hx).1 (by rw [← unhide HN]; omega)⟩⟩
    case round =>
      obtain ⟨m, av, hm, rfl, rfl, HAt⟩ := hrel
      by_cases hlt : 0 < m
      · obtain ⟨m, rfl⟩ : ∃ p, m = p + 1 := ⟨m - 1, by omega⟩
        have hmk : m < it.kids.length := by rw [← unhide HN]; omega
        obtain ⟨bb, off, dv, kv, rfl, hq, p0, _, _, _, _, _⟩ := (unhide HKs).at m hmk
        have p0 := (unhide H8).cell p0 (fun e => e)
        have HKm : Hid (it.kids[m]? = some it.kids[m]) := List.getElem?_eq_getElem hmk
        generalize it.kids[m] = kd at *
        have hm1 : ((m + 1 : Nat) : Int) - 1 = (m : Int) := by omega
        rw [hm1]
        have hmN : (m : Int) < N := by omega
        have hm0 : (0 : Int) ≤ m := by omega
        clear hq hmk hm1 hlt hm
        by_cases he : kd.tag = G
        · have HA2 : Hid (AtIs G it.kids m m) := atIs_yes (unhide HKm) he
          have heb : (kd.tag == G) = true := by simp [he]
          clear he
          go_wp2
          go_round
          case rel => exact ⟨m, m, by omega, rfl, by go_num, HA2⟩
          case measure => first | (simp [intOf]; done) | (simp [intOf]; omega)
        · have HA2 : Hid (AtIs G it.kids m av) := atIs_no (unhide HAt) (unhide HKm) he
          have heb : (kd.tag == G) = false := by simp [he]
          clear he
          go_wp2
          go_round
          case rel => exact ⟨m, av, by omega, rfl, by go_num, HA2⟩
          case measure => first | (simp [intOf]; done) | (simp [intOf]; omega)
      · obtain rfl : m = 0 := by omega
        rcases atIs_end (unhide HAt) with ⟨rfl, hf⟩ | ⟨p, x, rfl, hp, hf⟩
        · skip
          clear hf HAt hm hlt c4 HBX
          go_wp2_with fail
          go_quiet (fail)
          generalize hw9 : w8.drewN _ = w9 at *
          have H9 : Hid (Only (fun _ => False) wp w9) := by rw [← hw9]; exact (unhide H8).trans (Only.drewsS _) (fun _ _ e => e)
          clear hw9
          have HO9 := hide ((unhide HO6).trans (unhide H9) (fun _ _ e => e))
          obtain ⟨B, hB⟩ : ∃ B, sameB it qt = B := ⟨_, rfl⟩
          rw [hB] at HPs HRs
          clear hB
          have H99 := hide (Only.refl (fun _ => False) w9)
          go_wp2_with fail
          refine wp_region_held_drew (S := (fun w' => Only (fun _ => False) w9 w')) (by kernel_rfl) ((Only.refl _ _).drew) (fun hHeld => ?_)
          refine wpAnyH_ready (rs := [0]) (by kernel_rfl) (by simp) ?_
          refine AllReadyH.cons rfl (fun K hK => ?_) AllReadyH.nil
          go_simp
          go_wp2_with fail; refine (unhide HKn _ (Only.trans (unhide HO9) (by first | exact Only.refl _ _ | exact (Only.refl _ _).drew) (fun _ _ e => e))).mono ?_; rintro e xa ⟨rfl, ya⟩; have HMa : Hid (Only (fun _ => False) w9 xa) := Only.trans (by first | exact Only.refl _ _ | exact (Only.refl _ _).drew) ya (fun _ _ e => e)
          refine hK.out _ _ ((unhide HMa)) (fun hHeld => ?_)
          clear hK K
          try simp only [Act.put, List.setIfInBounds_toArray, List.set_cons_zero, List.set_cons_succ, List.getElem_toArray, List.getElem_cons_succ, List.getElem_cons_zero]
          refine wpAnyH_take (i := 1) (v := ?v33) rfl (by kernel_rfl) (by kernel_rfl) (by kernel_rfl) (fun _ _ _ h => h) (Or.inl ⟨by rfl, ?hy33⟩) (by assumption) ?rest33
          case hy33 =>
            intro w hSw
            go_simp
            try with_reducible rfl
          try simp only [Act.put, List.setIfInBounds_toArray, List.set_cons_zero, List.set_cons_succ, List.getElem_toArray, List.getElem_cons_succ, List.getElem_cons_zero]
          refine wpAnyH_take (i := 2) (v := ?v34) rfl (by kernel_rfl) (by kernel_rfl) (by kernel_rfl) (fun _ _ _ h => h) (Or.inl ⟨by rfl, ?hy34⟩) (by assumption) ?rest34
          case hy34 =>
            intro w hSw
            (obtain ⟨q0, q1, q2, q3, q4⟩ := unhide HC1; have q0 := hSw.cell ((unhide H9).cell q0 (fun e => e)) (fun e => e); have q1 := hSw.cell ((unhide H9).cell q1 (fun e => e)) (fun e => e); have q2 := hSw.cell ((unhide H9).cell q2 (fun e => e)) (fun e => e); have q3 := hSw.cell ((unhide H9).cell q3 (fun e => e)) (fun e => e); have q4 := hSw.cell ((unhide H9).cell q4 (fun e => e)) (fun e => e); go_simp; try with_reducible rfl)
          try simp only [Act.put, List.setIfInBounds_toArray, List.set_cons_zero, List.set_cons_succ, List.getElem_toArray, List.getElem_cons_succ, List.getElem_cons_zero]
          refine wpAnyH_take (i := 3) (v := ?v35) rfl (by kernel_rfl) (by kernel_rfl) (by kernel_rfl) (fun _ _ _ h => h) (Or.inl ⟨by rfl, ?hy35⟩) (by assumption) ?rest35
          case hy35 =>
            intro w hSw
            (obtain ⟨q0, q1, q2, q3, q4⟩ := unhide HC2; have q0 := hSw.cell ((unhide H9).cell q0 (fun e => e)) (fun e => e); have q1 := hSw.cell ((unhide H9).cell q1 (fun e => e)) (fun e => e); have q2 := hSw.cell ((unhide H9).cell q2 (fun e => e)) (fun e => e); have q3 := hSw.cell ((unhide H9).cell q3 (fun e => e)) (fun e => e); have q4 := hSw.cell ((unhide H9).cell q4 (fun e => e)) (fun e => e); go_simp; try with_reducible rfl)
          try simp only [Act.put, List.setIfInBounds_toArray, List.set_cons_zero, List.set_cons_succ, List.getElem_toArray, List.getElem_cons_succ, List.getElem_cons_zero]
          refine wpAnyH_take (i := 5) (v := ?v36) rfl (by kernel_rfl) (by kernel_rfl) (by kernel_rfl) (fun _ _ _ h => h) (Or.inl ⟨by rfl, ?hy36⟩) (by assumption) ?rest36
          case hy36 =>
            intro w hSw
            (obtain ⟨q0, q1, q2, q3, q4⟩ := unhide HC1; have q0 := hSw.cell ((unhide H9).cell q0 (fun e => e)) (fun e => e); have q1 := hSw.cell ((unhide H9).cell q1 (fun e => e)) (fun e => e); have q2 := hSw.cell ((unhide H9).cell q2 (fun e => e)) (fun e => e); have q3 := hSw.cell ((unhide H9).cell q3 (fun e => e)) (fun e => e); have q4 := hSw.cell ((unhide H9).cell q4 (fun e => e)) (fun e => e); go_simp; try with_reducible rfl)
          try simp only [Act.put, List.setIfInBounds_toArray, List.set_cons_zero, List.set_cons_succ, List.getElem_toArray, List.getElem_cons_succ, List.getElem_cons_zero]
          refine wpAnyH_take (i := 6) (v := ?v37) rfl (by kernel_rfl) (by kernel_rfl) (by kernel_rfl) (fun _ _ _ h => h) (Or.inl ⟨by rfl, ?hy37⟩) (by assumption) ?rest37
          case hy37 =>
            intro w hSw
            (obtain ⟨q0, q1, q2, q3, q4⟩ := unhide HC2; have q0 := hSw.cell ((unhide H9).cell q0 (fun e => e)) (fun e => e); have q1 := hSw.cell ((unhide H9).cell q1 (fun e => e)) (fun e => e); have q2 := hSw.cell ((unhide H9).cell q2 (fun e => e)) (fun e => e); have q3 := hSw.cell ((unhide H9).cell q3 (fun e => e)) (fun e => e); have q4 := hSw.cell ((unhide H9).cell q4 (fun e => e)) (fun e => e); go_simp; try with_reducible rfl)
          try simp only [Act.put, List.setIfInBounds_toArray, List.set_cons_zero, List.set_cons_succ, List.getElem_toArray, List.getElem_cons_succ, List.getElem_cons_zero]
          refine wpAnyH_ready (rs := [4]) (by kernel_rfl) (by simp) ?_
          refine AllReadyH.cons rfl (fun K hK => ?_) AllReadyH.nil
          go_simp
          go_wp2_with fail; refine (unhide HPs _ (Only.trans (unhide H9) (by first | exact unhide HMa | exact (unhide HMa).drew) (fun _ _ e => e))).mono ?_; rintro e xb ⟨rfl, yb⟩; have HMb : Hid (Only (fun _ => False) w9 xb) := Only.trans (by first | exact unhide HMa | exact (unhide HMa).drew) yb (fun _ _ e => e)
          refine hK.out _ _ ((unhide HMb)) (fun hHeld => ?_)
          clear hK K
          try simp only [Act.put, List.setIfInBounds_toArray, List.set_cons_zero, List.set_cons_succ, List.getElem_toArray, List.getElem_cons_succ, List.getElem_cons_zero]
          refine wpAnyH_ready (rs := [7]) (by kernel_rfl) (by simp) ?_
          refine AllReadyH.cons rfl (fun K hK => ?_) AllReadyH.nil
          go_simp
          go_wp2_with fail; refine (unhide HRs _ (Only.trans (unhide H9) (by first | exact unhide HMb | exact (unhide HMb).drew) (fun _ _ e => e))).mono ?_; rintro e xc ⟨rfl, yc⟩; have HMc : Hid (Only (fun _ => False) w9 xc) := Only.trans (by first | exact unhide HMb | exact (unhide HMb).drew) yc (fun _ _ e => e)
          refine hK.out _ _ ((unhide HMc)) (fun hHeld => ?_)
          clear hK K
          try simp only [Act.put, List.setIfInBounds_toArray, List.set_cons_zero, List.set_cons_succ, List.getElem_toArray, List.getElem_cons_succ, List.getElem_cons_zero]
          refine wpAnyH_take (i := 8) (v := ?v38) rfl (by kernel_rfl) (by kernel_rfl) (by kernel_rfl) (fun _ _ _ h => h) (Or.inl ⟨by rfl, ?hy38⟩) (by assumption) ?rest38
          case hy38 =>
            intro w hSw
            go_simp
            try with_reducible rfl
          try simp only [Act.put, List.setIfInBounds_toArray, List.set_cons_zero, List.set_cons_succ, List.getElem_toArray, List.getElem_cons_succ, List.getElem_cons_zero]
          refine wpAnyH_take (i := 9) (v := ?v39) rfl (by kernel_rfl) (by kernel_rfl) (by kernel_rfl) (fun _ _ _ h => h) (Or.inl ⟨by rfl, ?hy39⟩) (by assumption) ?rest39
          case hy39 =>
            intro w hSw
            go_simp
            try with_reducible rfl
          try simp only [Act.put, List.setIfInBounds_toArray, List.set_cons_zero, List.set_cons_succ, List.getElem_toArray, List.getElem_cons_succ, List.getElem_cons_zero]
          refine wpAnyH_take (i := 10) (v := ?v40) rfl (by kernel_rfl) (by kernel_rfl) (by kernel_rfl) (fun _ _ _ h => h) (Or.inl ⟨by rfl, ?hy40⟩) (by assumption) ?rest40
          case hy40 =>
            intro w hSw
            go_simp
            try with_reducible rfl
          try simp only [Act.put, List.setIfInBounds_toArray, List.set_cons_zero, List.set_cons_succ, List.getElem_toArray, List.getElem_cons_succ, List.getElem_cons_zero]
          refine wpAnyH_done (by kernel_rfl) ?_ _
          go_wp2
          go_ret
          exact ⟨rfl, (unhide HO9).trans (unhide HMc) (fun _ _ e => e)⟩
        · exact absurd ((unhide HFK).symm.trans hf) (by simp)
  | some kid =>
    rw [hfk] at he
    obtain ⟨xa, xl, xc, xb, xm, xd, rfl, hx⟩ := he
    have oX := (Only.refl (fun _ => False) w7).alloc (.cells #[.int .i64 kid.tag, .int .i64 kid.typ, .int .i64 kid.int, .slice xa xl xc, .slice xb xm xd] 25)
    have hbX := heap_alloc_new w7 (.cells #[.int .i64 kid.tag, .int .i64 kid.typ, .int .i64 kid.int, .slice xa xl xc, .slice xb xm xd] 25)
    have H8 := hide ((unhide H7).trans oX (fun _ _ e => e))
    have HBX := hide hbX
    have HFK := hide hfk
    have HX8 := hide (hx.same oX)
    clear oX hbX hfk H7 hx
    go_upto_region 7 with fail
    generalize w7.alloc (.cells #[.int .i64 kid.tag, .int .i64 kid.typ, .int .i64 kid.int, .slice xa xl xc, .slice xb xm xd] 25) = w8 at *
    generalize w7.heap.size = b7 at *
    obtain ⟨_, _, _, _, c4⟩ := unhide HC1
    have c4 := (unhide H8).cell c4 (fun e => e)
    obtain ⟨N, hN⟩ : ∃ N, N = it.kids.length := ⟨_, rfl⟩
    have HN := hide hN
    rw [← hN] at c4
    have hNb : N ≤ 1000 := by rw [hN]; have := countAll_len it.kids; have h2 := unhide HCnt; obtain ⟨t, y, k, d, ks⟩ := it; rw [It.count] at h2; simp only [It.kids] at this ⊢; omega
    rw [← hN] at HKs
    clear hN
    go_wp2
    go_loop [13, 14] (fun a j => ∃ (m : Nat) (av : Int), m ≤ N ∧ a = .int .i64 av ∧ j = .int .i64 ((m : Int) - 1) ∧ Hid (AtIs G it.kids m av)) (fun _ j => (intOf j + 1).toNat)
    case atStart => exact ⟨N, -1, Nat.le_refl _, rfl, by go_num, Or.inl ⟨rfl, fun j x hj hx => absurd (List.getElem?_eq_some_iff.1 hx).1 (by rw [← unhide HN]; omega)⟩⟩
    case round =>
      obtain ⟨m, av, hm, rfl, rfl, HAt⟩ := hrel
      by_cases hlt : 0 < m
      · obtain ⟨m, rfl⟩ : ∃ p, m = p + 1 := ⟨m - 1, by omega⟩
        have hmk : m < it.kids.length := by rw [← unhide HN]; omega
        obtain ⟨bb, off, dv, kv, rfl, hq, p0, _, _, _, _, _⟩ := (unhide HKs).at m hmk
        have p0 := (unhide H8).cell p0 (fun e => e)
        have HKm : Hid (it.kids[m]? = some it.kids[m]) := List.getElem?_eq_getElem hmk
        generalize it.kids[m] = kd at *
        have hm1 : ((m + 1 : Nat) : Int) - 1 = (m : Int) := by omega
        rw [hm1]
        have hmN : (m : Int) < N := by omega
        have hm0 : (0 : Int) ≤ m := by omega
        clear hq hmk hm1 hlt hm
        by_cases he : kd.tag = G
        · have HA2 : Hid (AtIs G it.kids m m) := atIs_yes (unhide HKm) he
          have heb : (kd.tag == G) = true := by simp [he]
          clear he
          go_wp2
          go_round
          case rel => exact ⟨m, m, by omega, rfl, by go_num, HA2⟩
          case measure => first | (simp [intOf]; done) | (simp [intOf]; omega)
        · have HA2 : Hid (AtIs G it.kids m av) := atIs_no (unhide HAt) (unhide HKm) he
          have heb : (kd.tag == G) = false := by simp [he]
          clear he
          go_wp2
          go_round
          case rel => exact ⟨m, av, by omega, rfl, by go_num, HA2⟩
          case measure => first | (simp [intOf]; done) | (simp [intOf]; omega)
      · obtain rfl : m = 0 := by omega
        rcases atIs_end (unhide HAt) with ⟨rfl, hf⟩ | ⟨p, x, rfl, hp, hf⟩
        · exact absurd ((unhide HFK).symm.trans hf) (by simp)
        · obtain rfl : kid = x := by have := (unhide HFK).symm.trans hf; simpa using this
          have hpl : p < it.kids.length := (List.getElem?_eq_some_iff.1 hp).1
          have hpk : it.kids[p] = kid := by have := List.getElem?_eq_getElem hpl; rw [hp] at this; simpa using this.symm
          obtain ⟨bb, off, dv, kv, rfl, hq, p0, p1, p2, p3, p4, hik⟩ := (unhide HKs).at p hpl
          rw [hpk] at p0 p1 p2 hik
          obtain ⟨⟨ea, ec, hds⟩, eb, ed, hks⟩ := hik.shapes
          subst hds
          subst hks
          have HKC := hide (And.intro p0 (And.intro p1 (And.intro p2 (And.intro p3 p4))))
          have HRk := hide (fun W' (o : Only (fun _ => False) w8 W') => rsame_any 30 kid kid _ _ _ _ W' ((unhide HX8).same o) ((hik.same (unhide H8)).same o))
          rw [sameB_refl'] at HRk
          unfold ival at HRk
          have hpN : (p : Int) < N := by have := unhide HN; omega
          have hp0 : (0 : Int) ≤ p := by omega
          have HXC := hide (cells_of5 (unhide HBX))
          have H88 := hide (Only.refl (fun _ => False) w8)
          clear hp hf hpl hpk hq p0 p1 p2 p3 p4 hik HAt hm hlt c4
          go_wp2_with fail
          refine wp_region_held_drew (S := (fun w' => Only (fun _ => False) w8 w')) (by kernel_rfl) ((Only.refl _ _).drew) (fun hHeld => ?_)
          refine wpAnyH_take (i := 0) (v := ?v41) rfl (by kernel_rfl) (by kernel_rfl) (by kernel_rfl) (fun _ _ _ h => h) (Or.inl ⟨by rfl, ?hy41⟩) (by assumption) ?rest41
          case hy41 =>
            intro w hSw
            go_simp
            try with_reducible rfl
          try simp only [Act.put, List.setIfInBounds_toArray, List.set_cons_zero, List.set_cons_succ, List.getElem_toArray, List.getElem_cons_succ, List.getElem_cons_zero]
          refine wpAnyH_take (i := 1) (v := ?v42) rfl (by kernel_rfl) (by kernel_rfl) (by kernel_rfl) (fun _ _ _ h => h) (Or.inl ⟨by rfl, ?hy42⟩) (by assumption) ?rest42
          case hy42 =>
            intro w hSw
            go_simp
            try with_reducible rfl
          try simp only [Act.put, List.setIfInBounds_toArray, List.set_cons_zero, List.set_cons_succ, List.getElem_toArray, List.getElem_cons_succ, List.getElem_cons_zero]
          refine wpAnyH_take (i := 2) (v := ?v43) rfl (by kernel_rfl) (by kernel_rfl) (by kernel_rfl) (fun _ _ _ h => h) (Or.inl ⟨by rfl, ?hy43⟩) (by assumption) ?rest43
          case hy43 =>
            intro w hSw
            go_simp
            try with_reducible rfl
          try simp only [Act.put, List.setIfInBounds_toArray, List.set_cons_zero, List.set_cons_succ, List.getElem_toArray, List.getElem_cons_succ, List.getElem_cons_zero]
          refine wpAnyH_take (i := 3) (v := ?v44) rfl (by kernel_rfl) (by kernel_rfl) (by kernel_rfl) (fun _ _ _ h => h) (Or.inl ⟨by rfl, ?hy44⟩) (by assumption) ?rest44
          case hy44 =>
            intro w hSw
            go_simp
            try with_reducible rfl
          try simp only [Act.put, List.setIfInBounds_toArray, List.set_cons_zero, List.set_cons_succ, List.getElem_toArray, List.getElem_cons_succ, List.getElem_cons_zero]
          refine wpAnyH_take (i := 4) (v := ?v45) rfl (by kernel_rfl) (by kernel_rfl) (by kernel_rfl) (fun _ _ _ h => h) (Or.inl ⟨by rfl, ?hy45⟩) (by assumption) ?rest45
          case hy45 =>
            intro w hSw
            go_simp
            try with_reducible rfl
          try simp only [Act.put, List.setIfInBounds_toArray, List.set_cons_zero, List.set_cons_succ, List.getElem_toArray, List.getElem_cons_succ, List.getElem_cons_zero]
          refine wpAnyH_take (i := 5) (v := ?v46) rfl (by kernel_rfl) (by kernel_rfl) (by kernel_rfl) (fun _ _ _ h => h) (Or.inl ⟨by rfl, ?hy46⟩) (by assumption) ?rest46
          case hy46 =>
            intro w hSw
            go_simp
            try with_reducible rfl
          try simp only [Act.put, List.setIfInBounds_toArray, List.set_cons_zero, List.set_cons_succ, List.getElem_toArray, List.getElem_cons_succ, List.getElem_cons_zero]
          refine wpAnyH_take (i := 6) (v := ?v47) rfl (by kernel_rfl) (by kernel_rfl) (by kernel_rfl) (fun _ _ _ h => h) (Or.inl ⟨by rfl, ?hy47⟩) (by assumption) ?rest47
          case hy47 =>
            intro w hSw
            go_simp
            try with_reducible rfl
          try simp only [Act.put, List.setIfInBounds_toArray, List.set_cons_zero, List.set_cons_succ, List.getElem_toArray, List.getElem_cons_succ, List.getElem_cons_zero]
          refine wpAnyH_take (i := 7) (v := ?v48) rfl (by kernel_rfl) (by kernel_rfl) (by kernel_rfl) (fun _ _ _ h => h) (Or.inl ⟨by rfl, ?hy48⟩) (by assumption) ?rest48
          case hy48 =>
            intro w hSw
            (obtain ⟨q0, q1, q2, q3, q4⟩ := unhide HXC; have q0 := hSw.cell ((unhide H88).cell q0 (fun e => e)) (fun e => e); have q1 := hSw.cell ((unhide H88).cell q1 (fun e => e)) (fun e => e); have q2 := hSw.cell ((unhide H88).cell q2 (fun e => e)) (fun e => e); have q3 := hSw.cell ((unhide H88).cell q3 (fun e => e)) (fun e => e); have q4 := hSw.cell ((unhide H88).cell q4 (fun e => e)) (fun e => e); go_simp; try with_reducible rfl)
          try simp only [Act.put, List.setIfInBounds_toArray, List.set_cons_zero, List.set_cons_succ, List.getElem_toArray, List.getElem_cons_succ, List.getElem_cons_zero]
          refine wpAnyH_take (i := 8) (v := ?v49) rfl (by kernel_rfl) (by kernel_rfl) (by kernel_rfl) (fun _ _ _ h => h) (Or.inl ⟨by rfl, ?hy49⟩) (by assumption) ?rest49
          case hy49 =>
            intro w hSw
            go_simp
            try with_reducible rfl
          try simp only [Act.put, List.setIfInBounds_toArray, List.set_cons_zero, List.set_cons_succ, List.getElem_toArray, List.getElem_cons_succ, List.getElem_cons_zero]
          refine wpAnyH_take (i := 9) (v := ?v50) rfl (by kernel_rfl) (by kernel_rfl) (by kernel_rfl) (fun _ _ _ h => h) (Or.inl ⟨by rfl, ?hy50⟩) (by assumption) ?rest50
          case hy50 =>
            intro w hSw
            (obtain ⟨_, _, _, _, q4⟩ := unhide HC1; have q4 := hSw.cell ((unhide H8).cell q4 (fun e => e)) (fun e => e); rw [← unhide HN] at q4; go_simp; try with_reducible rfl)
          try simp only [Act.put, List.setIfInBounds_toArray, List.set_cons_zero, List.set_cons_succ, List.getElem_toArray, List.getElem_cons_succ, List.getElem_cons_zero]
          refine wpAnyH_take (i := 10) (v := ?v51) rfl (by kernel_rfl) (by kernel_rfl) (by kernel_rfl) (fun _ _ _ h => h) (Or.inl ⟨by rfl, ?hy51⟩) (by assumption) ?rest51
          case hy51 =>
            intro w hSw
            go_simp
            try with_reducible rfl
          try simp only [Act.put, List.setIfInBounds_toArray, List.set_cons_zero, List.set_cons_succ, List.getElem_toArray, List.getElem_cons_succ, List.getElem_cons_zero]
          refine wpAnyH_take (i := 11) (v := ?v52) rfl (by kernel_rfl) (by kernel_rfl) (by kernel_rfl) (fun _ _ _ h => h) (Or.inl ⟨by rfl, ?hy52⟩) (by assumption) ?rest52
          case hy52 =>
            intro w hSw
            go_simp
            try with_reducible rfl
          try simp only [Act.put, List.setIfInBounds_toArray, List.set_cons_zero, List.set_cons_succ, List.getElem_toArray, List.getElem_cons_succ, List.getElem_cons_zero]
          refine wpAnyH_take (i := 12) (v := ?v53) rfl (by kernel_rfl) (by kernel_rfl) (by kernel_rfl) (fun _ _ _ h => h) (Or.inl ⟨by rfl, ?hy53⟩) (by assumption) ?rest53
          case hy53 =>
            intro w hSw
            (obtain ⟨q0, q1, q2, q3, q4⟩ := unhide HKC; have q0 := hSw.cell ((unhide H8).cell q0 (fun e => e)) (fun e => e); have q1 := hSw.cell ((unhide H8).cell q1 (fun e => e)) (fun e => e); have q2 := hSw.cell ((unhide H8).cell q2 (fun e => e)) (fun e => e); have q3 := hSw.cell ((unhide H8).cell q3 (fun e => e)) (fun e => e); have q4 := hSw.cell ((unhide H8).cell q4 (fun e => e)) (fun e => e); go_simp; try with_reducible rfl)
          try simp only [Act.put, List.setIfInBounds_toArray, List.set_cons_zero, List.set_cons_succ, List.getElem_toArray, List.getElem_cons_succ, List.getElem_cons_zero]
          refine wpAnyH_ready (rs := [13]) (by kernel_rfl) (by simp) ?_
          refine AllReadyH.cons rfl (fun K hK => ?_) AllReadyH.nil
          go_simp
          go_wp2_with fail; refine (unhide HRk _ (by first | exact Only.refl _ _ | exact (Only.refl _ _).drew)).mono ?_; rintro e w9 ⟨rfl, y9⟩; have HNa : Hid (Only (fun _ => False) w8 w9) := Only.trans (by first | exact Only.refl _ _ | exact (Only.refl _ _).drew) y9 (fun _ _ e => e)
          refine hK.out _ _ ((unhide HNa)) (fun hHeld => ?_)
          clear hK K
          try simp only [Act.put, List.setIfInBounds_toArray, List.set_cons_zero, List.set_cons_succ, List.getElem_toArray, List.getElem_cons_succ, List.getElem_cons_zero]
          refine wpAnyH_take (i := 14) (v := ?v54) rfl (by kernel_rfl) (by kernel_rfl) (by kernel_rfl) (fun _ _ _ h => h) (Or.inl ⟨by rfl, ?hy54⟩) (by assumption) ?rest54
          case hy54 =>
            intro w hSw
            go_simp
            try with_reducible rfl
          try simp only [Act.put, List.setIfInBounds_toArray, List.set_cons_zero, List.set_cons_succ, List.getElem_toArray, List.getElem_cons_succ, List.getElem_cons_zero]
          refine wpAnyH_take (i := 15) (v := ?v55) rfl (by kernel_rfl) (by kernel_rfl) (by kernel_rfl) (fun _ _ _ h => h) (Or.inl ⟨by rfl, ?hy55⟩) (by assumption) ?rest55
          case hy55 =>
            intro w hSw
            go_simp
            try with_reducible rfl
          try simp only [Act.put, List.setIfInBounds_toArray, List.set_cons_zero, List.set_cons_succ, List.getElem_toArray, List.getElem_cons_succ, List.getElem_cons_zero]
          refine wpAnyH_take (i := 16) (v := ?v56) rfl (by kernel_rfl) (by kernel_rfl) (by kernel_rfl) (fun _ _ _ h => h) (Or.inl ⟨by rfl, ?hy56⟩) (by assumption) ?rest56
          case hy56 =>
            intro w hSw
            go_simp
            try with_reducible rfl
          try simp only [Act.put, List.setIfInBounds_toArray, List.set_cons_zero, List.set_cons_succ, List.getElem_toArray, List.getElem_cons_succ, List.getElem_cons_zero]
          refine wpAnyH_done (by kernel_rfl) ?_ _
          have H9 := hide ((unhide H8).trans (unhide HNa) (fun _ _ e => e))
          have HO9 := hide ((unhide HO6).trans (unhide H9) (fun _ _ e => e))
          obtain ⟨B, hB⟩ : ∃ B, sameB it qt = B := ⟨_, rfl⟩
          rw [hB] at HPs HRs
          clear hB
          have H99 := hide (Only.refl (fun _ => False) w9)
          go_wp2_with fail
          refine wp_region_held_drew (S := (fun w' => Only (fun _ => False) w9 w')) (by kernel_rfl) ((Only.refl _ _).drew) (fun hHeld => ?_)
          refine wpAnyH_ready (rs := [0]) (by kernel_rfl) (by simp) ?_
          refine AllReadyH.cons rfl (fun K hK => ?_) AllReadyH.nil
          go_simp
          go_wp2_with fail; refine (unhide HKn _ (Only.trans (unhide HO9) (by first | exact Only.refl _ _ | exact (Only.refl _ _).drew) (fun _ _ e => e))).mono ?_; rintro e xa ⟨rfl, ya⟩; have HMa : Hid (Only (fun _ => False) w9 xa) := Only.trans (by first | exact Only.refl _ _ | exact (Only.refl _ _).drew) ya (fun _ _ e => e)
          refine hK.out _ _ ((unhide HMa)) (fun hHeld => ?_)
          clear hK K
          try simp only [Act.put, List.setIfInBounds_toArray, List.set_cons_zero, List.set_cons_succ, List.getElem_toArray, List.getElem_cons_succ, List.getElem_cons_zero]
          refine wpAnyH_take (i := 1) (v := ?v57) rfl (by kernel_rfl) (by kernel_rfl) (by kernel_rfl) (fun _ _ _ h => h) (Or.inl ⟨by rfl, ?hy57⟩) (by assumption) ?rest57
          case hy57 =>
            intro w hSw
            go_simp
            try with_reducible rfl
          try simp only [Act.put, List.setIfInBounds_toArray, List.set_cons_zero, List.set_cons_succ, List.getElem_toArray, List.getElem_cons_succ, List.getElem_cons_zero]
          refine wpAnyH_take (i := 2) (v := ?v58) rfl (by kernel_rfl) (by kernel_rfl) (by kernel_rfl) (fun _ _ _ h => h) (Or.inl ⟨by rfl, ?hy58⟩) (by assumption) ?rest58
          case hy58 =>
            intro w hSw
            (obtain ⟨q0, q1, q2, q3, q4⟩ := unhide HC1; have q0 := hSw.cell ((unhide H9).cell q0 (fun e => e)) (fun e => e); have q1 := hSw.cell ((unhide H9).cell q1 (fun e => e)) (fun e => e); have q2 := hSw.cell ((unhide H9).cell q2 (fun e => e)) (fun e => e); have q3 := hSw.cell ((unhide H9).cell q3 (fun e => e)) (fun e => e); have q4 := hSw.cell ((unhide H9).cell q4 (fun e => e)) (fun e => e); go_simp; try with_reducible rfl)
          try simp only [Act.put, List.setIfInBounds_toArray, List.set_cons_zero, List.set_cons_succ, List.getElem_toArray, List.getElem_cons_succ, List.getElem_cons_zero]
          refine wpAnyH_take (i := 3) (v := ?v59) rfl (by kernel_rfl) (by kernel_rfl) (by kernel_rfl) (fun _ _ _ h => h) (Or.inl ⟨by rfl, ?hy59⟩) (by assumption) ?rest59
          case hy59 =>
            intro w hSw
            (obtain ⟨q0, q1, q2, q3, q4⟩ := unhide HC2; have q0 := hSw.cell ((unhide H9).cell q0 (fun e => e)) (fun e => e); have q1 := hSw.cell ((unhide H9).cell q1 (fun e => e)) (fun e => e); have q2 := hSw.cell ((unhide H9).cell q2 (fun e => e)) (fun e => e); have q3 := hSw.cell ((unhide H9).cell q3 (fun e => e)) (fun e => e); have q4 := hSw.cell ((unhide H9).cell q4 (fun e => e)) (fun e => e); go_simp; try with_reducible rfl)
          try simp only [Act.put, List.setIfInBounds_toArray, List.set_cons_zero, List.set_cons_succ, List.getElem_toArray, List.getElem_cons_succ, List.getElem_cons_zero]
          refine wpAnyH_take (i := 5) (v := ?v60) rfl (by kernel_rfl) (by kernel_rfl) (by kernel_rfl) (fun _ _ _ h => h) (Or.inl ⟨by rfl, ?hy60⟩) (by assumption) ?rest60
          case hy60 =>
            intro w hSw
            (obtain ⟨q0, q1, q2, q3, q4⟩ := unhide HC1; have q0 := hSw.cell ((unhide H9).cell q0 (fun e => e)) (fun e => e); have q1 := hSw.cell ((unhide H9).cell q1 (fun e => e)) (fun e => e); have q2 := hSw.cell ((unhide H9).cell q2 (fun e => e)) (fun e => e); have q3 := hSw.cell ((unhide H9).cell q3 (fun e => e)) (fun e => e); have q4 := hSw.cell ((unhide H9).cell q4 (fun e => e)) (fun e => e); go_simp; try with_reducible rfl)
          try simp only [Act.put, List.setIfInBounds_toArray, List.set_cons_zero, List.set_cons_succ, List.getElem_toArray, List.getElem_cons_succ, List.getElem_cons_zero]
          refine wpAnyH_take (i := 6) (v := ?v61) rfl (by kernel_rfl) (by kernel_rfl) (by kernel_rfl) (fun _ _ _ h => h) (Or.inl ⟨by rfl, ?hy61⟩) (by assumption) ?rest61
          case hy61 =>
            intro w hSw
            (obtain ⟨q0, q1, q2, q3, q4⟩ := unhide HC2; have q0 := hSw.cell ((unhide H9).cell q0 (fun e => e)) (fun e => e); have q1 := hSw.cell ((unhide H9).cell q1 (fun e => e)) (fun e => e); have q2 := hSw.cell ((unhide H9).cell q2 (fun e => e)) (fun e => e); have q3 := hSw.cell ((unhide H9).cell q3 (fun e => e)) (fun e => e); have q4 := hSw.cell ((unhide H9).cell q4 (fun e => e)) (fun e => e); go_simp; try with_reducible rfl)
          try simp only [Act.put, List.setIfInBounds_toArray, List.set_cons_zero, List.set_cons_succ, List.getElem_toArray, List.getElem_cons_succ, List.getElem_cons_zero]
          refine wpAnyH_ready (rs := [4]) (by kernel_rfl) (by simp) ?_
          refine AllReadyH.cons rfl (fun K hK => ?_) AllReadyH.nil
          go_simp
          go_wp2_with fail; refine (unhide HPs _ (Only.trans (unhide H9) (by first | exact unhide HMa | exact (unhide HMa).drew) (fun _ _ e => e))).mono ?_; rintro e xb ⟨rfl, yb⟩; have HMb : Hid (Only (fun _ => False) w9 xb) := Only.trans (by first | exact unhide HMa | exact (unhide HMa).drew) yb (fun _ _ e => e)
          refine hK.out _ _ ((unhide HMb)) (fun hHeld => ?_)
          clear hK K
          try simp only [Act.put, List.setIfInBounds_toArray, List.set_cons_zero, List.set_cons_succ, List.getElem_toArray, List.getElem_cons_succ, List.getElem_cons_zero]
          refine wpAnyH_ready (rs := [7]) (by kernel_rfl) (by simp) ?_
          refine AllReadyH.cons rfl (fun K hK => ?_) AllReadyH.nil
          go_simp
          go_wp2_with fail; refine (unhide HRs _ (Only.trans (unhide H9) (by first | exact unhide HMb | exact (unhide HMb).drew) (fun _ _ e => e))).mono ?_; rintro e xc ⟨rfl, yc⟩; have HMc : Hid (Only (fun _ => False) w9 xc) := Only.trans (by first | exact unhide HMb | exact (unhide HMb).drew) yc (fun _ _ e => e)
          refine hK.out _ _ ((unhide HMc)) (fun hHeld => ?_)
          clear hK K
          try simp only [Act.put, List.setIfInBounds_toArray, List.set_cons_zero, List.set_cons_succ, List.getElem_toArray, List.getElem_cons_succ, List.getElem_cons_zero]
          refine wpAnyH_take (i := 8) (v := ?v62) rfl (by kernel_rfl) (by kernel_rfl) (by kernel_rfl) (fun _ _ _ h => h) (Or.inl ⟨by rfl, ?hy62⟩) (by assumption) ?rest62
          case hy62 =>
            intro w hSw
            go_simp
            try with_reducible rfl
          try simp only [Act.put, List.setIfInBounds_toArray, List.set_cons_zero, List.set_cons_succ, List.getElem_toArray, List.getElem_cons_succ, List.getElem_cons_zero]
          refine wpAnyH_take (i := 9) (v := ?v63) rfl (by kernel_rfl) (by kernel_rfl) (by kernel_rfl) (fun _ _ _ h => h) (Or.inl ⟨by rfl, ?hy63⟩) (by assumption) ?rest63
          case hy63 =>
            intro w hSw
            go_simp
            try with_reducible rfl
          try simp only [Act.put, List.setIfInBounds_toArray, List.set_cons_zero, List.set_cons_succ, List.getElem_toArray, List.getElem_cons_succ, List.getElem_cons_zero]
          refine wpAnyH_take (i := 10) (v := ?v64) rfl (by kernel_rfl) (by kernel_rfl) (by kernel_rfl) (fun _ _ _ h => h) (Or.inl ⟨by rfl, ?hy64⟩) (by assumption) ?rest64
          case hy64 =>
            intro w hSw
            go_simp
            try with_reducible rfl
          try simp only [Act.put, List.setIfInBounds_toArray, List.set_cons_zero, List.set_cons_succ, List.getElem_toArray, List.getElem_cons_succ, List.getElem_cons_zero]
          refine wpAnyH_done (by kernel_rfl) ?_ _
          go_wp2
          go_ret
          exact ⟨rfl, (unhide HO9).trans (unhide HMc) (fun _ _ e => e)⟩

end Tt
end Go.Proofs.YtedmfjnmclbkpaaDoor
