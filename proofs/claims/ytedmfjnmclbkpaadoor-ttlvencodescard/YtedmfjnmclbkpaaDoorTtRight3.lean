/-
  Which items are right: the reference's right at any item, Right.
-/
import Derived.Test.YtedmfjnmclbkpaaDoorTtRight2
namespace Go.Proofs.YtedmfjnmclbkpaaDoor
open Go.RowKit
set_option linter.unusedSimpArgs false
set_option linter.unusedVariables false
namespace Tt

theorem RightAs.no {w w' : World} {A : Bool} {c c' : Nat} {e : Ending} (h : RightAs w false c e w') (hA : A = false) : RightAs w A c' e w' := by
  subst hA
  obtain ⟨⟨m, h1, h2, _⟩, h3⟩ := h
  exact ⟨⟨m, h1, h2, by simp⟩, h3⟩
theorem RightAs.yes {w w' : World} {A : Bool} {c c' : Nat} {e : Ending} (h : RightAs w true c e w') (hA : A = true) (hc : c = c') : RightAs w A c' e w' := by
  subst hA hc
  exact h

set_option maxHeartbeats 1000000 in
set_option maxRecDepth 100000 in
theorem right_deep (t y n : Int) (da : Option Addr) (dl dc : Nat) (ka : Option Addr) (kl kc deep : Nat) (w : World) (hdeep : 12 < deep) (hd2 : deep ≤ 1000) :
    Calls Tryd.prog 33 #[.agg #[.int .i64 t, .int .i64 y, .int .i64 n, .slice da dl dc, .slice ka kl kc], .int .i64 deep] w fun e w' => RightAs w false 1 e w' := by
  obtain ⟨⟨c0, c1, c2, c3, c4⟩, oA⟩ := boxed w (.int .i64 t) (.int .i64 y) (.int .i64 n) (.slice da dl dc) (.slice ka kl kc)
  have HO := hide oA
  have hdp : (deep : Int) > 12 := by omega
  have hdp2 : ¬ (deep : Int) ≤ 12 := by omega
  clear oA hdeep
  go_enter Tryd.func33, Tryd.ntmps33
  go_wp2
  go_ret2
  exact ⟨⟨0, by omega, rfl, by simp⟩, unhide HO⟩

set_option maxHeartbeats 1000000 in
set_option maxRecDepth 100000 in
theorem right_tag (t y n : Int) (da : Option Addr) (dl dc : Nat) (ka : Option Addr) (kl kc deep : Nat) (w : World) (hdeep : deep ≤ 12) (ht : tagB t = false) :
    Calls Tryd.prog 33 #[.agg #[.int .i64 t, .int .i64 y, .int .i64 n, .slice da dl dc, .slice ka kl kc], .int .i64 deep] w fun e w' => RightAs w false 1 e w' := by
  obtain ⟨⟨c0, c1, c2, c3, c4⟩, oA⟩ := boxed w (.int .i64 t) (.int .i64 y) (.int .i64 n) (.slice da dl dc) (.slice ka kl kc)
  have HO := hide oA
  have hdp : ¬ (deep : Int) > 12 := by omega
  have hdp2 : (deep : Int) ≤ 12 := by omega
  have HTg := hide (fun W => tagOk_any t W)
  rw [ht] at HTg
  clear oA ht hdeep
  go_enter Tryd.func33, Tryd.ntmps33
  go_wp2_with fail
  refine (unhide HTg _).mono ?_
  rintro e w1 ⟨rfl, hw1⟩
  subst hw1
  go_wp2
  go_ret2
  exact ⟨⟨0, by omega, rfl, by simp⟩, unhide HO⟩

set_option maxHeartbeats 1000000 in
set_option maxRecDepth 100000 in
theorem right_7 (t n : Int) (da : Option Addr) (d : List UInt8) (dc : Nat) (ka : Option Addr) (ks : List It) (kc deep : Nat) (w : World) (hdeep : deep ≤ 12) (ht : tagB t = true) (hdl : d.length ≤ 140737488355328) (hk : ks.length = 0) (hn : n = 0)
    (hx : Has w (.slice da d.length dc) d) (hT : Tabs w) :
    Calls Tryd.prog 33 #[.agg #[.int .i64 t, .int .i64 7, .int .i64 n, .slice da d.length dc, .slice ka ks.length kc], .int .i64 deep] w fun e w' => RightAs w (Lib.validD d) 1 e w' := by
  obtain ⟨V, hV⟩ : ∃ V, V = Lib.validD d := ⟨_, rfl⟩
  rw [hk, ← hV]
  subst hn
  obtain ⟨⟨c0, c1, c2, c3, c4⟩, oA⟩ := boxed w (.int .i64 t) (.int .i64 7) (.int .i64 0) (.slice da d.length dc) (.slice ka 0 kc)
  have HO := hide oA
  have hcv := str_conv (hx.only oA (fun _ _ _ e => e))
  have HV := hide (fun W (o : Only (fun _ => False) w W) => valid_any d W (by omega) (hT.same o))
  rw [← hV] at HV
  clear hV
  have hdp : ¬ (deep : Int) > 12 := by omega
  have hdp2 : (deep : Int) ≤ 12 := by omega
  have HTg := hide (fun W => tagOk_any t W)
  rw [ht] at HTg
  clear oA ht hdeep hx hT
  go_enter Tryd.func33, Tryd.ntmps33
  go_wp2_with fail
  refine (unhide HTg _).mono ?_
  rintro e w1 ⟨rfl, hw1⟩
  subst hw1
  go_wp2_with fail
  refine (unhide HV _ (unhide HO)).mono ?_
  rintro e w2 ⟨rfl, o2⟩
  have HO2 := hide ((unhide HO).trans o2 (fun _ _ e => e))
  clear o2 HV
  go_wp2
  go_ret2
  exact ⟨⟨1, by omega, rfl, fun _ => rfl⟩, unhide HO2⟩

theorem ok_leaf (m : Nat) (t y n : Int) (d : List UInt8) : (okB (m + 1) (.mk t y n d []) && decide ((It.mk t y n d []).count ≤ 600)) = (tagB t && typB y && bodyB y n d 0) := by
  rw [okB, fitsB, It.count, It.countAll]
  simp [It.kids]

theorem countAll_len' : ∀ (ks : List It), ks.length ≤ It.countAll ks
  | [] => Nat.le_refl _
  | k :: r => by
    have h := countAll_len' r
    obtain ⟨t, y, n, d, ks⟩ := k
    rw [It.countAll, It.count]
    simp only [List.length_cons]
    omega
theorem countAll_mem' : ∀ {ks : List It} {k : It}, k ∈ ks → k.count ≤ It.countAll ks
  | [], k, h => by cases h
  | x :: r, k, h => by
    rw [It.countAll]
    rcases List.mem_cons.1 h with rfl | h
    · omega
    · have := countAll_mem' h; omega

theorem countAll_take_le (ks : List It) (k : Nat) : It.countAll (ks.take k) ≤ It.countAll ks := by
  have : It.countAll (ks.take k ++ ks.drop k) = It.countAll ks := by rw [List.take_append_drop]
  rw [countAll_append] at this
  omega
theorem countAll_take_succ {ks : List It} {k : Nat} (h : k < ks.length) : It.countAll (ks.take (k + 1)) = It.countAll (ks.take k) + ks[k].count := by
  rw [List.take_succ_eq_append_getElem h, countAll_append]
  simp [It.countAll]

set_option maxHeartbeats 4000000 in
set_option maxRecDepth 100000 in
/-- a structure: its kids one by one -/
theorem right_kids {Q : Nat → Prop} (N : Nat)
    (ih : ∀ (i : It) (dv kv : Value) (deep : Nat) (w : World), ItAt Q w N i dv kv → Tabs w → i.small 140737488355328 → i.count ≤ 1000 → deep ≤ 100 → Calls Tryd.prog 33 #[ival i dv kv, .int .i64 deep] w fun e w' => RightAs w (okB (13 - deep) i && decide (i.count ≤ 600)) i.count e w')
    (t : Int) (da : Option Addr) (d : List UInt8) (dc : Nat) (ka : Option Addr) (ks : List It) (kc deep : Nat) (w : World) (hdeep : deep ≤ 12) (ht : tagB t = true) (hd : d.length = 0) (hK : KidsAt Q w (ItAt Q w N) (.slice ka ks.length kc) ks) (hT : Tabs w) (hs : It.smallAll 140737488355328 ks) (hcnt : It.countAll ks ≤ 1000) :
    Calls Tryd.prog 33 #[.agg #[.int .i64 t, .int .i64 1, .int .i64 0, .slice da d.length dc, .slice ka ks.length kc], .int .i64 deep] w fun e w' => RightAs w (ks.all (okB (12 - deep)) && decide (1 + It.countAll ks ≤ 600)) (1 + It.countAll ks) e w' := by
  rw [hd]
  have hcm : ks.length ≤ 9223372036854775807 := by
    obtain ⟨_, _, e, h1, h2⟩ := hK.shape
    simp only [Value.slice.injEq] at e
    unfold maxLen at h2
    omega
  obtain ⟨⟨c0, c1, c2, c3, c4⟩, oA⟩ := boxed w (.int .i64 t) (.int .i64 1) (.int .i64 0) (.slice da 0 dc) (.slice ka ks.length kc)
  have HO := hide oA
  have hdp : ¬ (deep : Int) > 12 := by omega
  have hdp2 : (deep : Int) ≤ 12 := by omega
  have HTg := hide (fun W => tagOk_any t W)
  rw [ht] at HTg
  have HK := hide hK
  have HT := hide hT
  have HS := hide ((smallAll_iff _ ks).1 hs)
  have HCt := hide hcnt
  have HB := hide (heap_alloc_new w (.cells #[.int .i64 t, .int .i64 1, .int .i64 0, .slice da 0 dc, .slice ka ks.length kc] 25))
  have HDp := hide hdeep
  obtain ⟨L, hL⟩ : ∃ L, L = ks.length := ⟨_, rfl⟩
  rw [← hL] at c0 c1 c2 c3 c4 hcm HO HB ⊢
  have HL := hide hL
  clear oA ht hdeep hK hT hs hL hcnt
  go_enter Tryd.func33, Tryd.ntmps33
  go_wp2_with fail
  refine (unhide HTg _).mono ?_
  rintro e w1 ⟨rfl, hw1⟩
  subst hw1
  go_upto_region 10 with fail
  generalize w.alloc (.cells #[.int .i64 t, .int .i64 1, .int .i64 0, .slice da 0 dc, .slice ka L kc] 25) = w2 at *
  generalize w.heap.size = B at *
  go_wp2
  go_loopw [7, 9] (fun c j wr => ∃ k : Nat, k ≤ L ∧ j = .int .i64 k ∧ c = .int .i64 ((1 + It.countAll (ks.take k) : Nat) : Int) ∧ 1 + It.countAll (ks.take k) ≤ 600 ∧ Hid (∀ j x, j < k → ks[j]? = some x → okB (12 - deep) x = true) ∧ Only (fun _ => False) w2 wr) (fun _ j _ => L - (intOf j).toNat)
  case atStart => exact ⟨0, Nat.zero_le _, rfl, rfl, by simp [It.countAll], fun j x hj => absurd hj (Nat.not_lt_zero _), Only.refl _ _⟩
  case round =>
    obtain ⟨k, hk, rfl, rfl, hcn, HAll, ho⟩ := hrel
    have HOr := hide ((unhide HO).trans ho (fun _ _ e => e))
    have H2r := hide ho
    have cr := ho.cell c4 (fun e => e)
    clear ho
    by_cases hlt : k < L
    · have hkl : k < ks.length := by rw [← unhide HL]; exact hlt
      have hK2 : KidsAt Q w (ItAt Q w N) (.slice ka ks.length kc) ks := unhide HK
      obtain ⟨bb, off, dv, kv, rfl, _, p0, p1, p2, p3, p4, hik⟩ := hK2.at k hkl
      have hsucc := countAll_take_succ hkl
      have htot := countAll_take_le ks (k + 1)
      have hsk := unhide HS _ (List.getElem_mem hkl)
      have HKm : Hid (ks[k]? = some ks[k]) := List.getElem?_eq_getElem hkl
      have hmem : ks[k] ∈ ks := List.getElem_mem hkl
      have HMem := hide hmem
      obtain ⟨⟨ea, ec, hds⟩, eb, ed, hks⟩ := hik.shapes
      have q0 := (unhide HOr).cell p0 (fun e => e)
      have q1 := (unhide HOr).cell p1 (fun e => e)
      have q2 := (unhide HOr).cell p2 (fun e => e)
      have q3 := (unhide HOr).cell p3 (fun e => e)
      have q4 := (unhide HOr).cell p4 (fun e => e)
      have HIH := hide (ih ks[k] dv kv (deep + 1) wr (hik.same (unhide HOr)) ((unhide HT).same (unhide HOr)) hsk (by have := unhide HCt; have := countAll_mem' hmem; omega) (by have := unhide HDp; omega))
      rw [show 13 - (deep + 1) = 12 - deep by omega, show ((deep + 1 : Nat) : Int) = (deep : Int) + 1 by omega] at HIH
      generalize ks[k] = kid at *
      subst hds
      subst hks
      unfold ival at HIH
      have HSu := hide hsucc
      have HTo := hide htot
      have hki : (k : Int) < L := by omega
      clear p0 p1 p2 p3 p4 hik hsk hmem hsucc htot hkl hK2
      go_wp2_with fail
      refine (unhide HIH).mono ?_
      rintro e w3 ⟨⟨m, hm, rfl, hmc⟩, o3⟩
      have HO3 := hide ((unhide HOr).trans o3 (fun _ _ e => e))
      have H23 := hide ((unhide H2r).trans o3 (fun _ _ e => e))
      obtain ⟨c, hc⟩ : ∃ c, c = 1 + It.countAll (ks.take k) := ⟨_, rfl⟩
      rw [← hc] at hcn ⊢
      have HC := hide hc
      clear o3 HIH hc q0 q1 q2 q3 q4
      cases hA : (okB (12 - deep) kid && decide (kid.count ≤ 600)) with
      | false =>
        have HF : Hid ((ks.all (okB (12 - deep)) && decide (1 + It.countAll ks ≤ 600)) = false) := by
          show _ = _
          rw [Bool.and_eq_false_iff] at hA ⊢
          rcases hA with h | h
          · refine Or.inl ?_
            rw [Bool.eq_false_iff]
            intro h2
            have := List.all_eq_true.1 h2 kid (unhide HMem)
            rw [h] at this
            cases this
          · refine Or.inr ?_
            rw [decide_eq_false_iff_not] at h ⊢
            have := countAll_mem' (unhide HMem)
            omega
        clear hA hmc
        go_wp2
        go_ret2
        rw [unhide HF]
        exact ⟨⟨0, by omega, rfl, fun h => by cases h⟩, unhide HO3⟩
      | true =>
        have hmc := hmc hA
        rw [Bool.and_eq_true, decide_eq_true_eq] at hA
        have HN : Hid (∀ j x, j < k + 1 → ks[j]? = some x → okB (12 - deep) x = true) := fun j x hj hx => by
          by_cases e : j < k
          · exact unhide HAll j x e hx
          · obtain rfl : j = k := by omega
            rw [unhide HKm] at hx
            cases hx
            exact hA.1
        have HNew : Hid (1 + It.countAll (ks.take (k + 1)) = c + m) := by show _ = _; have := unhide HSu; have := unhide HC; omega
        have HTot : Hid (c + m ≤ 1 + It.countAll ks) := by show _ ≤ _; have := unhide HSu; have := unhide HC; have := unhide HTo; omega
        clear hA hmc
        by_cases hgt : 600 < c + m
        · have hgt2 : (600 : Int) < (c : Int) + (m : Int) := by omega
          have HF : Hid ((ks.all (okB (12 - deep)) && decide (1 + It.countAll ks ≤ 600)) = false) := by
            show _ = _
            rw [Bool.and_eq_false_iff]
            exact Or.inr (decide_eq_false (by have := unhide HTot; omega))
          go_wp2
          go_ret2
          rw [unhide HF]
          exact ⟨⟨0, by omega, rfl, fun h => by cases h⟩, unhide HO3⟩
        · have hgt2 : ¬ (600 : Int) < (c : Int) + (m : Int) := by omega
          have HG := hide hgt
          have HLt := hide hlt
          go_wp2
          go_roundw
          case rel => exact ⟨k + 1, by have := unhide HLt; omega, by go_num, by rw [unhide HNew]; go_num, by rw [unhide HNew]; have := unhide HG; omega, HN, unhide H23⟩
          case measure => have := unhide HLt; simp [intOf]; omega
    · obtain rfl : k = L := by omega
      have htk : ks.take k = ks := List.take_of_length_le (by rw [unhide HL]; exact Nat.le_refl _)
      rw [htk] at hcn ⊢
      have HF : Hid ((ks.all (okB (12 - deep)) && decide (1 + It.countAll ks ≤ 600)) = true) := by
        show _ = _
        rw [Bool.and_eq_true, decide_eq_true_eq]
        refine ⟨List.all_eq_true.2 fun x hx => ?_, hcn⟩
        obtain ⟨j, hj⟩ := List.mem_iff_getElem?.1 hx
        exact unhide HAll j x (by rw [unhide HL]; exact (List.getElem?_eq_some_iff.1 hj).1) hj
      have HCn := hide hcn
      generalize hC : 1 + It.countAll ks = C
      have HC := hide hC
      clear hC
      go_wp2
      go_ret2
      rw [unhide HF]
      exact ⟨⟨C, by have := unhide HCn; have := unhide HC; omega, rfl, fun _ => (unhide HC).symm⟩, unhide HOr⟩

set_option maxRecDepth 100000 in
theorem right_any {Q : Nat → Prop} : ∀ (N : Nat) (i : It) (dv kv : Value) (deep : Nat) (w : World), ItAt Q w N i dv kv → Tabs w → i.small 140737488355328 → i.count ≤ 1000 → deep ≤ 100 →
    Calls Tryd.prog 33 #[ival i dv kv, .int .i64 deep] w fun e w' => RightAs w (okB (13 - deep) i && decide (i.count ≤ 600)) i.count e w' := by
  intro N
  induction N with
  | zero => intro i dv kv deep w h; exact h.elim
  | succ N ih =>
    intro i dv kv deep w h hT hs hcnt hdp
    obtain ⟨⟨da, dc, hds⟩, ka, kc, hks⟩ := h.shapes
    subst hds
    subst hks
    obtain ⟨t, y, n, d, ks⟩ := i
    obtain ⟨hD, _, hK⟩ := h
    rw [It.small] at hs
    have hdl : d.length ≤ 140737488355328 := hs.2.2.2.1
    rw [It.count] at hcnt
    have hkl : ks.length ≤ 1000 := by have := countAll_len' ks; omega
    show Calls Tryd.prog 33 #[.agg #[.int .i64 t, .int .i64 y, .int .i64 n, .slice da d.length dc, .slice ka ks.length kc], .int .i64 deep] w _
    by_cases h12 : 12 < deep
    · refine (right_deep t y n da d.length dc ka ks.length kc deep w h12 (by omega)).mono (fun e w' h => h.no ?_)
      rw [show 13 - deep = 0 by omega]
      rfl
    · have hm : 13 - deep = (12 - deep) + 1 := by omega
      rw [hm]
      cases ht : tagB t with
      | false =>
        refine (right_tag t y n da d.length dc ka ks.length kc deep w (by omega) ht).mono (fun e w' h => h.no ?_)
        rw [okB, fitsB, ht]
        rfl
      | true =>
        by_cases hy1 : y = 1
        · subst hy1
          by_cases hd : d.length = 0
          · by_cases hn : n = 0
            · subst hn
              refine (right_kids N (fun i dv kv deep w h hT hs hc hd => ih i dv kv deep w h hT hs hc hd) t da d dc ka ks kc deep w (by omega) ht hd hK hT hs.2.2.2.2 (by omega)).mono (fun e w' h => ?_)
              have hA : (okB (12 - deep + 1) (.mk t 1 0 d ks) && decide ((It.mk t 1 0 d ks).count ≤ 600)) = (ks.all (okB (12 - deep)) && decide (1 + It.countAll ks ≤ 600)) := by
                rw [okB, fitsB, ht, It.count]
                simp [typB, bodyB, hd, It.kids]
              rw [hA, It.count]
              exact h
            · refine (right_int_1 t n da d dc ka ks kc deep w (by omega) ht hdl (by omega) hd hn).mono (fun e w' h => h.no ?_)
              rw [okB, fitsB]
              simp [bodyB, hn]
          · refine (right_data_1 t n da d dc ka ks kc deep w (by omega) ht hdl (by omega) (by omega)).mono (fun e w' h => h.no ?_)
            rw [okB, fitsB]
            have hd' : ¬ d = [] := fun e => hd (by rw [e]; rfl)
            simp [bodyB, hd']
        · by_cases hk : ks.length = 0
          · have hks : ks = [] := List.eq_nil_of_length_eq_zero hk
            have hok := ok_leaf (12 - deep) t y n d
            have hcnt1 : (It.mk t y n d []).count = 1 := by rw [It.count, It.countAll]
            subst hks
            rw [hok, hcnt1, ht]
            by_cases hd : d.length = 0
            · have hd' : d = [] := List.eq_nil_of_length_eq_zero hd
              by_cases h2 : y = 2
              · subst h2
                by_cases a : -2147483648 ≤ n
                · by_cases c : n ≤ 2147483647
                  · refine (right_2_ok t n da d dc ka [] kc deep w (by omega) ht hdl (by simp) hk hd a c).mono (fun e w' h => h.yes (by simp [typB, bodyB, isData, hd', a, c]) rfl)
                  · refine (right_2_hi t n da d dc ka [] kc deep w (by omega) ht hdl (by simp) hk hd a c).mono (fun e w' h => h.no (by simp [typB, bodyB, isData, hd', a, c]))
                · refine (right_2_lo t n da d dc ka [] kc deep w (by omega) ht hdl (by simp) hk hd a).mono (fun e w' h => h.no (by simp [typB, bodyB, isData, hd', a]))
              by_cases h5 : y = 5
              · subst h5
                by_cases a : 0 ≤ n
                · by_cases c : n ≤ 4294967295
                  · refine (right_5_ok t n da d dc ka [] kc deep w (by omega) ht hdl (by simp) hk hd a c).mono (fun e w' h => h.yes (by simp [typB, bodyB, isData, hd', a, c]) rfl)
                  · refine (right_5_hi t n da d dc ka [] kc deep w (by omega) ht hdl (by simp) hk hd a c).mono (fun e w' h => h.no (by simp [typB, bodyB, isData, hd', a, c]))
                · refine (right_5_lo t n da d dc ka [] kc deep w (by omega) ht hdl (by simp) hk hd a).mono (fun e w' h => h.no (by simp [typB, bodyB, isData, hd', a]))
              by_cases h10 : y = 10
              · subst h10
                by_cases a : 0 ≤ n
                · by_cases c : n ≤ 4294967295
                  · refine (right_10_ok t n da d dc ka [] kc deep w (by omega) ht hdl (by simp) hk hd a c).mono (fun e w' h => h.yes (by simp [typB, bodyB, isData, hd', a, c]) rfl)
                  · refine (right_10_hi t n da d dc ka [] kc deep w (by omega) ht hdl (by simp) hk hd a c).mono (fun e w' h => h.no (by simp [typB, bodyB, isData, hd', a, c]))
                · refine (right_10_lo t n da d dc ka [] kc deep w (by omega) ht hdl (by simp) hk hd a).mono (fun e w' h => h.no (by simp [typB, bodyB, isData, hd', a]))
              by_cases h6 : y = 6
              · subst h6
                by_cases a : n = 0
                · refine (right_6_0 t n da d dc ka [] kc deep w (by omega) ht hdl (by simp) hk hd a).mono (fun e w' h => h.yes (by simp [typB, bodyB, isData, hd', a]) rfl)
                · by_cases c : n = 1
                  · refine (right_6_1 t n da d dc ka [] kc deep w (by omega) ht hdl (by simp) hk hd c).mono (fun e w' h => h.yes (by simp [typB, bodyB, isData, hd', c]) rfl)
                  · refine (right_6_x t n da d dc ka [] kc deep w (by omega) ht hdl (by simp) hk hd (by simp [a]) (by simp [c])).mono (fun e w' h => h.no (by simp [typB, bodyB, isData, hd', a, c]))
              by_cases h3 : y = 3
              · subst h3
                refine (right_3 t n da d dc ka [] kc deep w (by omega) ht hdl (by simp) hk hd).mono (fun e w' h => h.yes (by simp [typB, bodyB, isData, hd']) rfl)
              by_cases h9 : y = 9
              · subst h9
                refine (right_9 t n da d dc ka [] kc deep w (by omega) ht hdl (by simp) hk hd).mono (fun e w' h => h.yes (by simp [typB, bodyB, isData, hd']) rfl)
              by_cases h8 : y = 8
              · subst h8
                by_cases a : n = 0
                · refine (right_8 t n da d dc ka [] kc deep w (by omega) ht hdl (by simp) hk a).mono (fun e w' h => h.yes (by simp [typB, bodyB, isData, hd', a]) rfl)
                · refine (right_int_8 t n da d dc ka [] kc deep w (by omega) ht hdl (by simp) hk a).mono (fun e w' h => h.no (by simp [typB, bodyB, isData, hd', a]))
              by_cases h7 : y = 7
              · subst h7
                by_cases a : n = 0
                · refine (right_7 t n da d dc ka [] kc deep w (by omega) ht hdl hk a hD hT).mono (fun e w' h => by rw [show (true && typB 7 && bodyB 7 n d 0) = Lib.validD d by simp [typB, bodyB, isData, a]]; exact h)
                · refine (right_int_7 t n da d dc ka [] kc deep w (by omega) ht hdl (by simp) hk a).mono (fun e w' h => h.no (by simp [typB, bodyB, isData, hd', a]))
              by_cases h4 : y = 4
              · subst h4
                by_cases a : n = 0
                · refine (right_4_0 t n da d dc ka [] kc deep w (by omega) ht hdl (by simp) hk a hd).mono (fun e w' h => h.no (by simp [typB, bodyB, isData, hd', a]))
                · refine (right_int_4 t n da d dc ka [] kc deep w (by omega) ht hdl (by simp) hk a).mono (fun e w' h => h.no (by simp [typB, bodyB, isData, hd', a]))
              have hty : typB y = false := by
                unfold typB
                rw [Bool.and_eq_false_iff, decide_eq_false_iff_not, decide_eq_false_iff_not]
                omega
              refine (right_else_x t y n da d dc ka [] kc deep w (by omega) ht hdl (by simp) hk hd (by simpa using hy1) (by simpa using h2) (by simpa using h3) (by simpa using h4) (by simpa using h5) (by simpa using h6) (by simpa using h7) (by simpa using h8) (by simpa using h9) (by simpa using h10)).mono (fun e w' h => h.no (by rw [hty]; simp))
            · have hd' : ¬ d = [] := fun e => hd (by rw [e]; rfl)
              have hdp' : 0 < d.length := by omega
              by_cases h2 : y = 2
              · subst h2
                refine (right_data_2 t n da d dc ka [] kc deep w (by omega) ht hdl (by simp) hk hdp').mono (fun e w' h => h.no (by simp [typB, bodyB, isData, hd']))
              by_cases h5 : y = 5
              · subst h5
                refine (right_data_5 t n da d dc ka [] kc deep w (by omega) ht hdl (by simp) hk hdp').mono (fun e w' h => h.no (by simp [typB, bodyB, isData, hd']))
              by_cases h10 : y = 10
              · subst h10
                refine (right_data_10 t n da d dc ka [] kc deep w (by omega) ht hdl (by simp) hk hdp').mono (fun e w' h => h.no (by simp [typB, bodyB, isData, hd']))
              by_cases h6 : y = 6
              · subst h6
                refine (right_data_6 t n da d dc ka [] kc deep w (by omega) ht hdl (by simp) hk hdp').mono (fun e w' h => h.no (by simp [typB, bodyB, isData, hd']))
              by_cases h3 : y = 3
              · subst h3
                refine (right_data_3 t n da d dc ka [] kc deep w (by omega) ht hdl (by simp) hk hdp').mono (fun e w' h => h.no (by simp [typB, bodyB, isData, hd']))
              by_cases h9 : y = 9
              · subst h9
                refine (right_data_9 t n da d dc ka [] kc deep w (by omega) ht hdl (by simp) hk hdp').mono (fun e w' h => h.no (by simp [typB, bodyB, isData, hd']))
              by_cases h8 : y = 8
              · subst h8
                by_cases a : n = 0
                · refine (right_8 t n da d dc ka [] kc deep w (by omega) ht hdl (by simp) hk a).mono (fun e w' h => h.yes (by simp [typB, bodyB, isData, a]) rfl)
                · refine (right_int_8 t n da d dc ka [] kc deep w (by omega) ht hdl (by simp) hk a).mono (fun e w' h => h.no (by simp [typB, bodyB, isData, a]))
              by_cases h7 : y = 7
              · subst h7
                by_cases a : n = 0
                · refine (right_7 t n da d dc ka [] kc deep w (by omega) ht hdl hk a hD hT).mono (fun e w' h => by rw [show (true && typB 7 && bodyB 7 n d 0) = Lib.validD d by simp [typB, bodyB, isData, a]]; exact h)
                · refine (right_int_7 t n da d dc ka [] kc deep w (by omega) ht hdl (by simp) hk a).mono (fun e w' h => h.no (by simp [typB, bodyB, isData, a]))
              by_cases h4 : y = 4
              · subst h4
                by_cases a : n = 0
                · by_cases c : d.length % 8 = 0
                  · refine (right_4_ok t n da d dc ka [] kc deep w (by omega) ht hdl (by simp) hk a hdp' c).mono (fun e w' h => h.yes (by simp [typB, bodyB, isData, a, c, hdp']) rfl)
                  · refine (right_4_x t n da d dc ka [] kc deep w (by omega) ht hdl (by simp) hk a hdp' c).mono (fun e w' h => h.no (by simp [typB, bodyB, isData, a, c]))
                · refine (right_int_4 t n da d dc ka [] kc deep w (by omega) ht hdl (by simp) hk a).mono (fun e w' h => h.no (by simp [typB, bodyB, isData, a]))
              have hty : typB y = false := by
                unfold typB
                rw [Bool.and_eq_false_iff, decide_eq_false_iff_not, decide_eq_false_iff_not]
                omega
              refine (right_data_x t y n da d dc ka [] kc deep w (by omega) ht hdl (by simp) hk hdp' (by simpa using hy1) (by simpa using h2) (by simpa using h3) (by simpa using h4) (by simpa using h5) (by simpa using h6) (by simpa using h7) (by simpa using h8) (by simpa using h9) (by simpa using h10)).mono (fun e w' h => h.no (by rw [hty]; simp))
          · have hkp : 0 < ks.length := by omega
            have hk' : ¬ ks = [] := fun e => hk (by rw [e]; rfl)
            have hno : (okB (12 - deep + 1) (.mk t y n d ks) && decide ((It.mk t y n d ks).count ≤ 600)) = false := by
              rw [okB, fitsB]
              by_cases hda : isData y
              · simp [bodyB, hy1, hda, hk']
              · simp [bodyB, hy1, hda, hk']
            by_cases h2 : y = 2
            · subst h2
              exact (right_kids_2 t n da d dc ka ks kc deep w (by omega) ht hdl (by omega) hkp).mono (fun e w' h => h.no hno)
            by_cases h3 : y = 3
            · subst h3
              exact (right_kids_3 t n da d dc ka ks kc deep w (by omega) ht hdl (by omega) hkp).mono (fun e w' h => h.no hno)
            by_cases h4 : y = 4
            · subst h4
              exact (right_kids_4 t n da d dc ka ks kc deep w (by omega) ht hdl (by omega) hkp).mono (fun e w' h => h.no hno)
            by_cases h5 : y = 5
            · subst h5
              exact (right_kids_5 t n da d dc ka ks kc deep w (by omega) ht hdl (by omega) hkp).mono (fun e w' h => h.no hno)
            by_cases h6 : y = 6
            · subst h6
              exact (right_kids_6 t n da d dc ka ks kc deep w (by omega) ht hdl (by omega) hkp).mono (fun e w' h => h.no hno)
            by_cases h7 : y = 7
            · subst h7
              exact (right_kids_7 t n da d dc ka ks kc deep w (by omega) ht hdl (by omega) hkp).mono (fun e w' h => h.no hno)
            by_cases h8 : y = 8
            · subst h8
              exact (right_kids_8 t n da d dc ka ks kc deep w (by omega) ht hdl (by omega) hkp).mono (fun e w' h => h.no hno)
            by_cases h9 : y = 9
            · subst h9
              exact (right_kids_9 t n da d dc ka ks kc deep w (by omega) ht hdl (by omega) hkp).mono (fun e w' h => h.no hno)
            by_cases h10 : y = 10
            · subst h10
              exact (right_kids_10 t n da d dc ka ks kc deep w (by omega) ht hdl (by omega) hkp).mono (fun e w' h => h.no hno)
            exact (right_kids_x t y n da d dc ka ks kc deep w (by omega) ht hdl (by omega) hkp (by simpa using hy1)).mono (fun e w' h => h.no hno)
end Tt
end Go.Proofs.YtedmfjnmclbkpaaDoor
