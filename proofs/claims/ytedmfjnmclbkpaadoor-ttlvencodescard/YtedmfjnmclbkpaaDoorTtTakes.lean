/-
  Which items are right: the program's census and Right.
-/
import Derived.Test.YtedmfjnmclbkpaaDoorTtFits
import Derived.Test.YtedmfjnmclbkpaaDoorTtPsize
import Derived.Test.YtedmfjnmclbkpaaDoorWr
namespace Go.Proofs.YtedmfjnmclbkpaaDoor
open Go.RowKit
set_option linter.unusedSimpArgs false
set_option linter.unusedVariables false

theorem Tabs.only {S : Nat → Prop} {w w' : World} (h : Tabs w) (ho : Only S w w') (h2 : ∀ k, k < 2 → ¬ S k) : Tabs w' :=
  ⟨fun c hc => ho.cell (h.1 c hc) (h2 _ (by show 0 < 2; decide)), fun i hi => ⟨ho.cell (h.2 i hi).1 (h2 _ (by show 1 < 2; decide)), ho.cell (h.2 i hi).2 (h2 _ (by show 1 < 2; decide))⟩⟩
theorem Tabs.two {w : World} (h : Tabs w) : 2 ≤ w.heap.size := by
  have h1 : (1 : Nat) < w.heap.size := World.block_lt_of_cell? w _ (h.2 0 (by decide)).1
  omega

namespace Tt
theorem count_pos (i : It) : 1 ≤ i.count := by obtain ⟨t, y, n, d, ks⟩ := i; rw [It.count]; omega
theorem countAll_take {ks : List It} {j : Nat} (h : j < ks.length) : It.countAll (ks.take (j + 1)) = It.countAll (ks.take j) + ks[j].count := by
  rw [List.take_succ_eq_append_getElem h, countAll_append]
  simp [It.countAll]
theorem countAll_le (ks : List It) (j : Nat) : It.countAll (ks.take j) ≤ It.countAll ks := by
  have h : It.countAll (ks.take j ++ ks.drop j) = It.countAll ks := by rw [List.take_append_drop]
  rw [countAll_append] at h
  omega

/-- the census of an item that stands so deep -/
def Tks (Q : Nat → Prop) (m : Nat) : Prop := ∀ (i : It) (dv kv : Value) (cb depth c : Nat) (w : World), ItAt Q w m i dv kv → (∀ k, Q k → k ≠ cb) → Tabs w → 2 ≤ cb → depth ≤ 1000 → c ≤ 600 → w.heap[cb]? = some (.cells #[.int .i64 c] 69 (0, 0)) →
    Calls Tryd.prog 32 #[.pointer (some ⟨cb, 0, none⟩), ival i dv kv, .int .i64 depth] w fun e w' => e = .returned (.bool (okB (13 - depth) i && decide (c + i.count ≤ 600))) ∧ Only (fun k => k = cb) w w' ∧
      ((okB (13 - depth) i && decide (c + i.count ≤ 600)) = true → w'.heap[cb]? = some (.cells #[.int .i64 ((c + i.count : Nat) : Int)] 69 (0, 0)))

set_option maxHeartbeats 4000000 in
set_option maxRecDepth 100000 in
theorem takes_any {Q : Nat → Prop} : ∀ m, Tks Q m := by
  intro m
  induction m with
  | zero => intro i dv kv cb depth c w h; exact h.elim
  | succ m ih =>
    intro i dv kv cb depth c w h hQ hT hcb hdp hc hb
    obtain ⟨A, hA⟩ : ∃ A, (okB (13 - depth) i && decide (c + i.count ≤ 600)) = A := ⟨_, rfl⟩
    rw [hA]
    have HA := hide hA
    have hcp := count_pos i
    have HIT := hide h
    have HIH := hide ih
    have HQ := hide hQ
    have HT := hide hT
    have HKids := hide h.2.2
    obtain ⟨⟨da, dc, hds⟩, ka, kc, hks⟩ := h.shapes
    subst hds
    subst hks
    have hbl := lt_of_block hb
    have hne : ¬ w.heap.size = cb := by omega
    have hsz : (w.setCell ⟨cb, 0, none⟩ (.int .i64 ((c : Int) + 1))).heap.size = w.heap.size := by simp [World.setCell]
    have o1 : Only (fun k => k = cb) w (w.setCell ⟨cb, 0, none⟩ (.int .i64 ((c : Int) + 1))) := (Only.refl _ _).here 0 _
    have hb1 : (w.setCell ⟨cb, 0, none⟩ (.int .i64 ((c : Int) + 1))).heap[cb]? = some (.cells #[.int .i64 ((c : Int) + 1)] 69 (0, 0)) := one_setCell hb
    obtain ⟨⟨d0, d1, d2, d3, d4⟩, oA⟩ := boxed (w.setCell ⟨cb, 0, none⟩ (.int .i64 ((c : Int) + 1))) (.int .i64 i.tag) (.int .i64 i.typ) (.int .i64 i.int) (.slice da i.data.length dc) (.slice ka i.kids.length kc)
    rw [hsz] at d0 d1 d2 d3 d4
    have hb2 := oA.heap hb1 (fun e => e)
    have HO1 := hide (o1.trans (oA.mono (T := fun k => k = cb) (fun _ _ e => e.elim)) (fun _ _ e => e))
    have d5 : ((w.setCell ⟨cb, 0, none⟩ (.int .i64 ((c : Int) + 1))).alloc (.cells #[.int .i64 i.tag, .int .i64 i.typ, .int .i64 i.int, .slice da i.data.length dc, .slice ka i.kids.length kc] 25)).cell? ⟨cb, 0, none⟩ = some (.int .i64 ((c : Int) + 1)) := oA.cell (by simp [World.cell?, hb1]) (fun e => e)
    have k0 : w.cell? ⟨cb, 0, none⟩ = some (.int .i64 c) := by simp [World.cell?, hb]
    have k0f : w.frozen? ⟨cb, 0, none⟩ = false := by simp [World.frozen?, hb]
    have hc1z : (c : Int) + 1 < 9223372036854775808 := by omega
    have HFit := hide (fits_any (m + 1) i _ _ _ (ItAt.only (unhide HO1) (fun k _ hq e => unhide HQ k hq e) (m + 1) (unhide HIT)) ((unhide HT).only (unhide HO1) (fun k hk e => by omega)))
    have HB2 := hide hb2
    unfold ival
    clear h ih hA hQ hT o1 hb1 oA hb2 hsz
    go_enter Tryd.func32, Tryd.ntmps32
    go_upto_region 2 with fail
    clear k0 k0f
    generalize (w.setCell ⟨cb, 0, none⟩ (.int .i64 ((c : Int) + 1))).alloc (.cells #[.int .i64 i.tag, .int .i64 i.typ, .int .i64 i.int, .slice da i.data.length dc, .slice ka i.kids.length kc] 25) = w2 at *
    by_cases hdeep : 12 < depth
    case pos =>
      have hdz : (12 : Int) < (depth : Int) := by omega
      have HE : Hid (A = false) := by
        show _ = _
        rw [← unhide HA, show 13 - depth = 0 by omega, okB, Bool.false_and]
      clear hdeep HFit
      go_wp2
      go_ret
      rw [unhide HE]
      exact ⟨rfl, unhide HO1, fun h => by cases h⟩
    case neg =>
    have hdz : ¬ (12 : Int) < (depth : Int) := by omega
    obtain ⟨n, hn⟩ : ∃ n, 13 - depth = n + 1 := ⟨12 - depth, by omega⟩
    have HN : Hid (13 - (depth + 1) = n) := by show _ = _; omega
    rw [hn, okB] at HA
    clear hn hdeep
    by_cases hmx : 600 < c + 1
    case pos =>
      have hmz : (600 : Int) < (c : Int) + 1 := by omega
      have HE : Hid (A = false) := by
        show _ = _
        rw [← unhide HA, decide_eq_false (show ¬ c + i.count ≤ 600 by omega), Bool.and_false]
      clear hmx HFit
      go_wp2
      go_ret
      rw [unhide HE]
      exact ⟨rfl, unhide HO1, fun h => by cases h⟩
    case neg =>
    have hmz : ¬ (600 : Int) < (c : Int) + 1 := by omega
    unfold ival at HFit
    go_wp2_with fail
    refine (unhide HFit).mono ?_
    rintro e w3 ⟨rfl, o3⟩
    have HO3 := hide ((unhide HO1).trans o3 (fun _ _ e => e.elim))
    have HB3 := hide (o3.heap (unhide HB2) (fun e => e))
    have e4 := o3.cell d4 (fun e => e)
    clear o3 d0 d1 d2 d3 d4 d5 HFit HB2 HO1
    cases hfb : fitsB i with
    | false =>
      have HE : Hid (A = false) := by
        show _ = _
        rw [← unhide HA, hfb, Bool.false_and, Bool.false_and]
      clear hfb
      go_wp2
      go_ret
      rw [unhide HE]
      exact ⟨rfl, unhide HO3, fun h => by cases h⟩
    | true =>
      rw [hfb, Bool.true_and] at HA
      clear hfb
      obtain ⟨ks, hks⟩ : ∃ ks, i.kids = ks := ⟨_, rfl⟩
      have HC : Hid (i.count = 1 + It.countAll ks) := by show _ = _; rw [← hks]; obtain ⟨t, y, n, d, ks⟩ := i; rfl
      rw [hks] at HA HKids e4
      obtain ⟨kl, hkl⟩ : ∃ kl, ks.length = kl := ⟨_, rfl⟩
      obtain ⟨_, _, hse, hkc, hkm⟩ := (unhide HKids).shape
      rw [hkl] at e4 HKids hkc
      have HKL := hide hkl
      have hklx : (kl : Int) < 9223372036854775808 := by unfold maxLen at hkm; omega
      clear hks hkl hse
      go_wp2_with fail
      go_loopw [33] (fun j wr => ∃ k : Nat, k ≤ kl ∧ j = .int .i64 k ∧ (∀ (m : Nat) (x : It), m < k → ks[m]? = some x → okB n x = true) ∧ c + 1 + It.countAll (ks.take k) ≤ 600 ∧ Only (fun k => k = cb) w wr ∧ wr.cell? ⟨w.heap.size, 4, none⟩ = some (.slice ka kl kc) ∧ wr.heap[cb]? = some (.cells #[.int .i64 ((c + 1 + It.countAll (ks.take k) : Nat) : Int)] 69 (0, 0))) (fun j _ => kl - (intOf j).toNat)
      case atStart => exact ⟨0, Nat.zero_le _, rfl, fun m x h => absurd h (by omega), by simp [It.countAll]; omega, unhide HO3, e4, unhide HB3⟩
      case round =>
        obtain ⟨k, hk, rfl, hall, hcnt, ho, f4, hbr⟩ := hrel
        have HALL := hide hall
        have HO := hide ho
        have HBR := hide hbr
        clear hall ho hbr e4 HB3 HO3
        by_cases hlt : k < kl
        case neg =>
          obtain rfl : kl = k := by omega
          have htk : ks.take kl = ks := List.take_of_length_le (by have := unhide HKL; omega)
          rw [htk] at HBR hcnt
          have HE : Hid (A = true) := by
            show _ = _
            rw [← unhide HA, unhide HC, decide_eq_true (show c + (1 + It.countAll ks) ≤ 600 by omega), Bool.and_true, List.all_eq_true]
            intro x hx
            obtain ⟨j, hj⟩ := List.getElem?_of_mem hx
            exact unhide HALL j x (by have := (List.getElem?_eq_some_iff.1 hj).1; have := unhide HKL; omega) hj
          go_wp2
          go_ret
          rw [unhide HE]
          refine ⟨rfl, unhide HO, fun _ => ?_⟩
          rw [unhide HC, ← Nat.add_assoc]
          exact unhide HBR
        case pos =>
        have hku : k < ks.length := by have := unhide HKL; omega
        have hlt' : (k : Int) < kl := by omega
        obtain ⟨bb, off, dv', kv', hao, hqb, e0, e1, e2, e3, e4, hit⟩ := (unhide HKids).at k hku
        subst hao
        have hnb : ¬ bb = cb := unhide HQ bb hqb
        have f0 := (unhide HO).cell e0 hnb
        have f1 := (unhide HO).cell e1 hnb
        have f2 := (unhide HO).cell e2 hnb
        have f3 := (unhide HO).cell e3 hnb
        have f5 := (unhide HO).cell e4 hnb
        have HX : Hid (ks[k]? = some ks[k]) := List.getElem?_eq_getElem hku
        have hst := countAll_take hku
        have hle := countAll_le ks (k + 1)
        obtain ⟨⟨va, vc, hvs⟩, xa, xc, hxs⟩ := hit.shapes
        obtain ⟨kid, hkid⟩ : ∃ kid, kid = ks[k] := ⟨_, rfl⟩
        rw [← hkid] at f0 f1 f2 hvs hxs HX hst hit
        have HST := hide hst
        subst hvs
        subst hxs
        obtain ⟨ca, hca⟩ : ∃ ca, c + 1 + It.countAll (ks.take k) = ca := ⟨_, rfl⟩
        rw [hca] at HBR hcnt
        have oB := (Only.refl (fun k => k = cb) wr).alloc (.cells #[.int .i64 kid.tag, .int .i64 kid.typ, .int .i64 kid.int, .slice va kid.data.length vc, .slice xa kid.kids.length xc] 25)
        have oBn := (Only.refl (fun _ => False) wr).alloc (.cells #[.int .i64 kid.tag, .int .i64 kid.typ, .int .i64 kid.int, .slice va kid.data.length vc, .slice xa kid.kids.length xc] 25)
        have HOB := hide ((unhide HO).trans oB (fun _ _ e => e))
        have HIK := hide (unhide HIH kid _ _ cb (depth + 1) ca _ (ItAt.only (unhide HOB) (fun k _ hq e => unhide HQ k hq e) m hit) (unhide HQ) ((unhide HT).only (unhide HOB) (fun k hk e => by omega)) hcb (by omega) hcnt (oBn.heap (unhide HBR) (fun e => e)))
        have g4 := oBn.cell f4 (fun e => e)
        have hwk := (unhide HO).size
        unfold ival at HIK
        rw [unhide HN, show (((depth + 1 : Nat)) : Int) = (depth : Int) + 1 by omega] at HIK
        clear hkid e0 e1 e2 e3 e4 hit oB oBn hst
        go_wp2_with fail
        refine (unhide HIK).mono ?_
        rintro e w4 ⟨rfl, o4, hb4⟩
        have HO4 := hide ((unhide HOB).trans o4 (fun _ _ e => e))
        have h4 := o4.cell g4 (by show ¬ w.heap.size = cb; omega)
        have HB4 := hide hb4
        clear o4 hb4 g4 f0 f1 f2 f3 f4 f5 HIK HOB HO
        cases hsb : (okB n kid && decide (ca + kid.count ≤ 600)) with
        | false =>
          have HE : Hid (A = false) := by
            show _ = _
            rw [← unhide HA, ← Bool.not_eq_true]
            intro h
            rw [Bool.and_eq_true, List.all_eq_true, decide_eq_true_eq, unhide HC] at h
            have h1 := h.1 kid (List.mem_of_getElem? (unhide HX))
            have h2 : ca + kid.count ≤ 600 := by have := unhide HST; omega
            rw [h1, decide_eq_true h2] at hsb
            cases hsb
          clear hsb
          go_wp2
          go_ret
          rw [unhide HE]
          exact ⟨rfl, unhide HO4, fun h => by cases h⟩
        | true =>
          have hbb := unhide HB4 hsb
          rw [Bool.and_eq_true, decide_eq_true_eq] at hsb
          have HOK := hide hsb.1
          have hcc := hsb.2
          have HN2 : Hid (∀ (m : Nat) (x : It), m < k + 1 → ks[m]? = some x → okB n x = true) := fun m x hm hx => by
            by_cases e : m < k
            · exact unhide HALL m x e hx
            · obtain rfl : m = k := by omega
              rw [unhide HX] at hx
              cases hx
              exact unhide HOK
          have HBB := hide hbb
          clear hsb HB4 hbb
          go_wp2
          go_roundw
          case rel =>
            refine ⟨k + 1, by omega, by go_num, unhide HN2, by rw [unhide HST]; omega, unhide HO4, h4, ?_⟩
            rw [unhide HST, ← Nat.add_assoc, hca]
            exact unhide HBB
          case measure => simp [intOf]; omega

set_option maxHeartbeats 1000000 in
/-- Right -/
theorem Right_any {Q : Nat → Prop} (n : Nat) (i : It) (dv kv : Value) (w : World) (h : ItAt Q w n i dv kv) (hT : Tabs w) (hn : n ≤ 99) (hsz : i.size ≤ 2147483648) (hsm : i.small 140737488355328) :
    Calls Tryd.prog 15 #[ival i dv kv] w fun e w' => e = .returned (.bool (rightB i)) ∧ Only (fun _ => False) w w' := by
  obtain ⟨A, hA⟩ : ∃ A, rightB i = A := ⟨_, rfl⟩
  rw [hA]
  have HA := hide hA
  unfold rightB at HA
  obtain ⟨⟨c0, c1, c2, c3, c4⟩, oA⟩ := boxed w (.int .i64 i.tag) (.int .i64 i.typ) (.int .i64 i.int) dv kv
  have h2 := hT.two
  have hsz1 : (w.alloc (.cells #[.int .i64 i.tag, .int .i64 i.typ, .int .i64 i.int, dv, kv] 25)).heap.size = w.heap.size + 1 := by simp
  have hbn := heap_alloc_new (w.alloc (.cells #[.int .i64 i.tag, .int .i64 i.typ, .int .i64 i.int, dv, kv] 25)) (.cells #[.int .i64 0] 69)
  rw [hsz1] at hbn
  have oB := (Only.refl (fun _ => False) (w.alloc (.cells #[.int .i64 i.tag, .int .i64 i.typ, .int .i64 i.int, dv, kv] 25))).alloc (.cells #[.int .i64 0] 69)
  have oC := oA.trans oB (fun _ _ e => e)
  have hq : ItAt (fun k => Q k ∧ k < w.heap.size) w n i dv kv := ItAt.mono (fun k hk hq => ⟨hq, hk⟩) n h
  have HTk := hide (takes_any n i dv kv (w.heap.size + 1) 1 0 _ (hq.same oC) (fun k hk => by have := hk.2; omega) (hT.same oC) (by omega) (by decide) (by decide) hbn)
  have HSz := hide (fun W (ho : Only (fun k => k = w.heap.size + 1) w W) => Size_any n i dv kv W (ItAt.only ho (fun k hk _ e => by omega) n h) hn hsz hsm)
  have e0 := oB.cell c0 (fun e => e)
  have e1 := oB.cell c1 (fun e => e)
  have e2 := oB.cell c2 (fun e => e)
  have e3 := oB.cell c3 (fun e => e)
  have e4 := oB.cell c4 (fun e => e)
  have HOC := hide oC
  obtain ⟨⟨da, dc, hds⟩, ka, kc, hks⟩ := h.shapes
  subst hds
  subst hks
  unfold ival at HTk HSz ⊢
  rw [show 13 - 1 = 12 from rfl, Nat.zero_add] at HTk
  clear hA h hT oA oB oC hq hbn c0 c1 c2 c3 c4 hsz1
  go_enter Tryd.func15, Tryd.ntmps15
  go_wp2_with fail
  refine (unhide HTk).mono ?_
  rintro e w2 ⟨rfl, o2, hb2⟩
  have HO2 := hide ((unhide HOC).trans o2 (T := fun k => k = w.heap.size + 1) (fun k hk e => by omega))
  have HO2' := hide (((unhide HOC).mono (T := fun k => k = w.heap.size + 1) (fun _ _ e => e.elim)).trans o2 (fun _ _ e => e))
  have hne : ¬ w.heap.size = w.heap.size + 1 := by omega
  have f0 := o2.cell e0 hne
  have f1 := o2.cell e1 hne
  have f2 := o2.cell e2 hne
  have f3 := o2.cell e3 hne
  have f4 := o2.cell e4 hne
  clear o2 hb2 e0 e1 e2 e3 e4 HTk hne
  cases hB : (okB 12 i && decide (i.count ≤ 600)) with
  | false =>
    have HE : Hid (A = false) := by show _ = _; rw [← unhide HA, hB, Bool.false_and]
    clear hB
    go_wp2
    go_ret
    rw [unhide HE]
    exact ⟨rfl, unhide HO2⟩
  | true =>
    rw [hB, Bool.true_and] at HA
    clear hB
    go_wp2_with fail
    refine (unhide HSz _ (unhide HO2')).mono ?_
    rintro e w3 ⟨rfl, o3⟩
    have HO3 := hide ((unhide HO2).trans o3 (fun _ _ e => e))
    clear o3
    by_cases hs : i.size ≤ 8192
    case pos =>
      have hsz : (i.size : Int) ≤ 8192 := by omega
      have HE : Hid (A = true) := by show _ = _; rw [← unhide HA, decide_eq_true hs]
      clear hs
      go_wp2
      go_ret
      rw [unhide HE]
      exact ⟨rfl, unhide HO3⟩
    case neg =>
      have hsz : ¬ (i.size : Int) ≤ 8192 := by omega
      have HE : Hid (A = false) := by show _ = _; rw [← unhide HA, decide_eq_false hs]
      clear hs
      go_wp2
      go_ret
      rw [unhide HE]
      exact ⟨by rw [decide_eq_false (by omega)]; rfl, unhide HO3⟩
end Tt
end Go.Proofs.YtedmfjnmclbkpaaDoor
