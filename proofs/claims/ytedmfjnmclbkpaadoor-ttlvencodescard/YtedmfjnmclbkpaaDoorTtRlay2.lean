/-
  The reference's lay of any item; its Size, Right, Encode.
-/
import Derived.Test.YtedmfjnmclbkpaaDoorTtRlay
import Derived.Test.YtedmfjnmclbkpaaDoorTtRight3
import Derived.Test.YtedmfjnmclbkpaaDoorTtEnc
namespace Go.Proofs.YtedmfjnmclbkpaaDoor
open Go.RowKit
set_option linter.unusedSimpArgs false
set_option linter.unusedVariables false
namespace Tt

theorem wrote_same {T : TypeId} {w w1 w2 : World} {b : Nat} {v v' : Value} {cs : List UInt8} (h : Wrote T w b v w1 v' cs) (ho : Only (fun _ => False) w1 w2) : Wrote T w b v w2 v' cs :=
  ⟨h.now.only ho (fun e => e) (fun _ _ e => e), h.only.trans (ho.mono (T := fun k => k = b ∨ v.ownBlock = some k) (fun _ _ e => e.elim)) (fun _ _ e => e), h.fresh⟩

theorem rSize_any {Q : Nat → Prop} (n : Nat) (i : It) (dv kv : Value) (w : World) (h : ItAt Q w n i dv kv) (hn : n ≤ 99) (hsz : i.size ≤ 2147483648) (hsm : i.small 140737488355328) :
    Calls Tryd.prog 18 #[ival i dv kv] w fun e w' => e = .returned (.int .i64 i.size) ∧ Only (fun _ => False) w w' := by
  obtain ⟨⟨c0, c1, c2, c3, c4⟩, oA⟩ := boxed w (.int .i64 i.tag) (.int .i64 i.typ) (.int .i64 i.int) dv kv
  have HC := hide (fun W (o : Only (fun _ => False) w W) => rsize_any n i dv kv 0 W (h.same o) (by omega) hsz hsm)
  have HO := hide oA
  obtain ⟨⟨da, dc, hds⟩, ka, kc, hks⟩ := h.shapes
  subst hds
  subst hks
  unfold ival at HC ⊢
  clear h oA hsz hsm
  go_enter Tryd.func18, Tryd.ntmps18
  go_wp2_with fail
  refine (unhide HC _ (by first | exact unhide HO | exact Only.refl _ _)).mono ?_
  rintro e w2 ⟨rfl, o2⟩
  have HO2 := hide (Only.trans (by first | exact unhide HO | exact Only.refl _ _) o2 (fun _ _ e => e))
  clear o2
  go_wp2
  go_ret
  exact ⟨rfl, unhide HO2⟩

set_option maxHeartbeats 1000000 in
theorem rRight_any {Q : Nat → Prop} (n : Nat) (i : It) (dv kv : Value) (w : World) (h : ItAt Q w n i dv kv) (hT : Tabs w) (hn : n ≤ 99) (hsz : i.size ≤ 2147483648) (hsm : i.small 140737488355328) (hc : i.count ≤ 1000) :
    Calls Tryd.prog 16 #[ival i dv kv] w fun e w' => e = .returned (.bool (rightB i)) ∧ Only (fun _ => False) w w' := by
  obtain ⟨⟨c0, c1, c2, c3, c4⟩, oA⟩ := boxed w (.int .i64 i.tag) (.int .i64 i.typ) (.int .i64 i.int) dv kv
  have hR : Calls Tryd.prog 33 #[ival i dv kv, .int .i64 1] (w.alloc (.cells #[.int .i64 i.tag, .int .i64 i.typ, .int .i64 i.int, dv, kv] 25)) fun e w' => RightAs _ (okB 12 i && decide (i.count ≤ 600)) i.count e w' := right_any n i dv kv 1 _ (h.same oA) (hT.same oA) hsm hc (by decide)
  have HR := hide hR
  have HS := hide (fun W (o : Only (fun _ => False) w W) => rSize_any n i dv kv W (h.same o) hn hsz hsm)
  have HO := hide oA
  have HSz := hide hsz
  obtain ⟨⟨da, dc, hds⟩, ka, kc, hks⟩ := h.shapes
  subst hds
  subst hks
  have hrb : rightB i = ((okB 12 i && decide (i.count ≤ 600)) && decide (i.size ≤ 8192)) := rfl
  rw [hrb]
  unfold ival at HR HS ⊢
  cases hA : (okB 12 i && decide (i.count ≤ 600)) with
  | false =>
    rw [hA] at HR
    clear h oA hsz hsm hrb hA hR
    go_enter Tryd.func16, Tryd.ntmps16
    go_wp2_with fail
    refine (unhide HR).mono ?_
    rintro e w2 ⟨⟨m, _, rfl, _⟩, o2⟩
    have HO2 := hide ((unhide HO).trans o2 (fun _ _ e => e))
    clear o2
    go_wp2
    go_ret
    exact ⟨rfl, unhide HO2⟩
  | true =>
    rw [hA] at HR
    clear h oA hsz hsm hrb hA hR
    cases hz : decide (i.size ≤ 8192) with
    | false =>
      have hz2 : ¬ (i.size : Int) ≤ 8192 := by have := of_decide_eq_false hz; omega
      have hz3 : decide ((i.size : Int) ≤ 8192) = false := decide_eq_false hz2
      have hz4 : (8192 : Int) < i.size := by omega
      clear hz
      generalize i.size = sz at *
      go_enter Tryd.func16, Tryd.ntmps16
      go_wp2_with fail
      refine (unhide HR).mono ?_
      rintro e w2 ⟨⟨m, _, rfl, _⟩, o2⟩
      have HO2 := hide ((unhide HO).trans o2 (fun _ _ e => e))
      have d0 := o2.cell c0 (fun e => e)
      have d1 := o2.cell c1 (fun e => e)
      have d2 := o2.cell c2 (fun e => e)
      have d3 := o2.cell c3 (fun e => e)
      have d4 := o2.cell c4 (fun e => e)
      clear o2 c0 c1 c2 c3 c4
      go_wp2_with fail
      refine (unhide HS _ (unhide HO2)).mono ?_
      rintro e w3 ⟨rfl, o3⟩
      have HO3 := hide ((unhide HO2).trans o3 (fun _ _ e => e))
      clear o3 d0 d1 d2 d3 d4
      go_wp2
      go_ret
      exact ⟨rfl, unhide HO3⟩
    | true =>
      have hz2 : (i.size : Int) ≤ 8192 := by have := of_decide_eq_true hz; omega
      have hz3 : decide ((i.size : Int) ≤ 8192) = true := decide_eq_true hz2
      clear hz
      generalize i.size = sz at *
      go_enter Tryd.func16, Tryd.ntmps16
      go_wp2_with fail
      refine (unhide HR).mono ?_
      rintro e w2 ⟨⟨m, _, rfl, _⟩, o2⟩
      have HO2 := hide ((unhide HO).trans o2 (fun _ _ e => e))
      have d0 := o2.cell c0 (fun e => e)
      have d1 := o2.cell c1 (fun e => e)
      have d2 := o2.cell c2 (fun e => e)
      have d3 := o2.cell c3 (fun e => e)
      have d4 := o2.cell c4 (fun e => e)
      clear o2 c0 c1 c2 c3 c4
      go_wp2_with fail
      refine (unhide HS _ (unhide HO2)).mono ?_
      rintro e w3 ⟨rfl, o3⟩
      have HO3 := hide ((unhide HO2).trans o3 (fun _ _ e => e))
      clear o3 d0 d1 d2 d3 d4
      go_wp2
      go_ret
      exact ⟨rfl, unhide HO3⟩

set_option maxHeartbeats 4000000 in
set_option maxRecDepth 100000 in
theorem rlay_1 (t : Nat) (da : Option Addr) (dl dc : Nat) (ka : Option Addr) (ks : List It) (kc b : Nat) (v : Value) (bs : List UInt8) (w : World) (hW : WrAt 66 w b v bs) (ht : t < 16777216) (hr : bs.length ≤ 1000000) {Q : Nat → Prop} (N L : Nat) (hK : KidsAt Q w (ItAt Q w N) (.slice ka ks.length kc) ks) (hQ : ∀ k, Q k → k ≠ b ∧ v.ownBlock ≠ some k) (hLs : L = It.sizeAll ks) (hL : L ≤ 1000000) (hr2 : bs.length + 8 + L ≤ 1000000) (hb8 : bs.length % 8 = 0)
    (HSz : Hid (∀ W v1 cs, Wrote 66 w b v W v1 cs → Calls Tryd.prog 18 #[.agg #[.int .i64 t, .int .i64 1, .int .i64 0, .slice da dl dc, .slice ka ks.length kc]] W fun e w' => e = .returned (.int .i64 (8 + L : Nat)) ∧ Only (fun _ => False) W w'))
    (HIH : Hid (∀ (x : It) dv kv W v1 cs, x ∈ ks → ItAt Q w N x dv kv → Wrote 66 w b v W v1 cs → cs.length % 8 = 0 → cs.length + x.size ≤ 1000000 → Calls Tryd.prog 31 #[.pointer (some ⟨b, 0, none⟩), ival x dv kv] W fun e w' => e = .returned (.tuple #[]) ∧ ∃ v2, Wrote 66 W b v1 w' v2 (cs ++ x.lay))) :
    Calls Tryd.prog 31 #[.pointer (some ⟨b, 0, none⟩), .agg #[.int .i64 t, .int .i64 1, .int .i64 0, .slice da dl dc, .slice ka ks.length kc]] w fun e w' => e = .returned (.tuple #[]) ∧ ∃ v', Wrote 66 w b v w' v' (bs ++ (headL t 1 L ++ It.layAll ks)) := by
  have HKd := hide hK
  have HQ0 := hide hQ
  have HLL := hide hL
  have HLs := hide hLs
  have HB8 := hide hb8
  have HR2 := hide hr2
  have hkl : ks.length ≤ 9223372036854775807 := by
    obtain ⟨_, _, e, h1, h2⟩ := hK.shape
    simp only [Value.slice.injEq] at e
    unfold maxLen at h2
    omega
  clear hK hQ hL hLs hb8 hr2
  obtain ⟨⟨c0, c1, c2, c3, c4⟩, oA⟩ := boxed w (.int .i64 t) (.int .i64 1) (.int .i64 0) (.slice da dl dc) (.slice ka ks.length kc)
  have hl := hW.laid (.cells #[.int .i64 t, .int .i64 1, .int .i64 0, .slice da dl dc, .slice ka ks.length kc] 25)
  have HLD := hide hl
  have HK : Hid (∀ W v1 cs, Wrote 66 (w.alloc (.cells #[.int .i64 t, .int .i64 1, .int .i64 0, .slice da dl dc, .slice ka ks.length kc] 25)) b v W v1 cs → W.cell? ⟨w.heap.size, 0, none⟩ = some (.int .i64 t) ∧ W.cell? ⟨w.heap.size, 1, none⟩ = some (.int .i64 1) ∧ W.cell? ⟨w.heap.size, 2, none⟩ = some (.int .i64 0) ∧ W.cell? ⟨w.heap.size, 3, none⟩ = some (.slice da dl dc) ∧ W.cell? ⟨w.heap.size, 4, none⟩ = some (.slice ka ks.length kc)) := fun W v1 cs hw =>
    ⟨wrote_boxR hW (Nat.le_refl _) hw c0, wrote_boxR hW (Nat.le_refl _) hw c1, wrote_boxR hW (Nat.le_refl _) hw c2, wrote_boxR hW (Nat.le_refl _) hw c3, wrote_boxR hW (Nat.le_refl _) hw c4⟩
  have H1 := hide (WR.u8_any b v bs ((t / 65536 : Nat) : Int) _ hl.now (by omega))
  rw [be_nat 1 (t / 65536) (by omega)] at H1
  rw [show ((t / 65536 : Nat) : Int) = (t : Int) / 65536 by omega] at H1
  have HR := hide hr
  have HT := hide ht
  have hs16 := shr16 t
  rw [show ((t / 65536 : Nat) : Int) = (t : Int) / 65536 by omega] at hs16
  clear hl oA hr ht
  go_enter Tryd.func31, Tryd.ntmps31
  go_wp2_with fail
  refine (unhide H1).mono ?_
  rintro e w2 ⟨rfl, v2, hw2⟩
  obtain ⟨e0, e1, e2, e3, e4⟩ := unhide HK _ _ _ hw2
  have H2 := hide (WR.u16_any b v2 _ (t : Int) w2 hw2.now (by rw [List.length_append, be_length]; have := unhide HR; omega))
  rw [be_nat 2 t (by have := unhide HT; omega)] at H2
  have HW2 := hide hw2
  clear hw2 c0 c1 c2 c3 c4 H1
  go_wp2_with fail
  refine (unhide H2).mono ?_
  rintro e w3 ⟨rfl, v3, hw3⟩
  have hw23 := (unhide HW2).trans hw3
  clear e0 e1 e2 e3 e4 H2 HW2 hw3
  obtain ⟨e0, e1, e2, e3, e4⟩ := unhide HK _ _ _ hw23
  have H3 := hide (WR.u8_any b v3 _ (1 : Int) w3 hw23.now (by rw [List.length_append, List.length_append, be_length, be_length]; have := unhide HR; omega))
  rw [show toU64 (1 : Int) = 1 from by decide +kernel] at H3
  have HW3 := hide hw23
  clear hw23
  go_wp2_with fail
  refine (unhide H3).mono ?_
  rintro e w4 ⟨rfl, v4, hw4⟩
  have hw24 := (unhide HW3).trans hw4
  clear e0 e1 e2 e3 e4 H3 HW3 hw4
  obtain ⟨e0, e1, e2, e3, e4⟩ := unhide HK _ _ _ hw24
  have hq : (bs ++ be 1 (t / 65536) ++ be 2 t ++ be 1 1).length ≤ 1000004 := by simp only [List.length_append, be_length]; have := unhide HR; omega
  have hq8 : (bs ++ be 1 (t / 65536) ++ be 2 t ++ be 1 1).length = bs.length + 4 := by simp only [List.length_append, be_length]
  obtain ⟨B, hB⟩ : ∃ B, B = bs ++ be 1 (t / 65536) ++ be 2 t ++ be 1 1 := ⟨_, rfl⟩
  rw [← hB] at hw24 hq hq8
  have HB := hide hB
  have HQ := hide hq
  have HQ8 := hide hq8
  clear hB hq hq8
  have HG4 := hide ((unhide HLD).trans hw24)
  have HW4 := hide hw24
  clear hw24
  go_wp2_with fail
  refine (unhide HSz _ _ _ (unhide HG4)).mono ?_
  rintro e w5 ⟨rfl, o5⟩
  have hw25 := wrote_same (unhide HW4) o5
  clear e0 e1 e2 e3 e4 o5 HG4 HW4
  have Ha := WR.u32_any b v4 _ (L : Int) w5 hw25.now (by have := unhide HQ; omega)
  rw [be_nat 4 L (by have := unhide HLL; omega)] at Ha
  have Ha := hide Ha
  have HPa := hide hw25
  have h8 : ((8 + L : Nat) : Int) = 8 + (L : Int) := by omega
  rw [h8]
  have hw8 : IntKind.i64.wrap (8 + (L : Int) - 8) = (L : Int) := by have := unhide HLL; rw [IntKind.wrap_i64]; omega
  have hLb : L ≤ 1000000 := unhide HLL
  clear hw25 h8
  go_wp2_with fail
  refine (unhide Ha).mono ?_
  rintro e xa ⟨rfl, ya, za⟩
  have ga := (unhide HPa).trans za
  clear za Ha HPa
  have HGa := hide ga
  have hL0 : (B ++ be 4 L).length = bs.length + 8 := by simp only [List.length_append, be_length]; have := unhide HQ8; omega
  have HL0 := hide hL0
  clear ga hL0 hw8
  obtain ⟨M, hM⟩ : ∃ M, M = ks.length := ⟨_, rfl⟩
  have HKd2 := HKd
  rw [← hM] at HK HGa hkl HLD ⊢
  have HM := hide hM
  clear hM
  obtain ⟨_, _, _, _, e4⟩ := unhide HK _ _ _ (unhide HGa)
  go_wp2
  go_loopw [4] (fun j wr => ∃ k : Nat, k ≤ M ∧ j = .int .i64 k ∧ ∃ v', Hid (Wrote 66 (w.alloc (.cells #[.int .i64 t, .int .i64 1, .int .i64 0, .slice da dl dc, .slice ka M kc] 25)) b v wr v' (B ++ be 4 L ++ It.layAll (ks.take k)))) (fun j _ => M - (intOf j).toNat)
  case atStart => exact ⟨0, Nat.zero_le _, rfl, ya, by simpa [It.layAll] using HGa⟩
  case round =>
    obtain ⟨k, hk, rfl, v', HWr⟩ := hrel
    clear e4
    obtain ⟨e0, e1, e2, e3, e4⟩ := unhide HK _ _ _ (unhide HWr)
    have HGr := hide ((unhide HLD).trans (unhide HWr))
    clear e0 e1 e2 e3
    by_cases hlt : k < M
    · have hkm : k < ks.length := by rw [← unhide HM]; exact hlt
      obtain ⟨bb, off, dv, kv, rfl, hq, p0, p1, p2, p3, p4, hit⟩ := (unhide HKd).at k hkm
      obtain ⟨hq1, hq2⟩ := unhide HQ0 bb hq
      have hne : ¬ (bb = b ∨ v.ownBlock = some bb) := fun e => by rcases e with e | e; exact hq1 e; exact hq2 e
      have p0 := (unhide HGr).only.cell p0 hne
      have p1 := (unhide HGr).only.cell p1 hne
      have p2 := (unhide HGr).only.cell p2 hne
      have p3 := (unhide HGr).only.cell p3 hne
      have p4 := (unhide HGr).only.cell p4 hne
      have hlen : (B ++ be 4 L ++ It.layAll (ks.take k)).length = bs.length + 8 + It.sizeAll (ks.take k) := by rw [List.length_append, unhide HL0, layAll_length]
      have hle := sizeAll_le ks k
      have hm8 := sizeAll_mod (ks.take k)
      have hmem : ks[k] ∈ ks := List.getElem_mem hkm
      have HC := hide (unhide HIH ks[k] dv kv wr v' _ hmem hit (unhide HGr) (by rw [hlen]; have := unhide HB8; omega) (by rw [hlen]; have h1 := unhide HR2; have h2 := unhide HLs; have h3 := sizeAll_take hkm; have h4 := sizeAll_le ks (k + 1); omega))
      have HTk : Hid (B ++ be 4 L ++ It.layAll (ks.take (k + 1)) = B ++ be 4 L ++ It.layAll (ks.take k) ++ ks[k].lay) := by
        show _ = _
        rw [List.take_succ_eq_append_getElem hkm, layAll_append, It.layAll, It.layAll, List.append_nil, ← List.append_assoc]
      obtain ⟨⟨ea, ec, hds⟩, eb, ed, hks⟩ := hit.shapes
      generalize ks[k] = kid at *
      subst hds
      subst hks
      unfold ival at HC
      have hki : (k : Int) < M := by omega
      have HLt := hide hlt
      clear hq hit hq1 hq2 hne hlen hle hm8 hmem hkm
      go_wp2_with fail
      refine (unhide HC).mono ?_
      rintro e w8 ⟨rfl, v8, z8⟩
      have HN := hide ((unhide HWr).trans z8)
      rw [← unhide HTk] at HN
      clear z8 HC p0 p1 p2 p3 p4 e4
      go_wp2
      go_roundw
      case rel => exact ⟨k + 1, by have := unhide HLt; omega, by go_num, v8, HN⟩
      case measure => have := unhide HLt; simp [intOf]; omega
    · obtain rfl : k = M := by omega
      have htk : ks.take k = ks := List.take_of_length_le (by rw [unhide HM]; exact Nat.le_refl _)
      have R := unhide HGr
      rw [htk, unhide HB] at R
      have HRr := hide R
      clear R htk HGr
      go_wp2
      go_end0
      refine ⟨rfl, v', ?_⟩
      have R := unhide HRr
      have E : bs ++ be 1 (t / 65536) ++ be 2 t ++ be 1 1 ++ be 4 L ++ It.layAll ks = bs ++ (headL t 1 L ++ It.layAll ks) := by
        unfold headL
        simp only [List.append_assoc, Int.toNat_natCast]
        rfl
      rw [E] at R
      exact R

theorem okB_step {d : Nat} {t y n : Int} {dd : List UInt8} {ks : List It} (h : okB d (.mk t y n dd ks) = true) : ∃ d', d = d' + 1 ∧ tagB t = true ∧ typB y = true ∧ bodyB y n dd ks.length = true ∧ ∀ k ∈ ks, okB d' k = true := by
  cases d with
  | zero => cases h
  | succ d =>
    rw [okB, fitsB] at h
    simp only [Bool.and_eq_true, It.kids] at h
    exact ⟨d, rfl, h.1.1.1, h.1.1.2, h.1.2, List.all_eq_true.1 h.2⟩

theorem rlay_any {Q : Nat → Prop} : ∀ (n : Nat) (i : It) (dv kv : Value) (d b : Nat) (v : Value) (bs : List UInt8) (w : World), ItAt Q w n i dv kv → WrAt 66 w b v bs → Sep Q w b v → okB d i = true → i.small 1000000 → n ≤ 99 → bs.length % 8 = 0 → bs.length + i.size ≤ 1000000 →
    Calls Tryd.prog 31 #[.pointer (some ⟨b, 0, none⟩), ival i dv kv] w fun e w' => e = .returned (.tuple #[]) ∧ ∃ v', Wrote 66 w b v w' v' (bs ++ i.lay) := by
  intro n
  induction n with
  | zero => intro i dv kv d b v bs w h; exact h.elim
  | succ n ih =>
    intro i dv kv d b v bs w h hW hQ hok hsm hn hb8 hsz
    obtain ⟨⟨da, dc, hds⟩, ka, kc, hks⟩ := h.shapes
    have h0 := h
    subst hds
    subst hks
    obtain ⟨t, y, m, dd, ks⟩ := i
    obtain ⟨hD, hDq, hK⟩ := h
    obtain ⟨d', rfl, ht, hy, hbd, hkk⟩ := okB_step hok
    obtain ⟨tn, rfl, htn⟩ : ∃ tn : Nat, t = tn ∧ tn < 16777216 := by
      unfold tagB at ht
      simp only [Bool.or_eq_true, Bool.and_eq_true, decide_eq_true_eq] at ht
      exact ⟨t.toNat, by omega, by omega⟩
    have hyb : 1 ≤ y ∧ y ≤ 10 := by
      unfold typB at hy
      simpa using hy
    have hzge := size_ge (.mk tn y m dd ks)
    have hdl : dd.length ≤ 1000000 := by rw [It.small] at hsm; exact hsm.2.2.2.1
    rcases (show y = 1 ∨ y = 2 ∨ y = 3 ∨ y = 4 ∨ y = 5 ∨ y = 6 ∨ y = 7 ∨ y = 8 ∨ y = 9 ∨ y = 10 by omega) with rfl | rfl | rfl | rfl | rfl | rfl | rfl | rfl | rfl | rfl
    · have hm0 : m = 0 := by
        unfold bodyB at hbd
        simp only [if_true, Bool.and_eq_true, decide_eq_true_eq] at hbd
        exact hbd.1
      subst hm0
      have hsz8 : (It.mk tn 1 0 dd ks).size = 8 + It.sizeAll ks := by rw [It.size, if_pos rfl]
      have hl : (It.mk tn 1 0 dd ks).lay = headL tn 1 (It.sizeAll ks) ++ It.layAll ks := by rw [It.lay, if_pos rfl]; rfl
      rw [hl]
      rw [It.small] at hsm
      exact rlay_1 tn da dd.length dc ka ks kc b v bs w hW htn (by omega) n (It.sizeAll ks) hK (fun k hk => (hQ k hk).2) rfl (by omega) (by omega) hb8
        (fun W v1 cs hw => by
          have hI : ItAt Q W (n + 1) (.mk tn 1 0 dd ks) (.slice da dd.length dc) (.slice ka ks.length kc) := hQ.it hw h0
          have hS := rSize_any (n + 1) _ _ _ W hI (by omega) (by omega) (small_le (.mk tn 1 0 dd ks) (show (1000000 : Nat) ≤ 140737488355328 by decide) (by rw [It.small]; exact hsm))
          rw [hsz8] at hS
          exact hS)
        (fun x dv kv W v1 cs hx hI hw h8 hcl => ih x dv kv d' b v1 cs W (hQ.it hw hI) hw.now (hQ.wrote hw) (hkk x hx) ((smallAll_iff _ ks).1 hsm.2.2.2.2 x hx) (by omega) h8 hcl)
    · have hl : (It.mk tn 2 m dd ks).lay = headL tn 2 4 ++ (be 4 (toU64 m) ++ List.replicate 4 0) := by rw [It.lay]; simp [lenOf, isData, isNarrow]
      rw [hl]
      exact rlay_2 tn m da dd.length dc ka ks.length kc b v bs w hW htn (by omega)
    · have hl : (It.mk tn 3 m dd ks).lay = headL tn 3 8 ++ be 8 (toU64 m) := by rw [It.lay]; simp [lenOf, isData, isNarrow]
      rw [hl]
      exact rlay_3 tn m da dd.length dc ka ks.length kc b v bs w hW htn (by omega)
    · have hl : (It.mk tn 4 m dd ks).lay = headL tn 4 dd.length ++ (dd ++ List.replicate (pad8 dd.length - dd.length) 0) := by rw [It.lay]; simp [lenOf, isData]
      rw [hl]
      exact rlay_4 tn m da dd dc ka ks.length kc b v bs w hW htn (by omega) hD (fun hne k hk => (hQ k (hDq hne k hk)).2) hdl hb8
    · have hl : (It.mk tn 5 m dd ks).lay = headL tn 5 4 ++ (be 4 (toU64 m) ++ List.replicate 4 0) := by rw [It.lay]; simp [lenOf, isData, isNarrow]
      rw [hl]
      exact rlay_5 tn m da dd.length dc ka ks.length kc b v bs w hW htn (by omega)
    · have hl : (It.mk tn 6 m dd ks).lay = headL tn 6 8 ++ be 8 (toU64 m) := by rw [It.lay]; simp [lenOf, isData, isNarrow]
      rw [hl]
      exact rlay_6 tn m da dd.length dc ka ks.length kc b v bs w hW htn (by omega)
    · have hl : (It.mk tn 7 m dd ks).lay = headL tn 7 dd.length ++ (dd ++ List.replicate (pad8 dd.length - dd.length) 0) := by rw [It.lay]; simp [lenOf, isData]
      rw [hl]
      exact rlay_7 tn m da dd dc ka ks.length kc b v bs w hW htn (by omega) hD (fun hne k hk => (hQ k (hDq hne k hk)).2) hdl hb8
    · have hl : (It.mk tn 8 m dd ks).lay = headL tn 8 dd.length ++ (dd ++ List.replicate (pad8 dd.length - dd.length) 0) := by rw [It.lay]; simp [lenOf, isData]
      rw [hl]
      exact rlay_8 tn m da dd dc ka ks.length kc b v bs w hW htn (by omega) hD (fun hne k hk => (hQ k (hDq hne k hk)).2) hdl hb8
    · have hl : (It.mk tn 9 m dd ks).lay = headL tn 9 8 ++ be 8 (toU64 m) := by rw [It.lay]; simp [lenOf, isData, isNarrow]
      rw [hl]
      exact rlay_9 tn m da dd.length dc ka ks.length kc b v bs w hW htn (by omega)
    · have hl : (It.mk tn 10 m dd ks).lay = headL tn 10 4 ++ (be 4 (toU64 m) ++ List.replicate 4 0) := by rw [It.lay]; simp [lenOf, isData, isNarrow]
      rw [hl]
      exact rlay_10 tn m da dd.length dc ka ks.length kc b v bs w hW htn (by omega)

set_option maxHeartbeats 1000000 in
set_option maxRecDepth 100000 in
theorem rEncode_any (n : Nat) (i : It) (dv kv : Value) (w : World) (h : ItAt (fun q => q < w.heap.size) w n i dv kv) (hT : Tabs w) (hn : n ≤ 99) (hsz : i.size ≤ 100000) (hsm : i.small 1000000) (hc : i.count ≤ 1000) :
    Calls Tryd.prog 14 #[ival i dv kv] w fun e w' => EncAs w w' e i ∧ Only (fun _ => False) w w' := by
  obtain ⟨⟨c0, c1, c2, c3, c4⟩, oA⟩ := boxed w (.int .i64 i.tag) (.int .i64 i.typ) (.int .i64 i.int) dv kv
  have HR := hide (rRight_any n i dv kv _ (h.same oA) (hT.same oA) hn (by omega) (small_le i (show (1000000 : Nat) ≤ 140737488355328 by decide) hsm) hc)
  have HO := hide oA
  have HIT := hide h
  have HSM := hide hsm
  obtain ⟨⟨da, dc, hds⟩, ka, kc, hks⟩ := h.shapes
  subst hds
  subst hks
  unfold ival at HR ⊢
  clear h oA hsm hT
  cases hrb : rightB i with
  | false =>
    rw [hrb] at HR
    have HRB := hide hrb
    clear hrb
    go_enter Tryd.func14, Tryd.ntmps14
    go_wp2_with fail
    refine (unhide HR).mono ?_
    rintro e w2 ⟨rfl, o2⟩
    have HO2 := hide ((unhide HO).trans o2 (fun _ _ e => e))
    clear o2
    go_wp2
    go_ret2
    exact ⟨encAs_no (unhide HRB), unhide HO2⟩
  | true =>
    rw [hrb] at HR
    have HRB := hide hrb
    have hok : okB 12 i = true := by unfold rightB at hrb; simp only [Bool.and_eq_true] at hrb; exact hrb.1.1
    have HOK := hide hok
    clear hrb hok
    go_enter Tryd.func14, Tryd.ntmps14
    go_wp2_with fail
    refine (unhide HR).mono ?_
    rintro e w2 ⟨rfl, o2⟩
    have HO2 := hide ((unhide HO).trans o2 (fun _ _ e => e))
    have hb3 := heap_alloc_new w2 (.cells #[.slice none 0 0] 66)
    have o3 := (Only.refl (fun _ => False) w2).alloc (.cells #[.slice none 0 0] 66)
    have d0 := o3.cell (o2.cell c0 (fun e => e)) (fun e => e)
    have d1 := o3.cell (o2.cell c1 (fun e => e)) (fun e => e)
    have d2 := o3.cell (o2.cell c2 (fun e => e)) (fun e => e)
    have d3 := o3.cell (o2.cell c3 (fun e => e)) (fun e => e)
    have d4 := o3.cell (o2.cell c4 (fun e => e)) (fun e => e)
    have HO3 := hide ((unhide HO2).trans o3 (fun _ _ e => e))
    have hs2 := (unhide HO2).size
    have HS2 := hide hs2
    have hwa : WrAt 66 (w2.alloc (.cells #[.slice none 0 0] 66)) w2.heap.size (.slice none 0 0) [] := ⟨hb3, World.ownsRow_nil _ _ _ _⟩
    have hsep : Sep (fun q => q < w.heap.size) (w2.alloc (.cells #[.slice none 0 0] 66)) w2.heap.size (.slice none 0 0) := fun k hk => ⟨by have := o3.size; omega, by omega, by simp [Value.ownBlock]⟩
    have HL := hide (rlay_any n i _ _ 12 w2.heap.size (.slice none 0 0) [] _ ((unhide HIT).same (unhide HO3)) hwa hsep (unhide HOK) (unhide HSM) hn rfl (by simp; omega))
    unfold ival at HL
    clear o2 o3 c0 c1 c2 c3 c4 hb3 hs2 hwa hsep HR
    go_upto_region 4 with fail
    generalize w2.alloc (.cells #[.slice none 0 0] 66) = w3 at *
    generalize w2.heap.size = b at *
    go_wp2_with fail
    refine (unhide HL).mono ?_
    rintro e w4 ⟨rfl, v', hw⟩
    have hc4 : w4.cell? ⟨b, 0, none⟩ = some v' := cell_of_one hw.now.blk
    obtain ⟨vo, vc, hvs⟩ := ownsRow_shape hw.now.own
    subst hvs
    have HH : Hid (Has w4 (.slice vo ([] ++ i.lay).length vc) ([] ++ i.lay)) := Has.ofOwns hw.now.own
    have HFr : Hid (∀ k, blk (.slice vo ([] ++ i.lay).length vc) = some k → w.heap.size ≤ k) := fun k hk => by
      have hk2 : (Value.slice vo ([] ++ i.lay).length vc).ownBlock = some k := by
        cases vo with
        | none => cases hk
        | some a => exact hk
      rcases hw.fresh k hk2 with e | e
      · simp [Value.ownBlock] at e
      · have := (unhide HO3).size; omega
    have HO4 : Hid (Only (fun _ => False) w w4) := (unhide HO3).trans hw.only (fun q hq e => by
      rcases e with e | e
      · have := unhide HS2; omega
      · simp [Value.ownBlock] at e)
    clear hw d0 d1 d2 d3 d4 HL
    go_wp2
    go_ret2
    exact ⟨encAs_yes (unhide HRB) (by simpa using unhide HH) (unhide HFr), unhide HO4⟩
end Tt
end Go.Proofs.YtedmfjnmclbkpaaDoor
