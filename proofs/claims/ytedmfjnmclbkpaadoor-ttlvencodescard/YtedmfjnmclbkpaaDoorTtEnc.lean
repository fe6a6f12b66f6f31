/-
  An item's bytes: the program's lay at any item, Encode.
-/
import Derived.Test.YtedmfjnmclbkpaaDoorTtLay
namespace Go.Proofs.YtedmfjnmclbkpaaDoor
open Go.RowKit
set_option linter.unusedSimpArgs false
set_option linter.unusedVariables false
namespace Tt

/-- lay, at items at most m deep -/
def LayC (Q : Nat → Prop) (m : Nat) : Prop := ∀ (i : It) (dv kv : Value) (k b : Nat) (v : Value) (bs : List UInt8) (w : World), ItAt Q w m i dv kv → okB k i = true → Sep Q w b v → WrAt 91 w b v bs → bs.length + i.size ≤ 4294967296 → i.size ≤ 2147483648 → i.small 140737488355328 →
    Calls Tryd.prog 28 #[ival i dv kv, .pointer (some ⟨b, 0, none⟩)] w fun e w' => e = .returned (.tuple #[]) ∧ ∃ v', Wrote 91 w b v w' v' (bs ++ i.lay)

theorem layAll_take {ks : List It} {j : Nat} (h : j < ks.length) : It.layAll (ks.take (j + 1)) = It.layAll (ks.take j) ++ ks[j].lay := by
  rw [List.take_succ_eq_append_getElem h, layAll_append]
  simp [It.layAll]

theorem Sep.ne {Q : Nat → Prop} {w : World} {b : Nat} {v : Value} (hS : Sep Q w b v) {k : Nat} (hq : Q k) : ¬ (k = b ∨ v.ownBlock = some k) := fun e => by
  obtain ⟨_, h2, h3⟩ := hS k hq
  rcases e with e | e
  · exact h2 e
  · exact h3 e
theorem Sep.kids {Q : Nat → Prop} {T : TypeId} {w w' : World} {b : Nat} {v v' : Value} {cs : List UInt8} (hS : Sep Q w b v) (hw : Wrote T w b v w' v' cs) {m : Nat} {kv : Value} {ks : List It} (hk : KidsAt Q w (ItAt Q w m) kv ks) : KidsAt Q w' (ItAt Q w' m) kv ks :=
  hk.imp (fun a x hs hq hcl => by
    obtain ⟨ab, ao, az⟩ := a
    simp only at hs hq
    subst hs
    exact hw.only.cell hcl (hS.ne hq)) hw.only.size (fun _ _ h => h) (fun k _ dv kv hi => hS.it hw hi)

set_option maxHeartbeats 2000000 in
set_option maxRecDepth 100000 in
theorem layKids_any {Q : Nat → Prop} {m : Nat} (ih : LayC Q m) (t y n : Int) (da : Option Addr) (dl dc : Nat) (ka : Option Addr) (ks : List It) (kc q b : Nat) (v : Value) (bs : List UInt8) (w : World) (hk : KidsAt Q w (ItAt Q w m) (.slice ka ks.length kc) ks) (hok : ∀ k ∈ ks, okB q k = true) (hS : Sep Q w b v) (hW : WrAt 91 w b v bs)
    (hl : bs.length + It.sizeAll ks ≤ 4294967296) (hz : It.sizeAll ks ≤ 2147483648) (hsm : ∀ k ∈ ks, k.small 140737488355328) :
    Calls Tryd.prog 54 #[iv t y n da dl dc ka ks.length kc, .pointer (some ⟨b, 0, none⟩)] w fun e w' => e = .returned (.tuple #[]) ∧ ∃ v', Wrote 91 w b v w' v' (bs ++ It.layAll ks) := by
  obtain ⟨⟨c0, c1, c2, c3, c4⟩, oA⟩ := boxed w (.int .i64 t) (.int .i64 y) (.int .i64 n) (.slice da dl dc) (.slice ka ks.length kc)
  have HLD := hide (hW.laid (.cells #[.int .i64 t, .int .i64 y, .int .i64 n, .slice da dl dc, .slice ka ks.length kc] 25))
  have HS := hide hS
  have HK := hide hk
  have HIH := hide ih
  have HOK := hide hok
  have HSM := hide hsm
  obtain ⟨_, _, _, hkc, hkm⟩ := hk.shape
  obtain ⟨kl, hkl⟩ : ∃ kl, ks.length = kl := ⟨_, rfl⟩
  have HKL := hide hkl
  rw [hkl] at HK HLD c0 c1 c2 c3 c4 oA hkc ⊢
  have hklx : (kl : Int) < 9223372036854775808 := by unfold maxLen at hkm; omega
  unfold iv
  have HC4 : Hid (∀ W v1 cs, Wrote 91 (w.alloc (.cells #[.int .i64 t, .int .i64 y, .int .i64 n, .slice da dl dc, .slice ka kl kc] 25)) b v W v1 cs → W.cell? ⟨w.heap.size, 4, none⟩ = some (.slice ka kl kc)) := fun W v1 cs hw => wrote_box hW (Nat.le_refl _) hw c4
  clear hk ih hok hsm hS hW hkl oA c0 c1 c2 c3
  go_enter Tryd.func54, Tryd.ntmps54
  go_wp2
  generalize w.alloc (.cells #[.int .i64 t, .int .i64 y, .int .i64 n, .slice da dl dc, .slice ka kl kc] 25) = w1 at *
  clear c4
  go_loopw [9] (fun j wr => ∃ k : Nat, k ≤ kl ∧ j = .int .i64 k ∧ ∃ v', Wrote 91 w1 b v wr v' (bs ++ It.layAll (ks.take k))) (fun j _ => kl - (intOf j).toNat)
  case atStart => exact ⟨0, Nat.zero_le _, rfl, v, by have := (unhide HLD).now.wrote; simpa [It.layAll] using this⟩
  case round =>
    obtain ⟨k, hk, rfl, v', hw⟩ := hrel
    have HWr := hide hw
    clear hw
    by_cases hlt : k < kl
    case neg =>
      obtain rfl : kl = k := by omega
      have htk : ks.take kl = ks := List.take_of_length_le (by have := unhide HKL; omega)
      rw [htk] at HWr
      go_wp2
      go_end0
      exact ⟨rfl, v', (unhide HLD).trans (unhide HWr)⟩
    case pos =>
    have hku : k < ks.length := by have := unhide HKL; omega
    have hlt' : (k : Int) < kl := by omega
    have HT := hide ((unhide HLD).trans (unhide HWr))
    obtain ⟨bb, off, dv', kv', hao, hqb, e0, e1, e2, e3, e4, hit⟩ := (unhide HK).at k hku
    subst hao
    have f0 := (unhide HT).only.cell e0 ((unhide HS).ne hqb)
    have f1 := (unhide HT).only.cell e1 ((unhide HS).ne hqb)
    have f2 := (unhide HT).only.cell e2 ((unhide HS).ne hqb)
    have f3 := (unhide HT).only.cell e3 ((unhide HS).ne hqb)
    have f5 := (unhide HT).only.cell e4 ((unhide HS).ne hqb)
    have hst := layAll_take hku
    have hsz := sizeAll_take hku
    have hle := sizeAll_le ks (k + 1)
    obtain ⟨⟨va, vc, hvs⟩, xa, xc, hxs⟩ := hit.shapes
    have hokk := unhide HOK _ (List.getElem_mem hku)
    have hsmk := unhide HSM _ (List.getElem_mem hku)
    obtain ⟨kid, hkid⟩ : ∃ kid, kid = ks[k] := ⟨_, rfl⟩
    rw [← hkid] at f0 f1 f2 hvs hxs hst hsz hit hokk hsmk
    have HST := hide hst
    subst hvs
    subst hxs
    have hlb := (unhide HWr).now.laid (.cells #[.int .i64 kid.tag, .int .i64 kid.typ, .int .i64 kid.int, .slice va kid.data.length vc, .slice xa kid.kids.length xc] 25)
    have HWr2 := hide ((unhide HWr).trans hlb)
    have HIK := hide (unhide HIH kid _ _ q b v' _ _ ((unhide HS).it ((unhide HT).trans hlb) hit) hokk ((unhide HS).wrote ((unhide HT).trans hlb)) hlb.now (by rw [List.length_append, layAll_length]; omega) (by omega) hsmk)
    unfold ival at HIK
    clear hkid e0 e1 e2 e3 e4 hit hlb hst hsz hokk hsmk
    go_wp2_with fail
    refine (unhide HIK).mono ?_
    rintro e w4 ⟨rfl, v4, hw4⟩
    have HW4 := hide ((unhide HWr2).trans hw4)
    clear hw4 f0 f1 f2 f3 f5 HIK HWr HWr2 HT
    go_wp2
    go_roundw
    case rel => exact ⟨k + 1, by omega, by go_num, v4, by rw [unhide HST, ← List.append_assoc]; exact unhide HW4⟩
    case measure => simp [intOf]; omega

theorem lay_any {Q : Nat → Prop} : ∀ m, m ≤ 98 → LayC Q m := by
  intro m
  induction m with
  | zero => intro _ i dv kv k b v bs w h; exact h.elim
  | succ m ih =>
    intro hm i dv kv k b v bs w h hok hS hW hl hz hsm
    have hbx := boxed w (.int .i64 i.tag) (.int .i64 i.typ) (.int .i64 i.int) dv kv
    have hL := length_any (psize_any m) i w.heap.size 0 1 _ ⟨dv, kv, hbx.1.1, hbx.1.2.1, hbx.1.2.2.1, hbx.1.2.2.2.1, hbx.1.2.2.2.2, h.same hbx.2⟩ (by omega) hz hsm
    clear hbx
    obtain ⟨hx, hxq, hk⟩ := h
    obtain ⟨da, dc, hds, _⟩ := hx.shape
    obtain ⟨ka, kc, hks, _⟩ := hk.shape
    obtain ⟨t, y, n, d, ks⟩ := i
    simp only [It.tag, It.typ, It.int, It.data, It.kids] at hx hxq hk hds hks hL
    subst hds
    subst hks
    cases k with
    | zero => cases hok
    | succ k =>
    rw [okB, fitsB, Bool.and_eq_true, Bool.and_eq_true, Bool.and_eq_true] at hok
    obtain ⟨⟨⟨ht, hy⟩, hbd⟩, hkk⟩ := hok
    simp only [It.kids] at hkk
    rw [List.all_eq_true] at hkk
    have ht' : 0 ≤ t ∧ t < 16777216 := by unfold tagB at ht; simp at ht; omega
    obtain ⟨tn, rfl⟩ : ∃ tn : Nat, t = tn := ⟨t.toNat, by omega⟩
    have hy' : 1 ≤ y ∧ y ≤ 10 := by unfold typB at hy; simpa using hy
    have hc : y = 1 ∨ y = 2 ∨ y = 3 ∨ y = 4 ∨ y = 5 ∨ y = 6 ∨ y = 7 ∨ y = 8 ∨ y = 9 ∨ y = 10 := by omega
    have hse := size_eq (.mk (tn : Int) y n d ks)
    simp only [It.typ, It.data, It.kids] at hse
    have hpg := pad8_ge (lenOf y d.length (It.sizeAll ks))
    have hsmk := (smallAll_iff _ ks).1 hsm.2.2.2.2
    have hsep : ∀ W v1 cs, Wrote 91 w b v W v1 cs → Has W (.slice da d.length dc) d := fun W v1 cs hw => hx.only hw.only (fun hne j hj => hS.ne (hxq hne j hj))
    rw [It.lay]
    clear hy hy'
    rcases hc with rfl | rfl | rfl | rfl | rfl | rfl | rfl | rfl | rfl | rfl
    · rw [lenOf, if_pos rfl] at hL hse hpg
      rw [if_pos rfl, lenOf, if_pos rfl]
      have hr : Calls Tryd.prog 28 #[iv tn 1 n da d.length dc ka ks.length kc, .pointer (some ⟨b, 0, none⟩)] w _ := lay_1 tn n da d.length dc ka ks.length kc (It.sizeAll ks) b v bs (It.layAll ks) w hW (by omega) (by omega) (by rw [layAll_length]; omega) (by omega) hL (fun W v1 hw => layKids_any (ih (by omega)) tn 1 n da d.length dc ka ks kc k b v1 _ W (hS.kids hw hk) hkk (hS.wrote hw) hw.now (by rw [List.length_append, headL_length]; omega) (by omega) hsmk)
      rw [show pad8 (It.sizeAll ks) - It.sizeAll ks = 0 by have := sizeAll_mod ks; unfold pad8; omega, List.replicate_zero] at hr
      simp only [List.append_assoc, List.nil_append, List.append_nil] at hr ⊢
      exact hr
    · rw [lenOf, if_neg (by decide), if_neg (by decide), if_pos (by decide)] at hL hse hpg
      rw [if_neg (by decide), if_neg (by decide), if_pos (by decide), lenOf, if_neg (by decide), if_neg (by decide), if_pos (by decide)]
      have hr : Calls Tryd.prog 28 #[iv tn 2 n da d.length dc ka ks.length kc, .pointer (some ⟨b, 0, none⟩)] w _ := lay_2 tn n da d.length dc ka ks.length kc (4) b v bs (be 4 (toU64 n)) w hW (by omega) (by omega) (by rw [be_length]; omega) (by omega) hL (fun W v1 hw => layNarrow_any tn 2 n da d.length dc ka ks.length kc hw.now (by rw [List.length_append, headL_length]; omega))
      rw [show pad8 4 - 4 = 4 from rfl] at hr
      simp only [List.append_assoc, List.nil_append, List.append_nil] at hr ⊢
      exact hr
    · rw [lenOf, if_neg (by decide), if_neg (by decide), if_neg (by decide)] at hL hse hpg
      rw [if_neg (by decide), if_neg (by decide), if_neg (by decide), lenOf, if_neg (by decide), if_neg (by decide), if_neg (by decide)]
      have hr : Calls Tryd.prog 28 #[iv tn 3 n da d.length dc ka ks.length kc, .pointer (some ⟨b, 0, none⟩)] w _ := lay_3 tn n da d.length dc ka ks.length kc (8) b v bs (be 8 (toU64 n)) w hW (by omega) (by omega) (by rw [be_length]; omega) (by omega) hL (fun W v1 hw => layWide_any tn 3 n da d.length dc ka ks.length kc hw.now (by rw [List.length_append, headL_length]; omega))
      rw [show pad8 8 - 8 = 0 from rfl, List.replicate_zero] at hr
      simp only [List.append_assoc, List.nil_append, List.append_nil] at hr ⊢
      exact hr
    · rw [lenOf, if_neg (by decide), if_pos (by decide)] at hL hse hpg
      rw [if_neg (by decide), if_pos (by decide), lenOf, if_neg (by decide), if_pos (by decide)]
      have hr : Calls Tryd.prog 28 #[iv tn 4 n da d.length dc ka ks.length kc, .pointer (some ⟨b, 0, none⟩)] w _ := lay_4 tn n da d.length dc ka ks.length kc (d.length) b v bs (d) w hW (by omega) (by omega) (by omega) (by omega) hL (fun W v1 hw => layData_any tn 4 n da d dc ka ks.length kc hw.now (hsep W v1 _ hw) (by rw [List.length_append, headL_length]; omega))
      simp only [List.append_assoc, List.nil_append, List.append_nil] at hr ⊢
      exact hr
    · rw [lenOf, if_neg (by decide), if_neg (by decide), if_pos (by decide)] at hL hse hpg
      rw [if_neg (by decide), if_neg (by decide), if_pos (by decide), lenOf, if_neg (by decide), if_neg (by decide), if_pos (by decide)]
      have hr : Calls Tryd.prog 28 #[iv tn 5 n da d.length dc ka ks.length kc, .pointer (some ⟨b, 0, none⟩)] w _ := lay_5 tn n da d.length dc ka ks.length kc (4) b v bs (be 4 (toU64 n)) w hW (by omega) (by omega) (by rw [be_length]; omega) (by omega) hL (fun W v1 hw => layNarrow_any tn 5 n da d.length dc ka ks.length kc hw.now (by rw [List.length_append, headL_length]; omega))
      rw [show pad8 4 - 4 = 4 from rfl] at hr
      simp only [List.append_assoc, List.nil_append, List.append_nil] at hr ⊢
      exact hr
    · rw [lenOf, if_neg (by decide), if_neg (by decide), if_neg (by decide)] at hL hse hpg
      rw [if_neg (by decide), if_neg (by decide), if_neg (by decide), lenOf, if_neg (by decide), if_neg (by decide), if_neg (by decide)]
      have hr : Calls Tryd.prog 28 #[iv tn 6 n da d.length dc ka ks.length kc, .pointer (some ⟨b, 0, none⟩)] w _ := lay_6 tn n da d.length dc ka ks.length kc (8) b v bs (be 8 (toU64 n)) w hW (by omega) (by omega) (by rw [be_length]; omega) (by omega) hL (fun W v1 hw => layWide_any tn 6 n da d.length dc ka ks.length kc hw.now (by rw [List.length_append, headL_length]; omega))
      rw [show pad8 8 - 8 = 0 from rfl, List.replicate_zero] at hr
      simp only [List.append_assoc, List.nil_append, List.append_nil] at hr ⊢
      exact hr
    · rw [lenOf, if_neg (by decide), if_pos (by decide)] at hL hse hpg
      rw [if_neg (by decide), if_pos (by decide), lenOf, if_neg (by decide), if_pos (by decide)]
      have hr : Calls Tryd.prog 28 #[iv tn 7 n da d.length dc ka ks.length kc, .pointer (some ⟨b, 0, none⟩)] w _ := lay_7 tn n da d.length dc ka ks.length kc (d.length) b v bs (d) w hW (by omega) (by omega) (by omega) (by omega) hL (fun W v1 hw => layData_any tn 7 n da d dc ka ks.length kc hw.now (hsep W v1 _ hw) (by rw [List.length_append, headL_length]; omega))
      simp only [List.append_assoc, List.nil_append, List.append_nil] at hr ⊢
      exact hr
    · rw [lenOf, if_neg (by decide), if_pos (by decide)] at hL hse hpg
      rw [if_neg (by decide), if_pos (by decide), lenOf, if_neg (by decide), if_pos (by decide)]
      have hr : Calls Tryd.prog 28 #[iv tn 8 n da d.length dc ka ks.length kc, .pointer (some ⟨b, 0, none⟩)] w _ := lay_8 tn n da d.length dc ka ks.length kc (d.length) b v bs (d) w hW (by omega) (by omega) (by omega) (by omega) hL (fun W v1 hw => layData_any tn 8 n da d dc ka ks.length kc hw.now (hsep W v1 _ hw) (by rw [List.length_append, headL_length]; omega))
      simp only [List.append_assoc, List.nil_append, List.append_nil] at hr ⊢
      exact hr
    · rw [lenOf, if_neg (by decide), if_neg (by decide), if_neg (by decide)] at hL hse hpg
      rw [if_neg (by decide), if_neg (by decide), if_neg (by decide), lenOf, if_neg (by decide), if_neg (by decide), if_neg (by decide)]
      have hr : Calls Tryd.prog 28 #[iv tn 9 n da d.length dc ka ks.length kc, .pointer (some ⟨b, 0, none⟩)] w _ := lay_9 tn n da d.length dc ka ks.length kc (8) b v bs (be 8 (toU64 n)) w hW (by omega) (by omega) (by rw [be_length]; omega) (by omega) hL (fun W v1 hw => layWide_any tn 9 n da d.length dc ka ks.length kc hw.now (by rw [List.length_append, headL_length]; omega))
      rw [show pad8 8 - 8 = 0 from rfl, List.replicate_zero] at hr
      simp only [List.append_assoc, List.nil_append, List.append_nil] at hr ⊢
      exact hr
    · rw [lenOf, if_neg (by decide), if_neg (by decide), if_pos (by decide)] at hL hse hpg
      rw [if_neg (by decide), if_neg (by decide), if_pos (by decide), lenOf, if_neg (by decide), if_neg (by decide), if_pos (by decide)]
      have hr : Calls Tryd.prog 28 #[iv tn 10 n da d.length dc ka ks.length kc, .pointer (some ⟨b, 0, none⟩)] w _ := lay_10 tn n da d.length dc ka ks.length kc (4) b v bs (be 4 (toU64 n)) w hW (by omega) (by omega) (by rw [be_length]; omega) (by omega) hL (fun W v1 hw => layNarrow_any tn 10 n da d.length dc ka ks.length kc hw.now (by rw [List.length_append, headL_length]; omega))
      rw [show pad8 4 - 4 = 4 from rfl] at hr
      simp only [List.append_assoc, List.nil_append, List.append_nil] at hr ⊢
      exact hr

/-- what Encode answers -/
def EncAs (w w' : World) (e : Ending) (i : It) : Prop := if rightB i = true then (∃ v, e = .returned (.tuple #[v, .int .i64 0]) ∧ Has w' v i.lay ∧ ∀ k, blk v = some k → w.heap.size ≤ k) else e = .returned (.tuple #[.slice none 0 0, .int .i64 1])

theorem encAs_no {w w' : World} {i : It} (h : rightB i = false) : EncAs w w' (.returned (.tuple #[.slice none 0 0, .int .i64 1])) i := by unfold EncAs; rw [h, if_neg (by decide)]
theorem encAs_yes {w w' : World} {i : It} {v : Value} (h : rightB i = true) (h1 : Has w' v i.lay) (h2 : ∀ k, blk v = some k → w.heap.size ≤ k) : EncAs w w' (.returned (.tuple #[v, .int .i64 0])) i := by unfold EncAs; rw [h, if_pos rfl]; exact ⟨v, rfl, h1, h2⟩

set_option maxHeartbeats 1000000 in
theorem Encode_any {Q : Nat → Prop} (n : Nat) (i : It) (dv kv : Value) (w : World) (h : ItAt Q w n i dv kv) (hT : Tabs w) (hn : n ≤ 98) (hsz : i.size ≤ 2147483648) (hsm : i.small 140737488355328) :
    Calls Tryd.prog 10 #[ival i dv kv] w fun e w' => EncAs w w' e i ∧ Only (fun _ => False) w w' := by
  obtain ⟨⟨c0, c1, c2, c3, c4⟩, oA⟩ := boxed w (.int .i64 i.tag) (.int .i64 i.typ) (.int .i64 i.int) dv kv
  have HR := hide (Right_any n i dv kv _ (h.same oA) (hT.same oA) (by omega) hsz hsm)
  have HO := hide oA
  have HIT := hide h
  have HSM := hide hsm
  obtain ⟨⟨da, dc, hds⟩, ka, kc, hks⟩ := h.shapes
  subst hds
  subst hks
  unfold ival at HR ⊢
  clear h oA hsm
  cases hrb : rightB i with
  | false =>
    rw [hrb] at HR
    have HRB := hide hrb
    clear hrb
    go_enter Tryd.func10, Tryd.ntmps10
    go_wp2_with fail
    refine (unhide HR).mono ?_
    rintro e w2 ⟨rfl, o2⟩
    have HO2 := hide ((unhide HO).trans o2 (fun _ _ e => e))
    clear o2 c0 c1 c2 c3 c4
    go_wp2
    go_ret2
    exact ⟨encAs_no (unhide HRB), unhide HO2⟩
  | true =>
    rw [hrb] at HR
    have HRB := hide hrb
    have hok : okB 12 i = true := by unfold rightB at hrb; simp only [Bool.and_eq_true] at hrb; exact hrb.1.1
    have hz8 : i.size ≤ 8192 := by unfold rightB at hrb; simp only [Bool.and_eq_true, decide_eq_true_eq] at hrb; exact hrb.2
    have HOK := hide hok
    clear hrb hok
    go_enter Tryd.func10, Tryd.ntmps10
    go_wp2_with fail
    refine (unhide HR).mono ?_
    rintro e w2 ⟨rfl, o2⟩
    have HO2 := hide ((unhide HO).trans o2 (fun _ _ e => e))
    have d0 := o2.cell c0 (fun e => e)
    have d1 := o2.cell c1 (fun e => e)
    have d2 := o2.cell c2 (fun e => e)
    have d3 := o2.cell c3 (fun e => e)
    have d4 := o2.cell c4 (fun e => e)
    have HNW := hide (newWriter_any w2)
    clear o2 c0 c1 c2 c3 c4
    go_wp2_with fail
    refine (unhide HNW).mono ?_
    rintro e w3 ⟨rfl, hW, o3⟩
    have HO3 := hide ((unhide HO2).trans o3 (fun _ _ e => e))
    have hs := (unhide HO2).size
    have e0 := o3.cell d0 (fun e => e)
    have e1 := o3.cell d1 (fun e => e)
    have e2 := o3.cell d2 (fun e => e)
    have e3 := o3.cell d3 (fun e => e)
    have e4 := o3.cell d4 (fun e => e)
    have hs3 := o3.size
    have HLay := hide (lay_any n hn i _ _ 12 w2.heap.size (.slice none 0 0) [] w3 (ItAt.mono (R := fun k => Q k ∧ k < w.heap.size) (fun k hk hq => ⟨hq, hk⟩) n (unhide HIT) |>.same (unhide HO3)) (unhide HOK) (fun k hk => ⟨by have := hk.2; omega, by have := hk.2; omega, by intro e; cases e⟩) hW (by simp; omega) hsz (unhide HSM))
    unfold ival at HLay
    rw [List.nil_append] at HLay
    obtain ⟨bw, hbw⟩ : ∃ bw, w2.heap.size = bw := ⟨_, rfl⟩
    rw [hbw] at HLay ⊢
    have hbw2 : w.heap.size ≤ bw := by omega
    clear hW o3 d0 d1 d2 d3 d4 HNW HR hbw
    go_wp2_with fail
    refine (unhide HLay).mono ?_
    rintro e w4 ⟨rfl, v4, hw4⟩
    have HO4 := hide ((unhide HO3).trans hw4.only (T := fun k => k = bw ∨ (Value.slice none 0 0).ownBlock = some k) (fun k hk e => by rcases e with e | e; omega; cases e))
    have HB := hide (bytes_any bw v4 _ w4 hw4.now (by rw [lay_length]; omega))
    clear hw4 e0 e1 e2 e3 e4 HLay
    go_wp2_with fail
    refine (unhide HB).mono ?_
    rintro e w5 ⟨u, rfl, hu⟩
    have HU := hide hu
    clear hu HB
    go_wp2
    go_ret2
    obtain ⟨u1, u2, u3⟩ := unhide HU
    refine ⟨encAs_yes (unhide HRB) (Has.ofOwns u2) (fun k hk => ?_), (unhide HO4).trans u3 (fun _ _ e => e)⟩
    have := (unhide HO4).size
    rw [u1] at hk
    simp [blk] at hk
    omega
end Tt
end Go.Proofs.YtedmfjnmclbkpaaDoor
