/-
  How long an item is: the program's Size, by the item's address.
-/
import Derived.Test.YtedmfjnmclbkpaaDoorTtTag
namespace Go.Proofs.YtedmfjnmclbkpaaDoor
open Go.RowKit
set_option linter.unusedSimpArgs false
set_option linter.unusedVariables false
namespace Tt

/-- an item's five cells, from there on, and what they lead to -/
def IP (Q : Nat → Prop) (w : World) (n b o : Nat) (i : It) : Prop := ∃ dv kv, w.cell? ⟨b, o, none⟩ = some (.int .i64 i.tag) ∧ w.cell? ⟨b, o + 1, none⟩ = some (.int .i64 i.typ) ∧ w.cell? ⟨b, o + 2, none⟩ = some (.int .i64 i.int) ∧ w.cell? ⟨b, o + 3, none⟩ = some dv ∧ w.cell? ⟨b, o + 4, none⟩ = some kv ∧ ItAt Q w n i dv kv

theorem filled_any (n : Nat) (w : World) (h : n ≤ 140737488355328) : Calls Tryd.prog 59 #[.int .i64 n] w fun e w' => e = .returned (.int .i64 (pad8 n)) ∧ w' = w := by
  have hpd : ((n : Int) + 8 - 1) / 8 * 8 = ((pad8 n : Nat) : Int) := by unfold pad8; omega
  have HP := hide hpd
  clear hpd
  go_enter Tryd.func59, Tryd.ntmps59
  go_wp2
  go_ret
  rw [← unhide HP]
  exact ⟨rfl, rfl⟩

/-- Size at items at most n deep -/
def PSz (Q : Nat → Prop) (n : Nat) : Prop := ∀ (i : It) (b o depth : Nat) (w : World), IP Q w n b o i → depth + n ≤ 100 → i.size ≤ 2147483648 → i.small 140737488355328 →
    Calls Tryd.prog 34 #[.pointer (some ⟨b, o, none⟩), .int .i64 depth] w fun e w' => e = .returned (.int .i64 i.size) ∧ w' = w

set_option maxHeartbeats 2000000 in
set_option maxRecDepth 100000 in
theorem kidsSize_any {Q : Nat → Prop} {n : Nat} (ih : PSz Q n) (i : It) (b o depth : Nat) (w : World) (h : IP Q w (n + 1) b o i) (hd : depth + n ≤ 100) (hd1 : depth ≤ 100) (hsz : 8 + It.sizeAll i.kids ≤ 2147483648) (hsm : i.small 140737488355328) :
    Calls Tryd.prog 85 #[.pointer (some ⟨b, o, none⟩), .int .i64 depth] w fun e w' => e = .returned (.int .i64 (It.sizeAll i.kids)) ∧ w' = w := by
  obtain ⟨t, y, nn, d, ks⟩ := i
  obtain ⟨dv, kv, c0, c1, c2, c3, c4, h1, h2, h3⟩ := h
  simp only [It.tag, It.typ, It.int, It.data, It.kids] at c0 c1 c2 c3 c4 h1 h2 h3 hsz ⊢
  have HSM : Hid (∀ k ∈ ks, k.small 140737488355328) := (smallAll_iff _ ks).1 hsm.2.2.2.2
  clear hsm
  obtain ⟨ka, kc, hks, hkl, hkm⟩ := h3.shape
  subst hks
  have HK := hide h3
  have HIH := hide ih
  have hd2 : ¬ (100 : Int) < (depth : Int) := by omega
  clear h1 h2 h3 ih c0 c1 c2 c3
  obtain ⟨kl, hkl0⟩ : ∃ kl, ks.length = kl := ⟨_, rfl⟩
  rw [hkl0] at c4 HK hkl
  have HKL := hide hkl0
  have hklx : (kl : Int) < 9223372036854775808 := by unfold maxLen at hkm; omega
  clear hkl0
  go_enter Tryd.func85, Tryd.ntmps85
  go_wp2
  go_loopw [5, 14] (fun a j wr => wr = w ∧ ∃ k : Nat, k ≤ kl ∧ a = .int .i64 ((It.sizeAll (ks.take k) : Nat) : Int) ∧ j = .int .i64 k) (fun _ j _ => kl - (intOf j).toNat)
  case atStart => exact ⟨rfl, 0, Nat.zero_le _, rfl, rfl⟩
  case round =>
    obtain ⟨rfl, k, hk, rfl, rfl⟩ := hrel
    by_cases hlt : k < kl
    case neg =>
      obtain rfl : kl = k := by omega
      have htk : ks.take kl = ks := List.take_of_length_le (by have := unhide HKL; omega)
      rw [htk]
      go_wp2
      go_ret
      exact ⟨rfl, rfl⟩
    case pos =>
    have hku : k < ks.length := by have := unhide HKL; omega
    have hlt' : (k : Int) < kl := by omega
    obtain ⟨bb, off, dv', kv', hao, _, e0, e1, e2, e3, e4, hit⟩ := (unhide HK).at k hku
    subst hao
    have hst := sizeAll_take hku
    have hle := sizeAll_le ks (k + 1)
    have hkz := size_ge ks[k]
    have HC := hide (unhide HIH ks[k] bb (off + k * 5) depth wr ⟨dv', kv', e0, e1, e2, e3, e4, hit⟩ hd (by omega) (unhide HSM _ (List.getElem_mem hku)))
    have HST := hide hst
    obtain ⟨kid, hkid⟩ : ∃ kid, kid = ks[k] := ⟨_, rfl⟩
    rw [← hkid] at HC HST hst hkz
    obtain ⟨sa, hsa⟩ : ∃ sa, sa = It.sizeAll (ks.take k) := ⟨_, rfl⟩
    rw [← hsa] at HST hst ⊢
    have hb1 : sa + kid.size ≤ 2147483640 := by omega
    have hb2 : ¬ (2147483648 : Int) ≤ (sa : Int) := by omega
    clear e0 e1 e2 e3 e4 hit hkid hsa hle hst
    go_wp2_with fail
    refine (unhide HC).mono ?_
    rintro e w2 ⟨rfl, rfl⟩
    generalize kid.size = kz at *
    go_wp2_with fail
    refine ⟨⟨by first | rfl | trivial, k + 1, by omega, ?_, by go_num⟩, by simp [intOf]; omega⟩
    rw [unhide HST]
    go_num

set_option maxHeartbeats 2000000 in
set_option maxRecDepth 100000 in
theorem length_any {Q : Nat → Prop} {n : Nat} (ih : PSz Q n) (i : It) (b o depth : Nat) (w : World) (h : IP Q w (n + 1) b o i) (hd : depth + n ≤ 99) (hsz : i.size ≤ 2147483648) (hsm : i.small 140737488355328) :
    Calls Tryd.prog 50 #[.pointer (some ⟨b, o, none⟩), .int .i64 depth] w fun e w' => e = .returned (.int .i64 (lenOf i.typ i.data.length (It.sizeAll i.kids))) ∧ w' = w := by
  have HKS := hide (fun (h1 : 8 + It.sizeAll i.kids ≤ 2147483648) => kidsSize_any ih i b o (depth + 1) w h (by omega) (by omega) h1 hsm)
  obtain ⟨dv, kv, c0, c1, c2, c3, c4, hi⟩ := h
  obtain ⟨⟨da, dc, hds⟩, ka, kc, hks⟩ := hi.shapes
  obtain ⟨t, y, nn, d, ks⟩ := i
  simp only [It.tag, It.typ, It.int, It.data, It.kids] at c0 c1 c2 c3 c4 hds hks HKS ⊢
  rw [It.size] at hsz
  subst hds
  subst hks
  have hdl : d.length ≤ 140737488355328 := hsm.2.2.2.1
  rw [show (((depth + 1 : Nat)) : Int) = (depth : Int) + 1 by omega] at HKS
  clear hsm hi ih
  by_cases h1 : y = 1
  case pos =>
    subst h1
    rw [if_pos rfl] at hsz
    have HC := hide (unhide HKS hsz)
    have hL : lenOf 1 d.length (It.sizeAll ks) = It.sizeAll ks := by unfold lenOf; rw [if_pos rfl]
    rw [hL]
    generalize It.sizeAll ks = sz at *
    clear HKS hL
    go_enter Tryd.func50, Tryd.ntmps50
    go_wp2_with fail
    refine (unhide HC).mono ?_
    rintro e w2 ⟨rfl, rfl⟩
    go_wp2
    go_ret
    exact ⟨rfl, rfl⟩
  case neg =>
  have e1 : (y == 1) = false := by rw [beq_eq_false_iff_ne]; exact h1
  by_cases h2 : isData y
  case pos =>
    have hL : lenOf y d.length (It.sizeAll ks) = d.length := by unfold lenOf; rw [if_neg h1, if_pos h2]
    rw [hL]
    clear hL HKS hsz h1
    rcases h2 with rfl | rfl | rfl
    · clear e1
      go_enter Tryd.func50, Tryd.ntmps50
      go_wp2
      go_ret
      exact ⟨rfl, rfl⟩
    · clear e1
      go_enter Tryd.func50, Tryd.ntmps50
      go_wp2
      go_ret
      exact ⟨rfl, rfl⟩
    · clear e1
      go_enter Tryd.func50, Tryd.ntmps50
      go_wp2
      go_ret
      exact ⟨rfl, rfl⟩
  case neg =>
  have e4 : (y == 4) = false := by rw [beq_eq_false_iff_ne]; exact fun e => h2 (Or.inl e)
  have e7 : (y == 7) = false := by rw [beq_eq_false_iff_ne]; exact fun e => h2 (Or.inr (Or.inl e))
  have e8 : (y == 8) = false := by rw [beq_eq_false_iff_ne]; exact fun e => h2 (Or.inr (Or.inr e))
  by_cases h3 : isNarrow y
  case pos =>
    have hL : lenOf y d.length (It.sizeAll ks) = 4 := by unfold lenOf; rw [if_neg h1, if_neg h2, if_pos h3]
    rw [hL]
    clear hL HKS hsz h1 h2
    rcases h3 with rfl | rfl | rfl
    · clear e1 e4 e7 e8
      go_enter Tryd.func50, Tryd.ntmps50
      go_wp2
      go_ret
      exact ⟨rfl, rfl⟩
    · clear e1 e4 e7 e8
      go_enter Tryd.func50, Tryd.ntmps50
      go_wp2
      go_ret
      exact ⟨rfl, rfl⟩
    · clear e1 e4 e7 e8
      go_enter Tryd.func50, Tryd.ntmps50
      go_wp2
      go_ret
      exact ⟨rfl, rfl⟩
  case neg =>
  have f2 : (y == 2) = false := by rw [beq_eq_false_iff_ne]; exact fun e => h3 (Or.inl e)
  have f5 : (y == 5) = false := by rw [beq_eq_false_iff_ne]; exact fun e => h3 (Or.inr (Or.inl e))
  have f10 : (y == 10) = false := by rw [beq_eq_false_iff_ne]; exact fun e => h3 (Or.inr (Or.inr e))
  have hL : lenOf y d.length (It.sizeAll ks) = 8 := by unfold lenOf; rw [if_neg h1, if_neg h2, if_neg h3]
  rw [hL]
  clear hL HKS hsz h1 h2 h3
  go_enter Tryd.func50, Tryd.ntmps50
  go_wp2
  go_ret
  exact ⟨rfl, rfl⟩

theorem size_eq (i : It) : i.size = 8 + pad8 (lenOf i.typ i.data.length (It.sizeAll i.kids)) := by
  obtain ⟨t, y, nn, d, ks⟩ := i
  rw [It.size]
  simp only [It.typ, It.data, It.kids]
  unfold lenOf
  have := sizeAll_mod ks
  by_cases h1 : y = 1
  · rw [if_pos h1, if_pos h1]; unfold pad8; omega
  · rw [if_neg h1, if_neg h1]
    by_cases h2 : isData y
    · rw [if_pos (show y = 4 ∨ y = 7 ∨ y = 8 from h2), if_pos h2]
    · rw [if_neg (show ¬ (y = 4 ∨ y = 7 ∨ y = 8) from h2), if_neg h2]
      split <;> rfl

set_option maxHeartbeats 2000000 in
theorem psize_any {Q : Nat → Prop} : ∀ n, PSz Q n := by
  intro n
  induction n with
  | zero => intro i b o depth w h; obtain ⟨_, _, _, _, _, _, _, h⟩ := h; exact h.elim
  | succ n ih =>
    intro i b o depth w h hd hsz hsm
    have HC := hide (length_any ih i b o depth w h (by omega) hsz hsm)
    have hse := size_eq i
    have hL : lenOf i.typ i.data.length (It.sizeAll i.kids) ≤ 2147483648 := by have := pad8_ge (lenOf i.typ i.data.length (It.sizeAll i.kids)); omega
    have HF := hide (filled_any (lenOf i.typ i.data.length (It.sizeAll i.kids)) w (by omega))
    rw [hse] at hsz ⊢
    generalize lenOf i.typ i.data.length (It.sizeAll i.kids) = L at *
    obtain ⟨p, hp⟩ : ∃ p, pad8 L = p := ⟨_, rfl⟩
    rw [hp] at HF hsz ⊢
    clear h hsm hse hp ih
    have hmn : ((8 : Int) + (p : Int)) ≤ 2147483648 := by omega
    go_enter Tryd.func34, Tryd.ntmps34
    go_wp2_with fail
    refine (unhide HC).mono ?_
    rintro e w2 ⟨rfl, rfl⟩
    go_wp2_with fail
    refine (unhide HF).mono ?_
    rintro e w2 ⟨rfl, rfl⟩
    go_wp2
    go_ret
    refine ⟨?_, rfl⟩
    rw [Int.min_eq_left hmn, show ((8 + p : Nat) : Int) = (8 : Int) + (p : Int) by omega]
    rfl

/-- the whole -/
theorem Size_any {Q : Nat → Prop} (n : Nat) (i : It) (dv kv : Value) (w : World) (h : ItAt Q w n i dv kv) (hn : n ≤ 99) (hsz : i.size ≤ 2147483648) (hsm : i.small 140737488355328) :
    Calls Tryd.prog 17 #[ival i dv kv] w fun e w' => e = .returned (.int .i64 i.size) ∧ Only (fun _ => False) w w' := by
  obtain ⟨⟨c0, c1, c2, c3, c4⟩, oA⟩ := boxed w (.int .i64 i.tag) (.int .i64 i.typ) (.int .i64 i.int) dv kv
  have HC := hide (psize_any n i w.heap.size 0 1 _ ⟨dv, kv, c0, c1, c2, c3, c4, h.same oA⟩ (by omega) hsz hsm)
  have HO := hide oA
  obtain ⟨⟨da, dc, hds⟩, ka, kc, hks⟩ := h.shapes
  subst hds
  subst hks
  unfold ival
  clear h oA
  go_enter Tryd.func17, Tryd.ntmps17
  go_wp2_with fail
  refine (unhide HC).mono ?_
  rintro e w2 ⟨rfl, rfl⟩
  go_wp2
  go_ret
  exact ⟨rfl, unhide HO⟩
end Tt
end Go.Proofs.YtedmfjnmclbkpaaDoor
