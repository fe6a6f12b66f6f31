/-
  locksmithlaw4's units.
-/
import Derived.Test.YtoffcbopolonoaaWalTexts
namespace Go.Proofs.Ytoffcbopolonoaa
open Go.RowKit
set_option linter.unusedSimpArgs false
set_option linter.unusedVariables false
namespace Wal

theorem take_eq_succ (us vs : List (List UInt8)) (k : Nat) (hu : k < us.length) (hv : k < vs.length) (h : us.take k = vs.take k) (e : us[k] = vs[k]) : us.take (k + 1) = vs.take (k + 1) := by
  rw [List.take_succ_eq_append_getElem hu, List.take_succ_eq_append_getElem hv, h, e]

set_option maxHeartbeats 2000000 in
set_option maxRecDepth 100000 in
theorem units_any {P Q : Nat → Prop} (av bv' : Value) (us vs : List (List UInt8)) (w : World) (ha : HasU P w av us) (hb : HasU Q w bv' vs) : Calls Try.prog 24 #[av, bv'] w fun e w' => e = .returned (.bool (decide (us = vs))) ∧ Only (fun _ => False) w w' := by
  obtain ⟨ao, ac, rfl, hal, ham⟩ := ha.shape
  obtain ⟨bo, bc, rfl, hbl, hbm⟩ := hb.shape
  have HA := hide ha
  have HB := hide hb
  clear ha hb
  by_cases hlen : us.length = vs.length
  · obtain ⟨n, hn⟩ : ∃ n, n = us.length := ⟨_, rfl⟩
    have hn2 : n = vs.length := by rw [hn, hlen]
    rw [← hn] at HA hal ⊢
    rw [← hn2] at HB hbl ⊢
    have HN := hide hn
    have HN2 := hide hn2
    have hmx : (n : Int) < 9223372036854775808 := by unfold maxLen at ham; omega
    clear hlen hn hn2
    go_enter Try.func24, Try.ntmps24
    go_wp2_with fail
    go_loopw [5] (fun i wr => ∃ k : Nat, k ≤ n ∧ i = .int .i64 k ∧ Hid (us.take k = vs.take k) ∧ Only (fun _ => False) w wr) (fun i _ => n - (intOf i).toNat)
    case atStart => exact ⟨0, Nat.zero_le _, rfl, rfl, Only.refl _ _⟩
    case round =>
      obtain ⟨k, hk, rfl, HT, ho⟩ := hrel
      have HO := hide ho
      clear ho
      by_cases hlt : k < n
      · have hku : k < us.length := by have := unhide HN; omega
        have hkv : k < vs.length := by have := unhide HN2; omega
        have hli : (k : Int) < n := by omega
        obtain ⟨ab, aoff, x, hao, hcx, hxh, hxp⟩ := ((unhide HA).only (unhide HO) (fun _ _ _ h => h)).at k hku
        obtain ⟨bb, boff, y, hbo, hcy, hyh, hyp⟩ := ((unhide HB).only (unhide HO) (fun _ _ _ h => h)).at k hkv
        subst hao
        subst hbo
        have HS := hide (take_eq_succ us vs k hku hkv (unhide HT))
        have HNE : Hid (us[k] ≠ vs[k] → us ≠ vs) := fun h e => h (by subst e; rfl)
        have HDX := hide (str_conv (hxh.only ((Only.refl (fun _ => False) wr).drew) (fun _ _ _ h => h)))
        have HDY := hide (str_conv (hyh.only ((Only.refl (fun _ => False) wr).drew) (fun _ _ _ h => h)))
        have HSB := hide (str_beq us[k] vs[k])
        clear hxh hyh hxp hyp
        generalize us[k] = u at *
        generalize vs[k] = v at *
        go_wp2_with fail
        refine wp_region_held_drew (S := (fun w' => w'.cell? ⟨ab, aoff + k, none⟩ = some x ∧ w'.cell? ⟨bb, boff + k, none⟩ = some y ∧ (convert 32 9 x).run Try.prog w' = .ok (.string (str u)) w' ∧ (convert 32 9 y).run Try.prog w' = .ok (.string (str v)) w')) (by kernel_rfl) (⟨hcx, hcy, unhide HDX, unhide HDY⟩) (fun hHeld => ?_)
        refine wpAnyH_take (i := 0) (v := ?v12) rfl (by kernel_rfl) (by kernel_rfl) (by kernel_rfl) (fun _ _ _ h => h) (Or.inl ⟨by rfl, ?hy12⟩) (by assumption) ?rest12
        case hy12 =>
          intro w hSw
          go_simp
          try with_reducible rfl
        try simp only [Act.put, List.setIfInBounds_toArray, List.set_cons_zero, List.set_cons_succ, List.getElem_toArray, List.getElem_cons_succ, List.getElem_cons_zero]
        refine wpAnyH_take (i := 1) (v := ?v13) rfl (by kernel_rfl) (by kernel_rfl) (by kernel_rfl) (fun _ _ _ h => h) (Or.inl ⟨by rfl, ?hy13⟩) (by assumption) ?rest13
        case hy13 =>
          intro w hSw
          go_simp
          try with_reducible rfl
        try simp only [Act.put, List.setIfInBounds_toArray, List.set_cons_zero, List.set_cons_succ, List.getElem_toArray, List.getElem_cons_succ, List.getElem_cons_zero]
        refine wpAnyH_take (i := 2) (v := ?v14) rfl (by kernel_rfl) (by kernel_rfl) (by kernel_rfl) (fun _ _ _ h => h) (Or.inl ⟨by rfl, ?hy14⟩) (by assumption) ?rest14
        case hy14 =>
          intro w hSw
          go_simp
          try with_reducible rfl
        try simp only [Act.put, List.setIfInBounds_toArray, List.set_cons_zero, List.set_cons_succ, List.getElem_toArray, List.getElem_cons_succ, List.getElem_cons_zero]
        refine wpAnyH_take (i := 3) (v := ?v15) rfl (by kernel_rfl) (by kernel_rfl) (by kernel_rfl) (fun _ _ _ h => h) (Or.inl ⟨by rfl, ?hy15⟩) (by assumption) ?rest15
        case hy15 =>
          intro w hSw
          (obtain ⟨q0, q1, q2, q3⟩ := hSw; go_simp; try with_reducible rfl)
        try simp only [Act.put, List.setIfInBounds_toArray, List.set_cons_zero, List.set_cons_succ, List.getElem_toArray, List.getElem_cons_succ, List.getElem_cons_zero]
        refine wpAnyH_take (i := 4) (v := ?v16) rfl (by kernel_rfl) (by kernel_rfl) (by kernel_rfl) (fun _ _ _ h => h) (Or.inl ⟨by rfl, ?hy16⟩) (by assumption) ?rest16
        case hy16 =>
          intro w hSw
          (obtain ⟨q0, q1, q2, q3⟩ := hSw; go_simp; try with_reducible rfl)
        try simp only [Act.put, List.setIfInBounds_toArray, List.set_cons_zero, List.set_cons_succ, List.getElem_toArray, List.getElem_cons_succ, List.getElem_cons_zero]
        refine wpAnyH_take (i := 5) (v := ?v17) rfl (by kernel_rfl) (by kernel_rfl) (by kernel_rfl) (fun _ _ _ h => h) (Or.inl ⟨by rfl, ?hy17⟩) (by assumption) ?rest17
        case hy17 =>
          intro w hSw
          go_simp
          try with_reducible rfl
        try simp only [Act.put, List.setIfInBounds_toArray, List.set_cons_zero, List.set_cons_succ, List.getElem_toArray, List.getElem_cons_succ, List.getElem_cons_zero]
        refine wpAnyH_take (i := 6) (v := ?v18) rfl (by kernel_rfl) (by kernel_rfl) (by kernel_rfl) (fun _ _ _ h => h) (Or.inl ⟨by rfl, ?hy18⟩) (by assumption) ?rest18
        case hy18 =>
          intro w hSw
          go_simp
          try with_reducible rfl
        try simp only [Act.put, List.setIfInBounds_toArray, List.set_cons_zero, List.set_cons_succ, List.getElem_toArray, List.getElem_cons_succ, List.getElem_cons_zero]
        refine wpAnyH_take (i := 7) (v := ?v19) rfl (by kernel_rfl) (by kernel_rfl) (by kernel_rfl) (fun _ _ _ h => h) (Or.inl ⟨by rfl, ?hy19⟩) (by assumption) ?rest19
        case hy19 =>
          intro w hSw
          go_simp
          try with_reducible rfl
        try simp only [Act.put, List.setIfInBounds_toArray, List.set_cons_zero, List.set_cons_succ, List.getElem_toArray, List.getElem_cons_succ, List.getElem_cons_zero]
        refine wpAnyH_take (i := 8) (v := ?v20) rfl (by kernel_rfl) (by kernel_rfl) (by kernel_rfl) (fun _ _ _ h => h) (Or.inl ⟨by rfl, ?hy20⟩) (by assumption) ?rest20
        case hy20 =>
          intro w hSw
          (obtain ⟨q0, q1, q2, q3⟩ := hSw; go_simp; try with_reducible rfl)
        try simp only [Act.put, List.setIfInBounds_toArray, List.set_cons_zero, List.set_cons_succ, List.getElem_toArray, List.getElem_cons_succ, List.getElem_cons_zero]
        refine wpAnyH_take (i := 9) (v := ?v21) rfl (by kernel_rfl) (by kernel_rfl) (by kernel_rfl) (fun _ _ _ h => h) (Or.inl ⟨by rfl, ?hy21⟩) (by assumption) ?rest21
        case hy21 =>
          intro w hSw
          (obtain ⟨q0, q1, q2, q3⟩ := hSw; go_simp; try with_reducible rfl)
        try simp only [Act.put, List.setIfInBounds_toArray, List.set_cons_zero, List.set_cons_succ, List.getElem_toArray, List.getElem_cons_succ, List.getElem_cons_zero]
        refine wpAnyH_take (i := 10) (v := ?v22) rfl (by kernel_rfl) (by kernel_rfl) (by kernel_rfl) (fun _ _ _ h => h) (Or.inl ⟨by rfl, ?hy22⟩) (by assumption) ?rest22
        case hy22 =>
          intro w hSw
          go_simp
          try with_reducible rfl
        try simp only [Act.put, List.setIfInBounds_toArray, List.set_cons_zero, List.set_cons_succ, List.getElem_toArray, List.getElem_cons_succ, List.getElem_cons_zero]
        refine wpAnyH_done (by kernel_rfl) ?_ _
        clear hHeld
        have HO6 := hide ((unhide HO).drew)
        rw [unhide HSB]
        by_cases heq : u = v
        · rw [decide_eq_true heq, Bool.not_true]
          have HS' := hide (unhide HS heq)
          clear heq
          go_wp2
          go_roundw
          case rel => exact ⟨k + 1, by omega, by go_num, HS', unhide HO6⟩
          case measure => simp [intOf]; omega
        · rw [decide_eq_false heq, Bool.not_false]
          have HE := hide (unhide HNE heq)
          clear heq
          go_wp2
          go_ret
          rw [decide_eq_false (unhide HE)]
          exact ⟨rfl, unhide HO6⟩
      · obtain rfl : n = k := by omega
        have hli : ¬ (n : Int) < n := by omega
        have HE : Hid (us = vs) := by
          have := unhide HT
          rw [List.take_of_length_le (by have := unhide HN; omega), List.take_of_length_le (by have := unhide HN2; omega)] at this
          exact this
        go_wp2
        go_ret
        rw [decide_eq_true (unhide HE)]
        exact ⟨rfl, unhide HO⟩
  · have hli : ¬ (us.length : Int) = vs.length := by omega
    have HE : Hid (¬ us = vs) := fun e => hlen (by rw [e])
    clear hlen
    go_enter Try.func24, Try.ntmps24
    go_wp2
    go_ret
    rw [decide_eq_false (unhide HE)]
    exact ⟨rfl, Only.refl _ _⟩

end Wal
end Go.Proofs.Ytoffcbopolonoaa
