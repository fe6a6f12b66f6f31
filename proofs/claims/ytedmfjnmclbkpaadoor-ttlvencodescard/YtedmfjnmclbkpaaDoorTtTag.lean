/-
  The program's small questions of an item: its tag, its type, what stands in it.
-/
import Derived.Test.YtedmfjnmclbkpaaDoorTtPlain
import Derived.Deep.DeepCutAuto
namespace Go.Proofs.YtedmfjnmclbkpaaDoor
open Go.RowKit
set_option linter.unusedSimpArgs false
set_option linter.unusedVariables false
namespace Tt

/-- an item as a value, by its parts -/
abbrev iv (t y n : Int) (da : Option Addr) (dl dc : Nat) (ka : Option Addr) (kl kc : Nat) : Value := .agg #[.int .i64 t, .int .i64 y, .int .i64 n, .slice da dl dc, .slice ka kl kc]

/-- the box that a parameter is put into -/
theorem boxed (w : World) (x y z u v : Value) : ((w.alloc (.cells #[x, y, z, u, v] 25)).cell? ⟨w.heap.size, 0, none⟩ = some x ∧ (w.alloc (.cells #[x, y, z, u, v] 25)).cell? ⟨w.heap.size, 1, none⟩ = some y ∧ (w.alloc (.cells #[x, y, z, u, v] 25)).cell? ⟨w.heap.size, 2, none⟩ = some z ∧ (w.alloc (.cells #[x, y, z, u, v] 25)).cell? ⟨w.heap.size, 3, none⟩ = some u ∧ (w.alloc (.cells #[x, y, z, u, v] 25)).cell? ⟨w.heap.size, 4, none⟩ = some v) ∧ Only (fun _ => False) w (w.alloc (.cells #[x, y, z, u, v] 25)) :=
  ⟨cells_of5 (heap_alloc_new w _), (Only.refl _ _).alloc _⟩

set_option maxHeartbeats 1000000 in
theorem isTag_any (t : Int) (w : World) : Calls Tryd.prog 77 #[.int .i64 t] w fun e w' => e = .returned (.bool (tagB t)) ∧ w' = w := by
  by_cases h1 : 4325376 ≤ t
  · by_cases h2 : t ≤ 4390911
    · skip
      have e : tagB t = true := by unfold tagB; simp [h1, h2]
      have E := hide e
      clear e
      go_enter Tryd.func77, Tryd.ntmps77
      go_wp2
      go_ret
      rw [unhide E]
      exact ⟨rfl, rfl⟩
    · by_cases h3 : 5505024 ≤ t
      · by_cases h4 : t ≤ 5570559
        · skip
          have e : tagB t = true := by unfold tagB; simp [h3, h4]
          have E := hide e
          clear e
          go_enter Tryd.func77, Tryd.ntmps77
          go_wp2
          go_ret
          rw [unhide E]
          exact ⟨rfl, rfl⟩
        · skip
          have e : tagB t = false := by unfold tagB; simp [h2, h4]
          have E := hide e
          clear e
          go_enter Tryd.func77, Tryd.ntmps77
          go_wp2
          go_ret
          rw [unhide E]
          exact ⟨rfl, rfl⟩
      · skip
        have e : tagB t = false := by unfold tagB; simp [h2, h3]
        have E := hide e
        clear e
        go_enter Tryd.func77, Tryd.ntmps77
        go_wp2
        go_ret
        rw [unhide E]
        exact ⟨rfl, rfl⟩
  · have h3 : ¬ 5505024 ≤ t := by omega
    have e : tagB t = false := by unfold tagB; simp [h1, h3]
    have E := hide e
    clear e
    go_enter Tryd.func77, Tryd.ntmps77
    go_wp2
    go_ret
    rw [unhide E]
    exact ⟨rfl, rfl⟩

set_option maxHeartbeats 1000000 in
theorem isType_any (y : Int) (w : World) : Calls Tryd.prog 78 #[.int .i64 y] w fun e w' => e = .returned (.bool (typB y)) ∧ w' = w := by
  by_cases h1 : 1 ≤ y
  · by_cases h2 : y ≤ 10
    · skip
      have e : typB y = true := by unfold typB; simp [h1, h2]
      have E := hide e
      clear e
      go_enter Tryd.func78, Tryd.ntmps78
      go_wp2
      go_ret
      rw [unhide E]
      exact ⟨rfl, rfl⟩
    · skip
      have e : typB y = false := by unfold typB; simp [h1, h2]
      have E := hide e
      clear e
      go_enter Tryd.func78, Tryd.ntmps78
      go_wp2
      go_ret
      rw [unhide E]
      exact ⟨rfl, rfl⟩
  · skip
    have e : typB y = false := by unfold typB; simp [h1]
    have E := hide e
    clear e
    go_enter Tryd.func78, Tryd.ntmps78
    go_wp2
    go_ret
    rw [unhide E]
    exact ⟨rfl, rfl⟩

set_option maxHeartbeats 1000000 in
theorem onlyKids_any (t y n : Int) (da : Option Addr) (dl dc : Nat) (ka : Option Addr) (kl kc : Nat) (w : World) : Calls Tryd.prog 89 #[iv t y n da dl dc ka kl kc] w fun e w' => e = .returned (.bool (decide (n = 0) && decide (dl = 0))) ∧ Only (fun _ => False) w w' := by
  obtain ⟨⟨c0, c1, c2, c3, c4⟩, oA⟩ := boxed w (.int .i64 t) (.int .i64 y) (.int .i64 n) (.slice da dl dc) (.slice ka kl kc)
  have HO := hide oA
  clear oA
  unfold iv
  obtain ⟨A, hA⟩ : ∃ A, (decide (n = 0) && decide (dl = 0)) = A := ⟨_, rfl⟩
  rw [hA]
  have HA := hide hA
  clear hA
  by_cases hi : n = 0
  case neg =>
    have ei : (n == 0) = false := by rw [beq_eq_false_iff_ne]; exact hi
    have E : Hid (A = false) := by show _ = _; rw [← unhide HA]; simp [hi]
    clear hi
    go_enter Tryd.func89, Tryd.ntmps89
    go_wp2
    go_ret
    rw [unhide E]
    exact ⟨rfl, unhide HO⟩
  case pos =>
    subst hi
    by_cases hd : dl = 0
    case neg =>
      have ed : ((dl : Int) == 0) = false := by rw [beq_eq_false_iff_ne]; omega
      have E : Hid (A = false) := by show _ = _; rw [← unhide HA]; simp [hd]
      clear hd
      go_enter Tryd.func89, Tryd.ntmps89
      go_wp2
      go_ret
      rw [unhide E]
      exact ⟨rfl, unhide HO⟩
    case pos =>
      subst hd
      have E : Hid (A = true) := by show _ = _; rw [← unhide HA]; simp
      go_enter Tryd.func89, Tryd.ntmps89
      go_wp2
      go_ret
      rw [unhide E]
      exact ⟨rfl, unhide HO⟩

set_option maxHeartbeats 1000000 in
theorem onlyInt_any (t y n : Int) (da : Option Addr) (dl dc : Nat) (ka : Option Addr) (kl kc : Nat) (w : World) : Calls Tryd.prog 91 #[iv t y n da dl dc ka kl kc] w fun e w' => e = .returned (.bool (decide (dl = 0) && decide (kl = 0))) ∧ Only (fun _ => False) w w' := by
  obtain ⟨⟨c0, c1, c2, c3, c4⟩, oA⟩ := boxed w (.int .i64 t) (.int .i64 y) (.int .i64 n) (.slice da dl dc) (.slice ka kl kc)
  have HO := hide oA
  clear oA
  unfold iv
  obtain ⟨A, hA⟩ : ∃ A, (decide (dl = 0) && decide (kl = 0)) = A := ⟨_, rfl⟩
  rw [hA]
  have HA := hide hA
  clear hA
  by_cases hd : dl = 0
  case neg =>
    have ed : ((dl : Int) == 0) = false := by rw [beq_eq_false_iff_ne]; omega
    have E : Hid (A = false) := by show _ = _; rw [← unhide HA]; simp [hd]
    clear hd
    go_enter Tryd.func91, Tryd.ntmps91
    go_wp2
    go_ret
    rw [unhide E]
    exact ⟨rfl, unhide HO⟩
  case pos =>
    subst hd
    by_cases hk : kl = 0
    case neg =>
      have ek : ((kl : Int) == 0) = false := by rw [beq_eq_false_iff_ne]; omega
      have E : Hid (A = false) := by show _ = _; rw [← unhide HA]; simp [hk]
      clear hk
      go_enter Tryd.func91, Tryd.ntmps91
      go_wp2
      go_ret
      rw [unhide E]
      exact ⟨rfl, unhide HO⟩
    case pos =>
      subst hk
      have E : Hid (A = true) := by show _ = _; rw [← unhide HA]; simp
      go_enter Tryd.func91, Tryd.ntmps91
      go_wp2
      go_ret
      rw [unhide E]
      exact ⟨rfl, unhide HO⟩

set_option maxHeartbeats 1000000 in
theorem onlyData_any (t y n : Int) (da : Option Addr) (dl dc : Nat) (ka : Option Addr) (kl kc : Nat) (w : World) : Calls Tryd.prog 93 #[iv t y n da dl dc ka kl kc] w fun e w' => e = .returned (.bool (decide (n = 0) && decide (kl = 0))) ∧ Only (fun _ => False) w w' := by
  obtain ⟨⟨c0, c1, c2, c3, c4⟩, oA⟩ := boxed w (.int .i64 t) (.int .i64 y) (.int .i64 n) (.slice da dl dc) (.slice ka kl kc)
  have HO := hide oA
  clear oA
  unfold iv
  obtain ⟨A, hA⟩ : ∃ A, (decide (n = 0) && decide (kl = 0)) = A := ⟨_, rfl⟩
  rw [hA]
  have HA := hide hA
  clear hA
  by_cases hi : n = 0
  case neg =>
    have ei : (n == 0) = false := by rw [beq_eq_false_iff_ne]; exact hi
    have E : Hid (A = false) := by show _ = _; rw [← unhide HA]; simp [hi]
    clear hi
    go_enter Tryd.func93, Tryd.ntmps93
    go_wp2
    go_ret
    rw [unhide E]
    exact ⟨rfl, unhide HO⟩
  case pos =>
    subst hi
    by_cases hk : kl = 0
    case neg =>
      have ek : ((kl : Int) == 0) = false := by rw [beq_eq_false_iff_ne]; omega
      have E : Hid (A = false) := by show _ = _; rw [← unhide HA]; simp [hk]
      clear hk
      go_enter Tryd.func93, Tryd.ntmps93
      go_wp2
      go_ret
      rw [unhide E]
      exact ⟨rfl, unhide HO⟩
    case pos =>
      subst hk
      have E : Hid (A = true) := by show _ = _; rw [← unhide HA]; simp
      go_enter Tryd.func93, Tryd.ntmps93
      go_wp2
      go_ret
      rw [unhide E]
      exact ⟨rfl, unhide HO⟩

set_option maxHeartbeats 1000000 in
theorem isSigned_any (t y n : Int) (da : Option Addr) (dl dc : Nat) (ka : Option Addr) (kl kc : Nat) (w : World) : Calls Tryd.prog 90 #[iv t y n da dl dc ka kl kc] w fun e w' => e = .returned (.bool ((decide (dl = 0) && decide (kl = 0)) && (decide (-2147483648 ≤ n) && decide (n ≤ 2147483647)))) ∧ Only (fun _ => False) w w' := by
  obtain ⟨⟨c0, c1, c2, c3, c4⟩, oA⟩ := boxed w (.int .i64 t) (.int .i64 y) (.int .i64 n) (.slice da dl dc) (.slice ka kl kc)
  have HC := hide (fun W => onlyInt_any t y n da dl dc ka kl kc W)
  have HO := hide oA
  clear oA
  unfold iv at HC ⊢
  generalize (decide (dl = 0) && decide (kl = 0)) = B at *
  obtain ⟨A, hA⟩ : ∃ A, (B && (decide (-2147483648 ≤ n) && decide (n ≤ 2147483647))) = A := ⟨_, rfl⟩
  rw [hA]
  have HA := hide hA
  clear hA
  go_enter Tryd.func90, Tryd.ntmps90
  go_wp2_with fail
  refine (unhide HC _).mono ?_
  rintro e w2 ⟨rfl, o2⟩
  have HO2 := hide ((unhide HO).trans o2 (fun _ _ e => e))
  have d0 := o2.cell c0 (fun e => e)
  have d1 := o2.cell c1 (fun e => e)
  have d2 := o2.cell c2 (fun e => e)
  have d3 := o2.cell c3 (fun e => e)
  have d4 := o2.cell c4 (fun e => e)
  clear c0 c1 c2 c3 c4 o2 HC HO
  cases B with
  | false =>
    have E : Hid (A = false) := by show _ = _; rw [← unhide HA]; rfl
    go_wp2
    go_ret
    rw [unhide E]
    exact ⟨rfl, unhide HO2⟩
  | true =>
    skip
    by_cases h : -2147483648 ≤ n ∧ n ≤ 2147483647
    case pos =>
      have E : Hid (A = true) := by show _ = _; rw [← unhide HA]; simp [h.1, h.2]
      have hw : IntKind.i32.wrap n = n := by rw [IntKind.wrap_i32]; omega
      have hw6 : wrap64 n = n := by unfold wrap64; omega
      clear h
      go_wp2
      go_ret
      rw [unhide E]
      exact ⟨rfl, unhide HO2⟩
    case neg =>
      have E : Hid (A = false) := by show _ = _; rw [← unhide HA]; rw [Bool.true_and, Bool.and_eq_false_iff, decide_eq_false_iff_not, decide_eq_false_iff_not]; omega
      obtain ⟨m, hw⟩ : ∃ m, IntKind.i32.wrap n = m := ⟨_, rfl⟩
      have hwm := hw
      rw [IntKind.wrap_i32] at hwm
      have hw6 : wrap64 m = m := by unfold wrap64; omega
      have hb : (n == m) = false := by rw [beq_eq_false_iff_ne]; omega
      clear h hwm
      go_wp2
      go_ret
      rw [unhide E]
      exact ⟨rfl, unhide HO2⟩

set_option maxHeartbeats 1000000 in
theorem isUnsigned_any (t y n : Int) (da : Option Addr) (dl dc : Nat) (ka : Option Addr) (kl kc : Nat) (w : World) : Calls Tryd.prog 92 #[iv t y n da dl dc ka kl kc] w fun e w' => e = .returned (.bool ((decide (dl = 0) && decide (kl = 0)) && (decide (0 ≤ n) && decide (n ≤ 4294967295)))) ∧ Only (fun _ => False) w w' := by
  obtain ⟨⟨c0, c1, c2, c3, c4⟩, oA⟩ := boxed w (.int .i64 t) (.int .i64 y) (.int .i64 n) (.slice da dl dc) (.slice ka kl kc)
  have HC := hide (fun W => onlyInt_any t y n da dl dc ka kl kc W)
  have HO := hide oA
  clear oA
  unfold iv at HC ⊢
  generalize (decide (dl = 0) && decide (kl = 0)) = B at *
  obtain ⟨A, hA⟩ : ∃ A, (B && (decide (0 ≤ n) && decide (n ≤ 4294967295))) = A := ⟨_, rfl⟩
  rw [hA]
  have HA := hide hA
  clear hA
  go_enter Tryd.func92, Tryd.ntmps92
  go_wp2_with fail
  refine (unhide HC _).mono ?_
  rintro e w2 ⟨rfl, o2⟩
  have HO2 := hide ((unhide HO).trans o2 (fun _ _ e => e))
  have d0 := o2.cell c0 (fun e => e)
  have d1 := o2.cell c1 (fun e => e)
  have d2 := o2.cell c2 (fun e => e)
  have d3 := o2.cell c3 (fun e => e)
  have d4 := o2.cell c4 (fun e => e)
  clear c0 c1 c2 c3 c4 o2 HC HO
  cases B with
  | false =>
    have E : Hid (A = false) := by show _ = _; rw [← unhide HA]; rfl
    go_wp2
    go_ret
    rw [unhide E]
    exact ⟨rfl, unhide HO2⟩
  | true =>
    skip
    by_cases h : 0 ≤ n ∧ n ≤ 4294967295
    case pos =>
      have E : Hid (A = true) := by show _ = _; rw [← unhide HA]; simp [h.1, h.2]
      have hw : IntKind.u32.wrap n = n := by rw [IntKind.wrap_u32]; omega
      have hw6 : wrap64 n = n := by unfold wrap64; omega
      clear h
      go_wp2
      go_ret
      rw [unhide E]
      exact ⟨rfl, unhide HO2⟩
    case neg =>
      have E : Hid (A = false) := by show _ = _; rw [← unhide HA]; rw [Bool.true_and, Bool.and_eq_false_iff, decide_eq_false_iff_not, decide_eq_false_iff_not]; omega
      obtain ⟨m, hw⟩ : ∃ m, IntKind.u32.wrap n = m := ⟨_, rfl⟩
      have hwm := hw
      rw [IntKind.wrap_u32] at hwm
      have hw6 : wrap64 m = m := by unfold wrap64; omega
      have hb : (n == m) = false := by rw [beq_eq_false_iff_ne]; omega
      clear h hwm
      go_wp2
      go_ret
      rw [unhide E]
      exact ⟨rfl, unhide HO2⟩

set_option maxHeartbeats 1000000 in
theorem isBoolean_any (t y n : Int) (da : Option Addr) (dl dc : Nat) (ka : Option Addr) (kl kc : Nat) (w : World) : Calls Tryd.prog 83 #[iv t y n da dl dc ka kl kc] w fun e w' => e = .returned (.bool ((decide (dl = 0) && decide (kl = 0)) && (decide (n = 0) || decide (n = 1)))) ∧ Only (fun _ => False) w w' := by
  obtain ⟨⟨c0, c1, c2, c3, c4⟩, oA⟩ := boxed w (.int .i64 t) (.int .i64 y) (.int .i64 n) (.slice da dl dc) (.slice ka kl kc)
  have HC := hide (fun W => onlyInt_any t y n da dl dc ka kl kc W)
  have HO := hide oA
  clear oA
  unfold iv at HC ⊢
  generalize (decide (dl = 0) && decide (kl = 0)) = B at *
  obtain ⟨A, hA⟩ : ∃ A, (B && (decide (n = 0) || decide (n = 1))) = A := ⟨_, rfl⟩
  rw [hA]
  have HA := hide hA
  clear hA
  go_enter Tryd.func83, Tryd.ntmps83
  go_wp2_with fail
  refine (unhide HC _).mono ?_
  rintro e w2 ⟨rfl, o2⟩
  have HO2 := hide ((unhide HO).trans o2 (fun _ _ e => e))
  have d0 := o2.cell c0 (fun e => e)
  have d1 := o2.cell c1 (fun e => e)
  have d2 := o2.cell c2 (fun e => e)
  have d3 := o2.cell c3 (fun e => e)
  have d4 := o2.cell c4 (fun e => e)
  clear c0 c1 c2 c3 c4 o2 HC HO
  cases B with
  | false =>
    have E : Hid (A = false) := by show _ = _; rw [← unhide HA]; rfl
    go_wp2
    go_ret
    rw [unhide E]
    exact ⟨rfl, unhide HO2⟩
  | true =>
    skip
    by_cases h : n = 0
    case pos =>
      have E : Hid (A = true) := by show _ = _; rw [← unhide HA]; simp [h]
      subst h
      go_wp2
      go_ret
      rw [unhide E]
      exact ⟨rfl, unhide HO2⟩
    case neg =>
      by_cases h1 : n = 1
      case pos =>
        have E : Hid (A = true) := by show _ = _; rw [← unhide HA]; simp [h1]
        subst h1
        go_wp2
        go_ret
        rw [unhide E]
        exact ⟨rfl, unhide HO2⟩
      case neg =>
        have E : Hid (A = false) := by show _ = _; rw [← unhide HA]; simp [h, h1]
        have hw : (n == 0) = false := by rw [beq_eq_false_iff_ne]; exact h
        have hw1 : (n == 1) = false := by rw [beq_eq_false_iff_ne]; exact h1
        clear h h1
        go_wp2
        go_ret
        rw [unhide E]
        exact ⟨rfl, unhide HO2⟩

set_option maxHeartbeats 1000000 in
theorem isBlocks_any (t y n : Int) (da : Option Addr) (dl dc : Nat) (ka : Option Addr) (kl kc : Nat) (w : World) : Calls Tryd.prog 82 #[iv t y n da dl dc ka kl kc] w fun e w' => e = .returned (.bool ((decide (n = 0) && decide (kl = 0)) && (decide (0 < dl) && decide (dl % 8 = 0)))) ∧ Only (fun _ => False) w w' := by
  obtain ⟨⟨c0, c1, c2, c3, c4⟩, oA⟩ := boxed w (.int .i64 t) (.int .i64 y) (.int .i64 n) (.slice da dl dc) (.slice ka kl kc)
  have HC := hide (fun W => onlyData_any t y n da dl dc ka kl kc W)
  have HO := hide oA
  clear oA
  unfold iv at HC ⊢
  generalize (decide (n = 0) && decide (kl = 0)) = B at *
  obtain ⟨A, hA⟩ : ∃ A, (B && (decide (0 < dl) && decide (dl % 8 = 0))) = A := ⟨_, rfl⟩
  rw [hA]
  have HA := hide hA
  clear hA
  go_enter Tryd.func82, Tryd.ntmps82
  go_wp2_with fail
  refine (unhide HC _).mono ?_
  rintro e w2 ⟨rfl, o2⟩
  have HO2 := hide ((unhide HO).trans o2 (fun _ _ e => e))
  have d0 := o2.cell c0 (fun e => e)
  have d1 := o2.cell c1 (fun e => e)
  have d2 := o2.cell c2 (fun e => e)
  have d3 := o2.cell c3 (fun e => e)
  have d4 := o2.cell c4 (fun e => e)
  clear c0 c1 c2 c3 c4 o2 HC HO
  cases B with
  | false =>
    have E : Hid (A = false) := by show _ = _; rw [← unhide HA]; rfl
    go_wp2
    go_ret
    rw [unhide E]
    exact ⟨rfl, unhide HO2⟩
  | true =>
    skip
    by_cases h : 0 < dl
    case pos =>
      by_cases h1 : dl % 8 = 0
      case pos =>
        have E : Hid (A = true) := by show _ = _; rw [← unhide HA]; simp [h, h1]
        have hz : (0 : Int) < (dl : Int) := by omega
        have hm : (dl : Int) % 8 = 0 := by omega
        clear h h1
        go_wp2
        go_ret
        rw [unhide E]
        exact ⟨rfl, unhide HO2⟩
      case neg =>
        have E : Hid (A = false) := by show _ = _; rw [← unhide HA]; simp [h, h1]
        have hz : (0 : Int) < (dl : Int) := by omega
        have hm : ((dl : Int) % 8 == 0) = false := by rw [beq_eq_false_iff_ne]; omega
        clear h h1
        go_wp2
        go_ret
        rw [unhide E]
        exact ⟨rfl, unhide HO2⟩
    case neg =>
      have E : Hid (A = false) := by show _ = _; rw [← unhide HA]; simp [h]
      have hz : ¬ (0 : Int) < (dl : Int) := by omega
      clear h
      go_wp2
      go_ret
      rw [unhide E]
      exact ⟨rfl, unhide HO2⟩
end Tt
end Go.Proofs.YtedmfjnmclbkpaaDoor
