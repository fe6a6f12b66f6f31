/-
  locksmithhand.in, Id.
-/
import Derived.Test.YtadpmninoghcjaaDoorHoSpec
namespace Go.Proofs.YtadpmninoghcjaaDoor
open Go.RowKit
set_option linter.unusedSimpArgs false
set_option linter.unusedVariables false
namespace Ob

set_option maxRecDepth 100000 in
theorem in_any (xs : List (List UInt8)) (x : List UInt8) (v : Value) (w : World) (h : HasF w v 1 scells xs) :
    Calls Tryd.prog 30 #[v, .string (str x)] w fun e w' => e = .returned (.bool (memB x xs)) ∧ Only (fun _ => False) w w' := by
  obtain ⟨ao, cap, rfl, hlc, hm⟩ := h.shape
  obtain ⟨n, hn⟩ : ∃ n, n = xs.length := ⟨_, rfl⟩
  rw [← hn] at h hlc ⊢
  have HN := hide hn
  have HK := hide h
  have hnz : (n : Int) < 9223372036854775808 := by unfold maxLen at hm; omega
  clear h hn hm
  go_enter Tryd.func30, Tryd.ntmps30
  go_wp2
  go_loopw [5] (fun i wr => ∃ k : Nat, k ≤ n ∧ i = .int .i64 k ∧ Hid (x ∉ xs.take k) ∧ Hid (Only (fun _ => False) w wr)) (fun i _ => n - (intOf i).toNat)
  case atStart => exact ⟨0, Nat.zero_le _, rfl, by show ¬ _; simp, Only.refl _ _⟩
  case round =>
    rename World => wr
    obtain ⟨k, hk, rfl, hno, ho⟩ := hrel
    by_cases hlt : k < n
    case neg =>
      obtain rfl : k = n := by omega
      have HF : Hid (memB x xs = false) := memB_false (fun hx => absurd (by rw [List.take_of_length_le (by have := unhide HN; omega)]; exact hx) (unhide hno))
      go_wp2
      go_ret
      exact ⟨by rw [unhide HF]; first | done | rfl, unhide ho⟩
    case pos =>
    have hku : k < xs.length := by have := unhide HN; omega
    obtain ⟨b, o, rfl, hb, hat⟩ := (unhide HK).at (by omega)
    obtain ⟨y, hy⟩ : ∃ y, y = xs[k] := ⟨_, rfl⟩
    have hy2 : xs[k]? = some y := by rw [List.getElem?_eq_getElem hku, hy]
    have r := hat k y hy2
    have c0 := (unhide ho).cell (range_at r 0 (.string (str y)) rfl) (fun e => e)
    rw [Nat.mul_one, Nat.add_zero] at c0
    have hb2 := str_beq y x
    have HY := hide hy
    have hkz : (k : Int) < (n : Int) := by omega
    have HM := hide (mem_take_succ xs k hku x)
    clear hb hat r hy hy2
    by_cases he : y = x
    · have HT : Hid (memB x xs = true) := memB_true (by rw [← he, unhide HY]; exact List.getElem_mem hku)
      rw [decide_eq_true he] at hb2
      clear he HY HM
      generalize str y = Y at *
      generalize str x = S at *
      go_wp2
      go_ret
      exact ⟨by rw [unhide HT]; first | done | rfl, unhide ho⟩
    · have HX : Hid (x ∉ xs.take (k + 1)) := fun hx => by
        rcases (unhide HM).1 hx with h1 | h1
        · exact unhide hno h1
        · exact he (by rw [unhide HY, h1])
      rw [decide_eq_false he] at hb2
      clear he HY HM
      generalize str y = Y at *
      generalize str x = S at *
      go_wp2
      go_roundw
      case rel => exact ⟨k + 1, by omega, by go_num, HX, ho⟩
      case measure => simp [intOf]; omega

theorem index_cells (t e n : Nat) (vs : List Value) (i : Int) (w : World) (hu : Tryd.prog.underlying t = some (.array n e)) (hs : (sizeOf e).run Tryd.prog w = .ok 1 w) (ha : (isAgg e).run Tryd.prog w = .ok false w) (h0 : 0 ≤ i) (h1 : i < (n : Int)) (v : Value) (hv : vs[i.toNat]? = some v) :
    (Instr.index t (.agg vs.toArray) (.int .i64 i)).run Tryd.prog w = .ok v w := by
  have hin : (0 : Int) ≤ i ∧ i < (n : Int) := ⟨h0, h1⟩
  have hp : (Go.part e vs.toArray i.toNat).run Tryd.prog w = .ok v w := by
    have hv' : vs.toArray[i.toNat]? = some v := by simpa using hv
    unfold Go.part
    simp only [Sem.run_bind, ha, Result.andThen_ok]
    simp [hv']
  unfold Instr.index
  simp only [Sem.run_bind, asIntOf, Sem.run_pure, Result.andThen_ok, run_underlying hu w, if_pos hin, hs, Nat.mul_one]
  exact hp
theorem at0_map {α β : Type} (l : List α) (f : α → β) (d : α) (n : Int) (h1 : n.toNat < l.length) : (l.map f)[n.toNat]? = some (f (at0 l d n)) := by
  unfold at0
  rw [List.getElem?_map, List.getD_eq_getElem?_getD, List.getElem?_eq_getElem h1]
  rfl
theorem Tryd.infoIs : (Tryd.prog.info? 9).map (fun i => (i.zero, i.size, i.bytes)) = some (some (.string ⟨#[]⟩), 1, 16) := by kernel_rfl
theorem Tryd.infoIi : (Tryd.prog.info? 3).map (fun i => (i.zero, i.size, i.bytes)) = some (some (.int .i64 0), 1, 8) := by kernel_rfl
theorem index_str (t n : Nat) (l : List (List UInt8)) (i : Int) (w : World) (hu : Tryd.prog.underlying t = some (.array n 9)) (hn : l.length = n) (h0 : 0 ≤ i) (h1 : i < (n : Int)) :
    (Instr.index t (.agg (l.map fun s => Value.string (str s)).toArray) (.int .i64 i)).run Tryd.prog w = .ok (.string (str (at0 l [] i))) w := by
  obtain ⟨i0, hi0, hz0, hz1, hz2⟩ := info_parts Tryd.infoIs
  exact index_cells t 9 n _ i w hu (by simp [sizeOf, typeInfo, hi0, hz1]) (by unfold isAgg; rw [Sem.run_bind, run_underlying Tryd.underlying9 w]; rfl) h0 h1 _ (at0_map l (fun s => Value.string (str s)) [] i (by omega))
theorem index_num (t n : Nat) (l : List Int) (i : Int) (w : World) (hu : Tryd.prog.underlying t = some (.array n 3)) (hn : l.length = n) (h0 : 0 ≤ i) (h1 : i < (n : Int)) :
    (Instr.index t (.agg (l.map fun s => Value.int .i64 s).toArray) (.int .i64 i)).run Tryd.prog w = .ok (.int .i64 (at0 l 0 i)) w := by
  obtain ⟨i0, hi0, hz0, hz1, hz2⟩ := info_parts Tryd.infoIi
  exact index_cells t 3 n _ i w hu (by simp [sizeOf, typeInfo, hi0, hz1]) (by unfold isAgg; rw [Sem.run_bind, run_underlying Tryd.underlying3 w]; rfl) h0 h1 _ (at0_map l (fun s => Value.int .i64 s) 0 i (by omega))
theorem Tryd.underIds : Tryd.prog.underlying 84 = some (.array 12 9) := by kernel_rfl

set_option maxRecDepth 100000 in
theorem hId_any (n : Int) (w : World) :
    Calls Tryd.prog 28 #[.int .i64 n] w fun e w' => e = .returned (.string (str (hId n))) ∧ w' = w := by
  have HP := hide (pick_any n 12 w (by decide) (by decide))
  have h1 : 0 ≤ n % 12 := Int.emod_nonneg _ (by decide)
  have h2 : n % 12 < 12 := Int.emod_lt_of_pos _ (by decide)
  unfold hId
  have hix : ∀ W, (Instr.index 84 (.agg #[.string ⟨#[49]⟩, .string ⟨#[50]⟩, .string ⟨#[51]⟩, .string ⟨#[52]⟩, .string ⟨#[53]⟩, .string ⟨#[54]⟩, .string ⟨#[55]⟩, .string ⟨#[49]⟩, .string ⟨#[50]⟩, .string ⟨#[51]⟩, .string ⟨#[57, 57]⟩, .string ⟨#[120]⟩]) (.int .i64 (n % 12))).run Tryd.prog W = .ok (.string (str (at0 hIds [] (n % 12)))) W := fun W => index_str 84 12 hIds (n % 12) W Tryd.underIds rfl h1 h2
  generalize str (at0 hIds [] (n % 12)) = S at *
  generalize n % 12 = k at *
  go_enter Tryd.func28, Tryd.ntmps28
  go_wp2_with (refine (unhide HP).mono ?_; rintro e x ⟨rfl, hx⟩; rw [hx]; clear hx x)
  go_ret
  exact ⟨rfl, rfl⟩
end Ob
end Go.Proofs.YtadpmninoghcjaaDoor
