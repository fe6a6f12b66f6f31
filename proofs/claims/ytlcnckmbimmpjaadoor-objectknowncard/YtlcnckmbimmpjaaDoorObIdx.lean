/-
  object: lists whose parts are right, none there twice.
-/
import Derived.Test.YtlcnckmbimmpjaaDoorObR1
namespace Go.Proofs.YtlcnckmbimmpjaaDoor
open Go.RowKit
set_option linter.unusedSimpArgs false
set_option linter.unusedVariables false
namespace Ob

theorem range_at {w : World} {b o : Nat} {cs : List Value} (h : w.rangeAt b o cs) (i : Nat) (v : Value) (hv : cs[i]? = some v) : w.cell? ⟨b, o + i, none⟩ = some v := h i v hv

theorem mem_take_succ {α : Type} (xs : List α) (k : Nat) (hk : k < xs.length) (x : α) : x ∈ xs.take (k + 1) ↔ x ∈ xs.take k ∨ x = xs[k] := by
  rw [List.take_succ_eq_append_getElem hk, List.mem_append, List.mem_singleton]

def memB {α : Type} [DecidableEq α] (x : α) (xs : List α) : Bool := decide (x ∈ xs)
theorem memB_true {α : Type} [DecidableEq α] {x : α} {xs : List α} (h : x ∈ xs) : memB x xs = true := decide_eq_true h
theorem memB_false {α : Type} [DecidableEq α] {x : α} {xs : List α} (h : ¬ x ∈ xs) : memB x xs = false := decide_eq_false h

theorem eachB_step {α : Type} [DecidableEq α] (is : α → Bool) (xs : List α) (k : Nat) (hk : k < xs.length) : eachB is (xs.take k) (xs.drop k) = (is xs[k] && !memB xs[k] (xs.take k) && eachB is (xs.take (k + 1)) (xs.drop (k + 1))) := by
  rw [List.drop_eq_getElem_cons hk, eachB, ← List.take_succ_eq_append_getElem hk]
  congr 2
  unfold memB
  simp

set_option maxRecDepth 100000 in
theorem index_s (xs : List (List UInt8)) (x : List UInt8) (v : Value) (w : World) (h : HasF w v 1 scells xs) :
    Calls Tryd.prog 106 #[v, .string (str x)] w fun e w' => ∃ i : Int, e = .returned (.int .i64 i) ∧ (0 ≤ i ↔ x ∈ xs) ∧ Only (fun _ => False) w w' := by
  obtain ⟨ao, cap, rfl, hlc, hm⟩ := h.shape
  obtain ⟨n, hn⟩ : ∃ n, n = xs.length := ⟨_, rfl⟩
  rw [← hn] at h hlc ⊢
  have HN := hide hn
  have HK := hide h
  have hnz : (n : Int) < 9223372036854775808 := by unfold maxLen at hm; omega
  have HMX := hide hm
  clear h hn hm
  go_enter Tryd.func106, Tryd.ntmps106
  go_wp2
  go_loopw [8] (fun i wr => ∃ k : Nat, k ≤ n ∧ i = .int .i64 k ∧ Hid (x ∉ xs.take k) ∧ Hid (Only (fun _ => False) w wr)) (fun i _ => n - (intOf i).toNat)
  case atStart => exact ⟨0, Nat.zero_le _, rfl, by show ¬ _; simp, Only.refl _ _⟩
  case round =>
    rename World => wr
    obtain ⟨k, hk, rfl, hno, ho⟩ := hrel
    by_cases hlt : k < n
    case neg =>
      obtain rfl : k = n := by omega
      go_wp2
      go_ret
      refine ⟨-1, rfl, ⟨fun h => by omega, fun h => ?_⟩, unhide ho⟩
      exact absurd (by rw [List.take_of_length_le (by have := unhide HN; omega)]; exact h) (unhide hno)
    case pos =>
    have hku : k < xs.length := by have := unhide HN; omega
    obtain ⟨b, o, rfl, hb, hat⟩ := (unhide HK).at (by omega)
    obtain ⟨y, hy⟩ : ∃ y, y = xs[k] := ⟨_, rfl⟩
    have hy2 : xs[k]? = some y := by rw [List.getElem?_eq_getElem hku, hy]
    have r := hat k y hy2
    have c0 := (unhide ho).cell (range_at r 0 (.string (str y)) rfl) (fun e => e)
    rw [Nat.mul_one, Nat.add_zero] at c0
    have hb2 := str_beq x y
    have HY := hide hy
    have hkz : (k : Int) < (n : Int) := by omega
    clear r hat hy2 hy hb
    generalize hX : str x = X at *
    generalize hZ : str y = Z at *
    by_cases he : x = y
    · rw [decide_eq_true he] at hb2
      have HE := hide he
      clear he hX hZ
      go_wp2
      go_ret
      refine ⟨k, rfl, ⟨fun _ => ?_, fun _ => by omega⟩, unhide ho⟩
      rw [unhide HE, unhide HY]
      exact List.getElem_mem hku
    · rw [decide_eq_false he] at hb2
      have HE := hide he
      clear he
      go_wp2
      go_roundw
      case rel =>
        refine ⟨k + 1, by omega, by go_num, ?_, ho⟩
        show ¬ _
        rw [mem_take_succ xs k hku, ← unhide HY]
        rintro (h | h)
        · exact unhide hno h
        · exact unhide HE h
      case measure => simp [intOf]; omega

set_option maxRecDepth 100000 in
theorem contains_s (xs : List (List UInt8)) (x : List UInt8) (v : Value) (w : World) (h : HasF w v 1 scells xs) :
    Calls Tryd.prog 102 #[v, .string (str x)] w fun e w' => e = .returned (.bool (memB x xs)) ∧ Only (fun _ => False) w w' := by
  have HI := hide (index_s xs x v w h)
  obtain ⟨ao, cap, rfl, hlc, hm⟩ := h.shape
  clear h hlc hm
  generalize xs.length = n at *
  generalize str x = X at *
  go_enter Tryd.func102, Tryd.ntmps102
  go_wp2_with fail
  refine (unhide HI).mono ?_
  rintro e w2 ⟨i, rfl, hi, o2⟩
  by_cases h0 : 0 ≤ i
  · have HE : Hid (memB x xs = true) := memB_true (hi.1 h0)
    clear hi
    go_wp2
    go_ret
    exact ⟨by rw [unhide HE]; first | done | rfl, o2⟩
  · have HE : Hid (memB x xs = false) := memB_false (fun e => h0 (hi.2 e))
    have hdz : decide ((0 : Int) ≤ i) = false := decide_eq_false h0
    clear hi h0
    go_wp2
    go_ret
    exact ⟨by rw [unhide HE]; first | done | rfl, o2⟩

set_option maxRecDepth 100000 in
set_option maxHeartbeats 1000000 in
theorem list_s (xs : List (List UInt8)) (most : Nat) (v : Value) (w : World) (h : HasF w v 1 scells xs) (hs : ∀ x ∈ xs, x.length ≤ maxLen) (hT : Tabs w) :
    Calls Tryd.prog 87 #[v, .int .i64 most, .func (.func 11) #[] #[]] w fun e w' => e = .returned (.bool (listB isText most xs)) ∧ Only (fun _ => False) w w' := by
  obtain ⟨ao, cap, rfl, hlc, hm⟩ := h.shape
  obtain ⟨n, hn⟩ : ∃ n, n = xs.length := ⟨_, rfl⟩
  have HL : Hid (listB isText most xs = (decide (n ≤ most) && eachB isText [] xs)) := by rw [hn]; rfl
  rw [← hn] at h hlc ⊢
  have HN := hide hn
  have HK := hide h
  have HS := hide hs
  have HT := hide hT
  have hnz : (n : Int) < 9223372036854775808 := by unfold maxLen at hm; omega
  have HMX := hide hm
  clear h hn hm hs hT
  by_cases hmo : n ≤ most
  case neg =>
    have hmi : (most : Int) < (n : Int) := by omega
    have HE : Hid (listB isText most xs = false) := by show _ = _; rw [unhide HL, decide_eq_false hmo, Bool.false_and]
    clear hmo
    go_enter Tryd.func87, Tryd.ntmps87
    go_wp2
    go_ret
    exact ⟨by rw [unhide HE]; first | done | rfl, Only.refl _ _⟩
  case pos =>
  have hmi : ¬ (most : Int) < (n : Int) := by omega
  have HE : Hid (listB isText most xs = eachB isText [] xs) := by show _ = _; rw [unhide HL, decide_eq_true hmo, Bool.true_and]
  clear hmo HL
  go_enter Tryd.func87, Tryd.ntmps87
  go_wp2
  go_loopw [15] (fun i wr => ∃ k : Nat, k ≤ n ∧ i = .int .i64 k ∧ Hid (eachB isText [] xs = eachB isText (xs.take k) (xs.drop k)) ∧ Hid (Only (fun _ => False) w wr)) (fun i _ => n - (intOf i).toNat)
  case atStart => exact ⟨0, Nat.zero_le _, rfl, by show _ = _; simp, Only.refl _ _⟩
  case round =>
    rename World => wr
    obtain ⟨k, hk, rfl, hno, ho⟩ := hrel
    by_cases hlt : k < n
    case neg =>
      obtain rfl : k = n := by omega
      go_wp2
      go_ret
      refine ⟨?_, unhide ho⟩
      rw [unhide HE, unhide hno, List.drop_of_length_le (by have := unhide HN; omega), eachB]
      rfl
    case pos =>
    have hku : k < xs.length := by have := unhide HN; omega
    have hf := HasF.front (unhide HK) k (by omega)
    obtain ⟨b, o, rfl, hb, hat⟩ := (unhide HK).at (by omega)
    have hst := eachB_step isText xs k hku
    obtain ⟨y, hy⟩ : ∃ y, y = xs[k] := ⟨_, rfl⟩
    have hy2 : xs[k]? = some y := by rw [List.getElem?_eq_getElem hku, hy]
    have r := hat k y hy2
    rw [← hy, ← unhide hno] at hst
    have HST := hide hst
    have hys := unhide HS y (by rw [hy]; exact List.getElem_mem hku)
    have HU := hide (fun W (oo : Only (fun _ => False) w W) => text_any y W hys ((unhide HT).same oo))
    have HF := hide (fun W (oo : Only (fun _ => False) w W) => contains_s (xs.take k) y _ W (hf.same oo))
    have c0 := (unhide ho).cell (range_at r 0 (.string (str y)) rfl) (fun e => e)
    rw [Nat.mul_one, Nat.add_zero] at c0
    have hkz : (k : Int) < (n : Int) := by omega
    have hkc : (k : Int) ≤ (cap : Int) := by omega
    clear r hat hy2 hy hb hf hst hys hno
    have HO := ho
    clear ho
    cases hi : isText y with
    | false =>
      rw [hi] at HST HU
      have HE2 : Hid (listB isText most xs = false) := by show _ = _; rw [unhide HE, unhide HST, Bool.false_and, Bool.false_and]
      clear hi HF HST
      go_wp2_with (refine (unhide HU _ (unhide HO)).mono ?_; rintro e x2 ⟨rfl, o2⟩)
      go_ret
      exact ⟨by rw [unhide HE2]; first | done | rfl, (unhide HO).trans o2 (fun _ _ e => e)⟩
    | true =>
      rw [hi] at HST HU
      cases hc : memB y (xs.take k) with
      | true =>
        rw [hc] at HST HF
        have HE2 : Hid (listB isText most xs = false) := by show _ = _; rw [unhide HE, unhide HST]; rfl
        clear hi hc HST
        go_wp2_with (first
          | (refine (unhide HU _ (unhide HO)).mono ?_; rintro e x2 ⟨rfl, o2⟩; have O2 := hide ((unhide HO).trans o2 (fun _ _ e => e)); clear o2)
          | (refine (unhide HF _ (unhide O2)).mono ?_; rintro e x3 ⟨rfl, o3⟩))
        go_ret
        exact ⟨by rw [unhide HE2]; first | done | rfl, (unhide O2).trans o3 (fun _ _ e => e)⟩
      | false =>
        rw [hc] at HST HF
        have HE2 : Hid (eachB isText [] xs = eachB isText (xs.take (k + 1)) (xs.drop (k + 1))) := by show _ = _; rw [unhide HST]; rfl
        clear hi hc HST
        go_wp2_with (first
          | (refine (unhide HU _ (unhide HO)).mono ?_; rintro e x2 ⟨rfl, o2⟩; have O2 := hide ((unhide HO).trans o2 (fun _ _ e => e)); clear o2)
          | (refine (unhide HF _ (unhide O2)).mono ?_; rintro e x3 ⟨rfl, o3⟩))
        go_roundw
        case rel => exact ⟨k + 1, by omega, by go_num, HE2, (unhide O2).trans o3 (fun _ _ e => e)⟩
        case measure => simp [intOf]; omega

set_option maxRecDepth 100000 in
theorem index_k (xs : List (Int × List UInt8)) (x : Int × List UInt8) (v : Value) (w : World) (h : HasF w v 2 kcells xs) :
    Calls Tryd.prog 107 #[v, kval x] w fun e w' => ∃ i : Int, e = .returned (.int .i64 i) ∧ (0 ≤ i ↔ x ∈ xs) ∧ Only (fun _ => False) w w' := by
  obtain ⟨ao, cap, rfl, hlc, hm⟩ := h.shape
  obtain ⟨n, hn⟩ : ∃ n, n = xs.length := ⟨_, rfl⟩
  rw [← hn] at h hlc ⊢
  have HN := hide hn
  have HK := hide h
  have hnz : (n : Int) < 9223372036854775808 := by unfold maxLen at hm; omega
  have HMX := hide hm
  clear h hn hm
  unfold kval
  obtain ⟨w1, bx, e1, ebx, hbx, o1, hs1⟩ := boxed w #[.int .i64 x.1, .string (str x.2)] 51
  have O1 := hide o1
  have HBX := hide hbx
  go_enter Tryd.func107, Tryd.ntmps107
  go_upto_region 1 with fail
  rw [← e1, ← ebx]
  clear e1 ebx hs1 o1 hbx
  go_wp2
  go_loopw [8] (fun i wr => ∃ k : Nat, k ≤ n ∧ i = .int .i64 k ∧ Hid (x ∉ xs.take k) ∧ Hid (Only (fun _ => False) w1 wr)) (fun i _ => n - (intOf i).toNat)
  case atStart => exact ⟨0, Nat.zero_le _, rfl, by show ¬ _; simp, Only.refl _ _⟩
  case round =>
    rename World => wr
    obtain ⟨k, hk, rfl, hno, ho⟩ := hrel
    have HO := hide ((unhide O1).trans (unhide ho) (fun _ _ e => e))
    by_cases hlt : k < n
    case neg =>
      obtain rfl : k = n := by omega
      go_wp2
      go_ret
      refine ⟨-1, rfl, ⟨fun h => by omega, fun h => ?_⟩, unhide HO⟩
      exact absurd (by rw [List.take_of_length_le (by have := unhide HN; omega)]; exact h) (unhide hno)
    case pos =>
    have hku : k < xs.length := by have := unhide HN; omega
    obtain ⟨b, o, rfl, hb, hat⟩ := (unhide HK).at (by omega)
    obtain ⟨y, hy⟩ : ∃ y, y = xs[k] := ⟨_, rfl⟩
    have hy2 : xs[k]? = some y := by rw [List.getElem?_eq_getElem hku, hy]
    have r := hat k y hy2
    obtain ⟨p, hp⟩ : ∃ p, p = o + k * 2 := ⟨_, rfl⟩
    rw [← hp] at r
    have c0 := (unhide HO).cell (range_at r 0 (.int .i64 y.1) rfl) (fun e => e)
    have c1 := (unhide HO).cell (range_at r 1 (.string (str y.2)) rfl) (fun e => e)
    rw [Nat.add_zero] at c0
    have d0 := ((unhide HBX).same (unhide ho)).cell 0 (.int .i64 x.1) rfl
    have d1 := ((unhide HBX).same (unhide ho)).cell 1 (.string (str x.2)) rfl
    have hb2 := str_beq x.2 y.2
    have HY := hide hy
    have hkz : (k : Int) < (n : Int) := by omega
    clear r hat hy2 hy hb
    obtain ⟨x1, x2⟩ := x
    obtain ⟨y1, y2⟩ := y
    simp only at c0 c1 d0 d1 hb2
    generalize str x2 = X at *
    generalize str y2 = Z at *
    by_cases he : (x1, x2) = (y1, y2)
    · have he1 : x1 = y1 := (Prod.mk.inj he).1
      have he2 : x2 = y2 := (Prod.mk.inj he).2
      rw [decide_eq_true he2] at hb2
      have hi : (x1 == y1) = true := by simp [he1]
      have HE := hide he
      clear he he1 he2
      rw [hp] at c0 c1
      go_wp2_with fail
      go_quiet (fail)
      go_wp2
      go_ret
      refine ⟨k, rfl, ⟨fun _ => ?_, fun _ => by omega⟩, (unhide HO).drewN _⟩
      rw [unhide HE, unhide HY]
      exact List.getElem_mem hku
    · have HE := hide he
      have hcase : ¬ (x1 = y1 ∧ x2 = y2) := fun e => he (by rw [e.1, e.2])
      clear he
      rw [hp] at c0 c1
      have fin : Hid ((x1, x2) ∉ xs.take (k + 1)) := by
        show ¬ _
        rw [mem_take_succ xs k hku, ← unhide HY]
        rintro (h | h)
        · exact unhide hno h
        · exact unhide HE h
      by_cases h1 : x1 = y1
      · have hi : (x1 == y1) = true := by simp [h1]
        rw [decide_eq_false (fun e => hcase ⟨h1, e⟩)] at hb2
        clear hcase h1
        go_wp2_with fail
        go_quiet (fail)
        go_wp2
        go_roundw
        case rel => exact ⟨k + 1, by omega, by go_num, fin, (unhide ho).drewN _⟩
        case measure => simp [intOf]; omega
      · have hi : (x1 == y1) = false := by simpa using h1
        generalize hbb : (X.toList == Z.toList) = B2 at *
        clear hcase h1 hb2
        cases B2
        all_goals
          go_wp2_with fail
          go_quiet (fail)
          go_wp2
          go_roundw
          case rel => exact ⟨k + 1, by omega, by go_num, fin, (unhide ho).drewN _⟩
          case measure => simp [intOf]; omega

set_option maxRecDepth 100000 in
theorem contains_k (xs : List (Int × List UInt8)) (x : Int × List UInt8) (v : Value) (w : World) (h : HasF w v 2 kcells xs) :
    Calls Tryd.prog 103 #[v, kval x] w fun e w' => e = .returned (.bool (memB x xs)) ∧ Only (fun _ => False) w w' := by
  obtain ⟨w1, bx, e1, ebx, hbx, o1, hs1⟩ := boxed w #[.int .i64 x.1, .string (str x.2)] 51
  have HI := hide (index_k xs x v w1 (h.same o1))
  have d0 := hbx.cell 0 (.int .i64 x.1) rfl
  have d1 := hbx.cell 1 (.string (str x.2)) rfl
  have O1 := hide o1
  clear hbx o1 hs1
  unfold kval at HI ⊢
  obtain ⟨ao, cap, rfl, hlc, hm⟩ := h.shape
  clear h hlc hm
  generalize xs.length = n at *
  go_enter Tryd.func103, Tryd.ntmps103
  go_upto_region 1 with fail
  rw [← e1, ← ebx]
  clear e1 ebx
  go_wp2_with fail
  refine (unhide HI).mono ?_
  rintro e w2 ⟨i, rfl, hi, o2⟩
  by_cases h0 : 0 ≤ i
  · have HE : Hid (memB x xs = true) := memB_true (hi.1 h0)
    clear hi
    go_wp2
    go_ret
    exact ⟨by rw [unhide HE]; first | done | rfl, (unhide O1).trans o2 (fun _ _ e => e)⟩
  · have HE : Hid (memB x xs = false) := memB_false (fun e => h0 (hi.2 e))
    have hdz : decide ((0 : Int) ≤ i) = false := decide_eq_false h0
    clear hi h0
    go_wp2
    go_ret
    exact ⟨by rw [unhide HE]; first | done | rfl, (unhide O1).trans o2 (fun _ _ e => e)⟩

set_option maxRecDepth 100000 in
set_option maxHeartbeats 1000000 in
theorem list_k (xs : List (Int × List UInt8)) (most : Nat) (v : Value) (w : World) (h : HasF w v 2 kcells xs) (hs : ∀ x ∈ xs, x.2.length ≤ maxLen) (hT : Tabs w) :
    Calls Tryd.prog 88 #[v, .int .i64 most, .func (.func 89) #[] #[]] w fun e w' => e = .returned (.bool (listB linkB most xs)) ∧ Only (fun _ => False) w w' := by
  obtain ⟨ao, cap, rfl, hlc, hm⟩ := h.shape
  obtain ⟨n, hn⟩ : ∃ n, n = xs.length := ⟨_, rfl⟩
  have HL : Hid (listB linkB most xs = (decide (n ≤ most) && eachB linkB [] xs)) := by rw [hn]; rfl
  rw [← hn] at h hlc ⊢
  have HN := hide hn
  have HK := hide h
  have HS := hide hs
  have HT := hide hT
  have hnz : (n : Int) < 9223372036854775808 := by unfold maxLen at hm; omega
  have HMX := hide hm
  clear h hn hm hs hT
  by_cases hmo : n ≤ most
  case neg =>
    have hmi : (most : Int) < (n : Int) := by omega
    have HE : Hid (listB linkB most xs = false) := by show _ = _; rw [unhide HL, decide_eq_false hmo, Bool.false_and]
    clear hmo
    go_enter Tryd.func88, Tryd.ntmps88
    go_wp2
    go_ret
    exact ⟨by rw [unhide HE]; first | done | rfl, Only.refl _ _⟩
  case pos =>
  have hmi : ¬ (most : Int) < (n : Int) := by omega
  have HE : Hid (listB linkB most xs = eachB linkB [] xs) := by show _ = _; rw [unhide HL, decide_eq_true hmo, Bool.true_and]
  clear hmo HL
  go_enter Tryd.func88, Tryd.ntmps88
  go_wp2
  go_loopw [15] (fun i wr => ∃ k : Nat, k ≤ n ∧ i = .int .i64 k ∧ Hid (eachB linkB [] xs = eachB linkB (xs.take k) (xs.drop k)) ∧ Hid (Only (fun _ => False) w wr)) (fun i _ => n - (intOf i).toNat)
  case atStart => exact ⟨0, Nat.zero_le _, rfl, by show _ = _; simp, Only.refl _ _⟩
  case round =>
    rename World => wr
    obtain ⟨k, hk, rfl, hno, ho⟩ := hrel
    by_cases hlt : k < n
    case neg =>
      obtain rfl : k = n := by omega
      go_wp2
      go_ret
      refine ⟨?_, unhide ho⟩
      rw [unhide HE, unhide hno, List.drop_of_length_le (by have := unhide HN; omega), eachB]
      rfl
    case pos =>
    have hku : k < xs.length := by have := unhide HN; omega
    have hf := HasF.front (unhide HK) k (by omega)
    obtain ⟨b, o, rfl, hb, hat⟩ := (unhide HK).at (by omega)
    have hst := eachB_step linkB xs k hku
    obtain ⟨y, hy⟩ : ∃ y, y = xs[k] := ⟨_, rfl⟩
    have hy2 : xs[k]? = some y := by rw [List.getElem?_eq_getElem hku, hy]
    have r := hat k y hy2
    rw [← hy, ← unhide hno] at hst
    have HST := hide hst
    have hys := unhide HS y (by rw [hy]; exact List.getElem_mem hku)
    have HU := hide (fun W (oo : Only (fun _ => False) w W) => link_any y W hys ((unhide HT).same oo))
    have HF := hide (fun W (oo : Only (fun _ => False) w W) => contains_k (xs.take k) y _ W (hf.same oo))
    unfold kval at HU HF
    have c0 := (unhide ho).cell (range_at r 0 (.int .i64 y.1) rfl) (fun e => e)
    have c1 := (unhide ho).cell (range_at r 1 (.string (str y.2)) rfl) (fun e => e)
    rw [Nat.add_zero] at c0
    have hkz : (k : Int) < (n : Int) := by omega
    have hkc : (k : Int) ≤ (cap : Int) := by omega
    clear r hat hy2 hy hb hf hst hys hno
    obtain ⟨w2, bz, e2, ez, hz, o2, hsz⟩ := boxed wr #[.int .i64 y.1, .string (str y.2)] 51
    have HO := hide ((unhide ho).trans o2 (fun _ _ e => e))
    have d0 := hz.cell 0 (.int .i64 y.1) rfl
    have d1 := hz.cell 1 (.string (str y.2)) rfl
    have HS2 := hide hsz
    clear hz hsz ho o2
    go_upto_region 6 with fail
    rw [← e2, ← ez]
    clear e2 ez
    cases hi : linkB y with
    | false =>
      rw [hi] at HST HU
      have HE2 : Hid (listB linkB most xs = false) := by show _ = _; rw [unhide HE, unhide HST, Bool.false_and, Bool.false_and]
      clear hi HF HST
      go_wp2_with fail
      refine wp_region_held_drew (S := (fun w' => Only (fun _ => False) w2 w')) (by kernel_rfl) ((Only.refl _ _).drew) (fun hHeld => ?_)
      refine wpAnyH_take (i := 0) (v := ?v1) rfl (by kernel_rfl) (by kernel_rfl) (by kernel_rfl) (fun _ _ _ h => h) (Or.inl ⟨by rfl, ?hy1⟩) (by assumption) ?rest1
      case hy1 =>
        intro w hSw
        go_simp
        try with_reducible rfl
      try simp only [Act.put, List.setIfInBounds_toArray, List.set_cons_zero, List.set_cons_succ, List.getElem_toArray, List.getElem_cons_succ, List.getElem_cons_zero]
      refine wpAnyH_take (i := 1) (v := ?v2) rfl (by kernel_rfl) (by kernel_rfl) (by kernel_rfl) (fun _ _ _ h => h) (Or.inl ⟨by rfl, ?hy2⟩) (by assumption) ?rest2
      case hy2 =>
        intro w hSw
        (have q0 := hSw.cell d0 (fun e => e); have q1 := hSw.cell d1 (fun e => e); go_simp; try with_reducible rfl)
      try simp only [Act.put, List.setIfInBounds_toArray, List.set_cons_zero, List.set_cons_succ, List.getElem_toArray, List.getElem_cons_succ, List.getElem_cons_zero]
      refine wpAnyH_ready (rs := [2]) (by kernel_rfl) (by simp) ?_
      refine AllReadyH.cons rfl (fun K hK => ?_) AllReadyH.nil
      go_simp
      go_wp2_with fail; refine (unhide HU _ ((unhide HO).drew)).mono ?_; rintro e x1 ⟨rfl, y1⟩; have Q1 : Hid (Only (fun _ => False) w2 x1) := ((Only.refl (fun _ => False) w2).drew).trans y1 (fun _ _ e => e); clear y1
      refine hK.out _ _ ((unhide Q1)) (fun hHeld => ?_)
      clear hK K
      try simp only [Act.put, List.setIfInBounds_toArray, List.set_cons_zero, List.set_cons_succ, List.getElem_toArray, List.getElem_cons_succ, List.getElem_cons_zero]
      refine wpAnyH_take (i := 3) (v := ?v3) rfl (by kernel_rfl) (by kernel_rfl) (by kernel_rfl) (fun _ _ _ h => h) (Or.inl ⟨by rfl, ?hy3⟩) (by assumption) ?rest3
      case hy3 =>
        intro w hSw
        go_simp
        try with_reducible rfl
      try simp only [Act.put, List.setIfInBounds_toArray, List.set_cons_zero, List.set_cons_succ, List.getElem_toArray, List.getElem_cons_succ, List.getElem_cons_zero]
      refine wpAnyH_take (i := 4) (v := ?v4) rfl (by kernel_rfl) (by kernel_rfl) (by kernel_rfl) (fun _ _ _ h => h) (Or.inl ⟨by rfl, ?hy4⟩) (by assumption) ?rest4
      case hy4 =>
        intro w hSw
        go_simp
        try with_reducible rfl
      try simp only [Act.put, List.setIfInBounds_toArray, List.set_cons_zero, List.set_cons_succ, List.getElem_toArray, List.getElem_cons_succ, List.getElem_cons_zero]
      refine wpAnyH_take (i := 5) (v := undef) rfl (by kernel_rfl) (by kernel_rfl) (by kernel_rfl) (fun _ _ _ h => h) (Or.inr ⟨by rfl, rfl⟩) (by assumption) ?_
      try simp only [Act.put, List.setIfInBounds_toArray, List.set_cons_zero, List.set_cons_succ, List.getElem_toArray, List.getElem_cons_succ, List.getElem_cons_zero]
      refine wpAnyH_take (i := 6) (v := undef) rfl (by kernel_rfl) (by kernel_rfl) (by kernel_rfl) (fun _ _ _ h => h) (Or.inr ⟨by rfl, rfl⟩) (by assumption) ?_
      try simp only [Act.put, List.setIfInBounds_toArray, List.set_cons_zero, List.set_cons_succ, List.getElem_toArray, List.getElem_cons_succ, List.getElem_cons_zero]
      refine wpAnyH_take (i := 7) (v := undef) rfl (by kernel_rfl) (by kernel_rfl) (by kernel_rfl) (fun _ _ _ h => h) (Or.inr ⟨by rfl, rfl⟩) (by assumption) ?_
      try simp only [Act.put, List.setIfInBounds_toArray, List.set_cons_zero, List.set_cons_succ, List.getElem_toArray, List.getElem_cons_succ, List.getElem_cons_zero]
      refine wpAnyH_take (i := 8) (v := undef) rfl (by kernel_rfl) (by kernel_rfl) (by kernel_rfl) (fun _ _ _ h => h) (Or.inr ⟨by rfl, rfl⟩) (by assumption) ?_
      try simp only [Act.put, List.setIfInBounds_toArray, List.set_cons_zero, List.set_cons_succ, List.getElem_toArray, List.getElem_cons_succ, List.getElem_cons_zero]
      refine wpAnyH_take (i := 9) (v := undef) rfl (by kernel_rfl) (by kernel_rfl) (by kernel_rfl) (fun _ _ _ h => h) (Or.inr ⟨by rfl, rfl⟩) (by assumption) ?_
      try simp only [Act.put, List.setIfInBounds_toArray, List.set_cons_zero, List.set_cons_succ, List.getElem_toArray, List.getElem_cons_succ, List.getElem_cons_zero]
      refine wpAnyH_take (i := 10) (v := ?v5) rfl (by kernel_rfl) (by kernel_rfl) (by kernel_rfl) (fun _ _ _ h => h) (Or.inl ⟨by rfl, ?hy5⟩) (by assumption) ?rest5
      case hy5 =>
        intro w hSw
        go_simp
        try with_reducible rfl
      try simp only [Act.put, List.setIfInBounds_toArray, List.set_cons_zero, List.set_cons_succ, List.getElem_toArray, List.getElem_cons_succ, List.getElem_cons_zero]
      refine wpAnyH_done (by kernel_rfl) ?_ _
      go_wp2
      go_ret
      exact ⟨by rw [unhide HE2]; first | done | rfl, (unhide HO).trans (unhide Q1) (fun _ _ e => e)⟩
    | true =>
      rw [hi] at HST HU
      cases hc : memB y (xs.take k) with
      | true =>
        rw [hc] at HST HF
        have HE2 : Hid (listB linkB most xs = false) := by show _ = _; rw [unhide HE, unhide HST]; rfl
        clear hi hc HST
        go_wp2_with fail
        refine wp_region_held_drew (S := (fun w' => Only (fun _ => False) w2 w')) (by kernel_rfl) ((Only.refl _ _).drew) (fun hHeld => ?_)
        refine wpAnyH_take (i := 0) (v := ?v6) rfl (by kernel_rfl) (by kernel_rfl) (by kernel_rfl) (fun _ _ _ h => h) (Or.inl ⟨by rfl, ?hy6⟩) (by assumption) ?rest6
        case hy6 =>
          intro w hSw
          go_simp
          try with_reducible rfl
        try simp only [Act.put, List.setIfInBounds_toArray, List.set_cons_zero, List.set_cons_succ, List.getElem_toArray, List.getElem_cons_succ, List.getElem_cons_zero]
        refine wpAnyH_take (i := 1) (v := ?v7) rfl (by kernel_rfl) (by kernel_rfl) (by kernel_rfl) (fun _ _ _ h => h) (Or.inl ⟨by rfl, ?hy7⟩) (by assumption) ?rest7
        case hy7 =>
          intro w hSw
          (have q0 := hSw.cell d0 (fun e => e); have q1 := hSw.cell d1 (fun e => e); go_simp; try with_reducible rfl)
        try simp only [Act.put, List.setIfInBounds_toArray, List.set_cons_zero, List.set_cons_succ, List.getElem_toArray, List.getElem_cons_succ, List.getElem_cons_zero]
        refine wpAnyH_ready (rs := [2]) (by kernel_rfl) (by simp) ?_
        refine AllReadyH.cons rfl (fun K hK => ?_) AllReadyH.nil
        go_simp
        go_wp2_with fail; refine (unhide HU _ ((unhide HO).drew)).mono ?_; rintro e x1 ⟨rfl, y1⟩; have Q1 : Hid (Only (fun _ => False) w2 x1) := ((Only.refl (fun _ => False) w2).drew).trans y1 (fun _ _ e => e); clear y1
        refine hK.out _ _ ((unhide Q1)) (fun hHeld => ?_)
        clear hK K
        try simp only [Act.put, List.setIfInBounds_toArray, List.set_cons_zero, List.set_cons_succ, List.getElem_toArray, List.getElem_cons_succ, List.getElem_cons_zero]
        refine wpAnyH_take (i := 3) (v := ?v8) rfl (by kernel_rfl) (by kernel_rfl) (by kernel_rfl) (fun _ _ _ h => h) (Or.inl ⟨by rfl, ?hy8⟩) (by assumption) ?rest8
        case hy8 =>
          intro w hSw
          go_simp
          try with_reducible rfl
        try simp only [Act.put, List.setIfInBounds_toArray, List.set_cons_zero, List.set_cons_succ, List.getElem_toArray, List.getElem_cons_succ, List.getElem_cons_zero]
        refine wpAnyH_take (i := 4) (v := ?v9) rfl (by kernel_rfl) (by kernel_rfl) (by kernel_rfl) (fun _ _ _ h => h) (Or.inl ⟨by rfl, ?hy9⟩) (by assumption) ?rest9
        case hy9 =>
          intro w hSw
          go_simp
          try with_reducible rfl
        try simp only [Act.put, List.setIfInBounds_toArray, List.set_cons_zero, List.set_cons_succ, List.getElem_toArray, List.getElem_cons_succ, List.getElem_cons_zero]
        refine wpAnyH_take (i := 5) (v := ?v10) rfl (by kernel_rfl) (by kernel_rfl) (by kernel_rfl) (fun _ _ _ h => h) (Or.inl ⟨by rfl, ?hy10⟩) (by assumption) ?rest10
        case hy10 =>
          intro w hSw
          go_simp
          try with_reducible rfl
        try simp only [Act.put, List.setIfInBounds_toArray, List.set_cons_zero, List.set_cons_succ, List.getElem_toArray, List.getElem_cons_succ, List.getElem_cons_zero]
        refine wpAnyH_take (i := 6) (v := ?v11) rfl (by kernel_rfl) (by kernel_rfl) (by kernel_rfl) (fun _ _ _ h => h) (Or.inl ⟨by rfl, ?hy11⟩) (by assumption) ?rest11
        case hy11 =>
          intro w hSw
          go_simp
          try with_reducible rfl
        try simp only [Act.put, List.setIfInBounds_toArray, List.set_cons_zero, List.set_cons_succ, List.getElem_toArray, List.getElem_cons_succ, List.getElem_cons_zero]
        refine wpAnyH_take (i := 7) (v := ?v12) rfl (by kernel_rfl) (by kernel_rfl) (by kernel_rfl) (fun _ _ _ h => h) (Or.inl ⟨by rfl, ?hy12⟩) (by assumption) ?rest12
        case hy12 =>
          intro w hSw
          go_simp
          try with_reducible rfl
        try simp only [Act.put, List.setIfInBounds_toArray, List.set_cons_zero, List.set_cons_succ, List.getElem_toArray, List.getElem_cons_succ, List.getElem_cons_zero]
        refine wpAnyH_take (i := 8) (v := ?v13) rfl (by kernel_rfl) (by kernel_rfl) (by kernel_rfl) (fun _ _ _ h => h) (Or.inl ⟨by rfl, ?hy13⟩) (by assumption) ?rest13
        case hy13 =>
          intro w hSw
          (have q0 := hSw.cell d0 (fun e => e); have q1 := hSw.cell d1 (fun e => e); go_simp; try with_reducible rfl)
        try simp only [Act.put, List.setIfInBounds_toArray, List.set_cons_zero, List.set_cons_succ, List.getElem_toArray, List.getElem_cons_succ, List.getElem_cons_zero]
        refine wpAnyH_ready (rs := [9]) (by kernel_rfl) (by simp) ?_
        refine AllReadyH.cons rfl (fun K hK => ?_) AllReadyH.nil
        go_simp
        go_wp2_with fail; refine (unhide HF _ ((unhide HO).trans (unhide Q1) (fun _ _ e => e))).mono ?_; rintro e x2 ⟨rfl, y2⟩; have Q2 : Hid (Only (fun _ => False) w2 x2) := (unhide Q1).trans y2 (fun _ _ e => e); clear y2
        refine hK.out _ _ ((unhide Q2)) (fun hHeld => ?_)
        clear hK K
        try simp only [Act.put, List.setIfInBounds_toArray, List.set_cons_zero, List.set_cons_succ, List.getElem_toArray, List.getElem_cons_succ, List.getElem_cons_zero]
        refine wpAnyH_take (i := 10) (v := ?v14) rfl (by kernel_rfl) (by kernel_rfl) (by kernel_rfl) (fun _ _ _ h => h) (Or.inl ⟨by rfl, ?hy14⟩) (by assumption) ?rest14
        case hy14 =>
          intro w hSw
          go_simp
          try with_reducible rfl
        try simp only [Act.put, List.setIfInBounds_toArray, List.set_cons_zero, List.set_cons_succ, List.getElem_toArray, List.getElem_cons_succ, List.getElem_cons_zero]
        refine wpAnyH_done (by kernel_rfl) ?_ _
        go_wp2
        go_ret
        exact ⟨by rw [unhide HE2]; first | done | rfl, (unhide HO).trans (unhide Q2) (fun _ _ e => e)⟩
      | false =>
        rw [hc] at HST HF
        have HE2 : Hid (eachB linkB [] xs = eachB linkB (xs.take (k + 1)) (xs.drop (k + 1))) := by show _ = _; rw [unhide HST]; rfl
        clear hi hc HST
        go_wp2_with fail
        refine wp_region_held_drew (S := (fun w' => Only (fun _ => False) w2 w')) (by kernel_rfl) ((Only.refl _ _).drew) (fun hHeld => ?_)
        refine wpAnyH_take (i := 0) (v := ?v15) rfl (by kernel_rfl) (by kernel_rfl) (by kernel_rfl) (fun _ _ _ h => h) (Or.inl ⟨by rfl, ?hy15⟩) (by assumption) ?rest15
        case hy15 =>
          intro w hSw
          go_simp
          try with_reducible rfl
        try simp only [Act.put, List.setIfInBounds_toArray, List.set_cons_zero, List.set_cons_succ, List.getElem_toArray, List.getElem_cons_succ, List.getElem_cons_zero]
        refine wpAnyH_take (i := 1) (v := ?v16) rfl (by kernel_rfl) (by kernel_rfl) (by kernel_rfl) (fun _ _ _ h => h) (Or.inl ⟨by rfl, ?hy16⟩) (by assumption) ?rest16
        case hy16 =>
          intro w hSw
          (have q0 := hSw.cell d0 (fun e => e); have q1 := hSw.cell d1 (fun e => e); go_simp; try with_reducible rfl)
        try simp only [Act.put, List.setIfInBounds_toArray, List.set_cons_zero, List.set_cons_succ, List.getElem_toArray, List.getElem_cons_succ, List.getElem_cons_zero]
        refine wpAnyH_ready (rs := [2]) (by kernel_rfl) (by simp) ?_
        refine AllReadyH.cons rfl (fun K hK => ?_) AllReadyH.nil
        go_simp
        go_wp2_with fail; refine (unhide HU _ ((unhide HO).drew)).mono ?_; rintro e x1 ⟨rfl, y1⟩; have Q1 : Hid (Only (fun _ => False) w2 x1) := ((Only.refl (fun _ => False) w2).drew).trans y1 (fun _ _ e => e); clear y1
        refine hK.out _ _ ((unhide Q1)) (fun hHeld => ?_)
        clear hK K
        try simp only [Act.put, List.setIfInBounds_toArray, List.set_cons_zero, List.set_cons_succ, List.getElem_toArray, List.getElem_cons_succ, List.getElem_cons_zero]
        refine wpAnyH_take (i := 3) (v := ?v17) rfl (by kernel_rfl) (by kernel_rfl) (by kernel_rfl) (fun _ _ _ h => h) (Or.inl ⟨by rfl, ?hy17⟩) (by assumption) ?rest17
        case hy17 =>
          intro w hSw
          go_simp
          try with_reducible rfl
        try simp only [Act.put, List.setIfInBounds_toArray, List.set_cons_zero, List.set_cons_succ, List.getElem_toArray, List.getElem_cons_succ, List.getElem_cons_zero]
        refine wpAnyH_take (i := 4) (v := ?v18) rfl (by kernel_rfl) (by kernel_rfl) (by kernel_rfl) (fun _ _ _ h => h) (Or.inl ⟨by rfl, ?hy18⟩) (by assumption) ?rest18
        case hy18 =>
          intro w hSw
          go_simp
          try with_reducible rfl
        try simp only [Act.put, List.setIfInBounds_toArray, List.set_cons_zero, List.set_cons_succ, List.getElem_toArray, List.getElem_cons_succ, List.getElem_cons_zero]
        refine wpAnyH_take (i := 5) (v := ?v19) rfl (by kernel_rfl) (by kernel_rfl) (by kernel_rfl) (fun _ _ _ h => h) (Or.inl ⟨by rfl, ?hy19⟩) (by assumption) ?rest19
        case hy19 =>
          intro w hSw
          go_simp
          try with_reducible rfl
        try simp only [Act.put, List.setIfInBounds_toArray, List.set_cons_zero, List.set_cons_succ, List.getElem_toArray, List.getElem_cons_succ, List.getElem_cons_zero]
        refine wpAnyH_take (i := 6) (v := ?v20) rfl (by kernel_rfl) (by kernel_rfl) (by kernel_rfl) (fun _ _ _ h => h) (Or.inl ⟨by rfl, ?hy20⟩) (by assumption) ?rest20
        case hy20 =>
          intro w hSw
          go_simp
          try with_reducible rfl
        try simp only [Act.put, List.setIfInBounds_toArray, List.set_cons_zero, List.set_cons_succ, List.getElem_toArray, List.getElem_cons_succ, List.getElem_cons_zero]
        refine wpAnyH_take (i := 7) (v := ?v21) rfl (by kernel_rfl) (by kernel_rfl) (by kernel_rfl) (fun _ _ _ h => h) (Or.inl ⟨by rfl, ?hy21⟩) (by assumption) ?rest21
        case hy21 =>
          intro w hSw
          go_simp
          try with_reducible rfl
        try simp only [Act.put, List.setIfInBounds_toArray, List.set_cons_zero, List.set_cons_succ, List.getElem_toArray, List.getElem_cons_succ, List.getElem_cons_zero]
        refine wpAnyH_take (i := 8) (v := ?v22) rfl (by kernel_rfl) (by kernel_rfl) (by kernel_rfl) (fun _ _ _ h => h) (Or.inl ⟨by rfl, ?hy22⟩) (by assumption) ?rest22
        case hy22 =>
          intro w hSw
          (have q0 := hSw.cell d0 (fun e => e); have q1 := hSw.cell d1 (fun e => e); go_simp; try with_reducible rfl)
        try simp only [Act.put, List.setIfInBounds_toArray, List.set_cons_zero, List.set_cons_succ, List.getElem_toArray, List.getElem_cons_succ, List.getElem_cons_zero]
        refine wpAnyH_ready (rs := [9]) (by kernel_rfl) (by simp) ?_
        refine AllReadyH.cons rfl (fun K hK => ?_) AllReadyH.nil
        go_simp
        go_wp2_with fail; refine (unhide HF _ ((unhide HO).trans (unhide Q1) (fun _ _ e => e))).mono ?_; rintro e x2 ⟨rfl, y2⟩; have Q2 : Hid (Only (fun _ => False) w2 x2) := (unhide Q1).trans y2 (fun _ _ e => e); clear y2
        refine hK.out _ _ ((unhide Q2)) (fun hHeld => ?_)
        clear hK K
        try simp only [Act.put, List.setIfInBounds_toArray, List.set_cons_zero, List.set_cons_succ, List.getElem_toArray, List.getElem_cons_succ, List.getElem_cons_zero]
        refine wpAnyH_take (i := 10) (v := ?v23) rfl (by kernel_rfl) (by kernel_rfl) (by kernel_rfl) (fun _ _ _ h => h) (Or.inl ⟨by rfl, ?hy23⟩) (by assumption) ?rest23
        case hy23 =>
          intro w hSw
          go_simp
          try with_reducible rfl
        try simp only [Act.put, List.setIfInBounds_toArray, List.set_cons_zero, List.set_cons_succ, List.getElem_toArray, List.getElem_cons_succ, List.getElem_cons_zero]
        refine wpAnyH_done (by kernel_rfl) ?_ _
        go_wp2
        go_roundw
        case rel => exact ⟨k + 1, by omega, by go_num, HE2, (unhide HO).trans (unhide Q2) (fun _ _ e => e)⟩
        case measure => simp [intOf]; omega

set_option maxRecDepth 100000 in
theorem index_c (xs : List (List UInt8 × List UInt8)) (x : List UInt8 × List UInt8) (v : Value) (w : World) (h : HasF w v 2 ccells xs) :
    Calls Tryd.prog 108 #[v, cval x] w fun e w' => ∃ i : Int, e = .returned (.int .i64 i) ∧ (0 ≤ i ↔ x ∈ xs) ∧ Only (fun _ => False) w w' := by
  obtain ⟨ao, cap, rfl, hlc, hm⟩ := h.shape
  obtain ⟨n, hn⟩ : ∃ n, n = xs.length := ⟨_, rfl⟩
  rw [← hn] at h hlc ⊢
  have HN := hide hn
  have HK := hide h
  have hnz : (n : Int) < 9223372036854775808 := by unfold maxLen at hm; omega
  have HMX := hide hm
  clear h hn hm
  unfold cval
  obtain ⟨w1, bx, e1, ebx, hbx, o1, hs1⟩ := boxed w #[.string (str x.1), .string (str x.2)] 53
  have O1 := hide o1
  have HBX := hide hbx
  go_enter Tryd.func108, Tryd.ntmps108
  go_upto_region 1 with fail
  rw [← e1, ← ebx]
  clear e1 ebx hs1 o1 hbx
  go_wp2
  go_loopw [8] (fun i wr => ∃ k : Nat, k ≤ n ∧ i = .int .i64 k ∧ Hid (x ∉ xs.take k) ∧ Hid (Only (fun _ => False) w1 wr)) (fun i _ => n - (intOf i).toNat)
  case atStart => exact ⟨0, Nat.zero_le _, rfl, by show ¬ _; simp, Only.refl _ _⟩
  case round =>
    rename World => wr
    obtain ⟨k, hk, rfl, hno, ho⟩ := hrel
    have HO := hide ((unhide O1).trans (unhide ho) (fun _ _ e => e))
    by_cases hlt : k < n
    case neg =>
      obtain rfl : k = n := by omega
      go_wp2
      go_ret
      refine ⟨-1, rfl, ⟨fun h => by omega, fun h => ?_⟩, unhide HO⟩
      exact absurd (by rw [List.take_of_length_le (by have := unhide HN; omega)]; exact h) (unhide hno)
    case pos =>
    have hku : k < xs.length := by have := unhide HN; omega
    obtain ⟨b, o, rfl, hb, hat⟩ := (unhide HK).at (by omega)
    obtain ⟨y, hy⟩ : ∃ y, y = xs[k] := ⟨_, rfl⟩
    have hy2 : xs[k]? = some y := by rw [List.getElem?_eq_getElem hku, hy]
    have r := hat k y hy2
    obtain ⟨p, hp⟩ : ∃ p, p = o + k * 2 := ⟨_, rfl⟩
    rw [← hp] at r
    have c0 := (unhide HO).cell (range_at r 0 (.string (str y.1)) rfl) (fun e => e)
    have c1 := (unhide HO).cell (range_at r 1 (.string (str y.2)) rfl) (fun e => e)
    rw [Nat.add_zero] at c0
    have d0 := ((unhide HBX).same (unhide ho)).cell 0 (.string (str x.1)) rfl
    have d1 := ((unhide HBX).same (unhide ho)).cell 1 (.string (str x.2)) rfl
    have hb2 := str_beq x.2 y.2
    have hb1 := str_beq x.1 y.1
    have HY := hide hy
    have hkz : (k : Int) < (n : Int) := by omega
    clear r hat hy2 hy hb
    obtain ⟨x1, x2⟩ := x
    obtain ⟨y1, y2⟩ := y
    simp only at c0 c1 d0 d1 hb2 hb1
    generalize str x2 = X at *
    generalize str y2 = Z at *
    generalize str x1 = X1 at *
    generalize str y1 = Z1 at *
    by_cases he : (x1, x2) = (y1, y2)
    · have he1 : x1 = y1 := (Prod.mk.inj he).1
      have he2 : x2 = y2 := (Prod.mk.inj he).2
      rw [decide_eq_true he2] at hb2
      rw [decide_eq_true he1] at hb1
      have HE := hide he
      clear he he1 he2
      rw [hp] at c0 c1
      go_wp2_with fail
      go_quiet (fail)
      go_wp2
      go_ret
      refine ⟨k, rfl, ⟨fun _ => ?_, fun _ => by omega⟩, (unhide HO).drewN _⟩
      rw [unhide HE, unhide HY]
      exact List.getElem_mem hku
    · have HE := hide he
      have hcase : ¬ (x1 = y1 ∧ x2 = y2) := fun e => he (by rw [e.1, e.2])
      clear he
      rw [hp] at c0 c1
      have fin : Hid ((x1, x2) ∉ xs.take (k + 1)) := by
        show ¬ _
        rw [mem_take_succ xs k hku, ← unhide HY]
        rintro (h | h)
        · exact unhide hno h
        · exact unhide HE h
      by_cases h1 : x1 = y1
      · rw [decide_eq_true h1] at hb1
        rw [decide_eq_false (fun e => hcase ⟨h1, e⟩)] at hb2
        clear hcase h1
        go_wp2_with fail
        go_quiet (fail)
        go_wp2
        go_roundw
        case rel => exact ⟨k + 1, by omega, by go_num, fin, (unhide ho).drewN _⟩
        case measure => simp [intOf]; omega
      · rw [decide_eq_false h1] at hb1
        generalize hbb : (X.toList == Z.toList) = B2 at *
        clear hcase h1 hb2
        cases B2
        all_goals
          go_wp2_with fail
          go_quiet (fail)
          go_wp2
          go_roundw
          case rel => exact ⟨k + 1, by omega, by go_num, fin, (unhide ho).drewN _⟩
          case measure => simp [intOf]; omega

set_option maxRecDepth 100000 in
theorem contains_c (xs : List (List UInt8 × List UInt8)) (x : List UInt8 × List UInt8) (v : Value) (w : World) (h : HasF w v 2 ccells xs) :
    Calls Tryd.prog 104 #[v, cval x] w fun e w' => e = .returned (.bool (memB x xs)) ∧ Only (fun _ => False) w w' := by
  obtain ⟨w1, bx, e1, ebx, hbx, o1, hs1⟩ := boxed w #[.string (str x.1), .string (str x.2)] 53
  have HI := hide (index_c xs x v w1 (h.same o1))
  have d0 := hbx.cell 0 (.string (str x.1)) rfl
  have d1 := hbx.cell 1 (.string (str x.2)) rfl
  have O1 := hide o1
  clear hbx o1 hs1
  unfold cval at HI ⊢
  obtain ⟨ao, cap, rfl, hlc, hm⟩ := h.shape
  clear h hlc hm
  generalize xs.length = n at *
  go_enter Tryd.func104, Tryd.ntmps104
  go_upto_region 1 with fail
  rw [← e1, ← ebx]
  clear e1 ebx
  go_wp2_with fail
  refine (unhide HI).mono ?_
  rintro e w2 ⟨i, rfl, hi, o2⟩
  by_cases h0 : 0 ≤ i
  · have HE : Hid (memB x xs = true) := memB_true (hi.1 h0)
    clear hi
    go_wp2
    go_ret
    exact ⟨by rw [unhide HE]; first | done | rfl, (unhide O1).trans o2 (fun _ _ e => e)⟩
  · have HE : Hid (memB x xs = false) := memB_false (fun e => h0 (hi.2 e))
    have hdz : decide ((0 : Int) ≤ i) = false := decide_eq_false h0
    clear hi h0
    go_wp2
    go_ret
    exact ⟨by rw [unhide HE]; first | done | rfl, (unhide O1).trans o2 (fun _ _ e => e)⟩

set_option maxRecDepth 100000 in
set_option maxHeartbeats 1000000 in
theorem list_c (xs : List (List UInt8 × List UInt8)) (most : Nat) (v : Value) (w : World) (h : HasF w v 2 ccells xs) (hs : ∀ x ∈ xs, x.1.length ≤ maxLen ∧ x.2.length ≤ maxLen) (hT : Tabs w) :
    Calls Tryd.prog 90 #[v, .int .i64 most, .func (.func 91) #[] #[]] w fun e w' => e = .returned (.bool (listB custB most xs)) ∧ Only (fun _ => False) w w' := by
  obtain ⟨ao, cap, rfl, hlc, hm⟩ := h.shape
  obtain ⟨n, hn⟩ : ∃ n, n = xs.length := ⟨_, rfl⟩
  have HL : Hid (listB custB most xs = (decide (n ≤ most) && eachB custB [] xs)) := by rw [hn]; rfl
  rw [← hn] at h hlc ⊢
  have HN := hide hn
  have HK := hide h
  have HS := hide hs
  have HT := hide hT
  have hnz : (n : Int) < 9223372036854775808 := by unfold maxLen at hm; omega
  have HMX := hide hm
  clear h hn hm hs hT
  by_cases hmo : n ≤ most
  case neg =>
    have hmi : (most : Int) < (n : Int) := by omega
    have HE : Hid (listB custB most xs = false) := by show _ = _; rw [unhide HL, decide_eq_false hmo, Bool.false_and]
    clear hmo
    go_enter Tryd.func90, Tryd.ntmps90
    go_wp2
    go_ret
    exact ⟨by rw [unhide HE]; first | done | rfl, Only.refl _ _⟩
  case pos =>
  have hmi : ¬ (most : Int) < (n : Int) := by omega
  have HE : Hid (listB custB most xs = eachB custB [] xs) := by show _ = _; rw [unhide HL, decide_eq_true hmo, Bool.true_and]
  clear hmo HL
  go_enter Tryd.func90, Tryd.ntmps90
  go_wp2
  go_loopw [15] (fun i wr => ∃ k : Nat, k ≤ n ∧ i = .int .i64 k ∧ Hid (eachB custB [] xs = eachB custB (xs.take k) (xs.drop k)) ∧ Hid (Only (fun _ => False) w wr)) (fun i _ => n - (intOf i).toNat)
  case atStart => exact ⟨0, Nat.zero_le _, rfl, by show _ = _; simp, Only.refl _ _⟩
  case round =>
    rename World => wr
    obtain ⟨k, hk, rfl, hno, ho⟩ := hrel
    by_cases hlt : k < n
    case neg =>
      obtain rfl : k = n := by omega
      go_wp2
      go_ret
      refine ⟨?_, unhide ho⟩
      rw [unhide HE, unhide hno, List.drop_of_length_le (by have := unhide HN; omega), eachB]
      rfl
    case pos =>
    have hku : k < xs.length := by have := unhide HN; omega
    have hf := HasF.front (unhide HK) k (by omega)
    obtain ⟨b, o, rfl, hb, hat⟩ := (unhide HK).at (by omega)
    have hst := eachB_step custB xs k hku
    obtain ⟨y, hy⟩ : ∃ y, y = xs[k] := ⟨_, rfl⟩
    have hy2 : xs[k]? = some y := by rw [List.getElem?_eq_getElem hku, hy]
    have r := hat k y hy2
    rw [← hy, ← unhide hno] at hst
    have HST := hide hst
    have hys := unhide HS y (by rw [hy]; exact List.getElem_mem hku)
    have HU := hide (fun W (oo : Only (fun _ => False) w W) => custom_any y W hys.1 hys.2 ((unhide HT).same oo))
    have HF := hide (fun W (oo : Only (fun _ => False) w W) => contains_c (xs.take k) y _ W (hf.same oo))
    unfold cval at HU HF
    have c0 := (unhide ho).cell (range_at r 0 (.string (str y.1)) rfl) (fun e => e)
    have c1 := (unhide ho).cell (range_at r 1 (.string (str y.2)) rfl) (fun e => e)
    rw [Nat.add_zero] at c0
    have hkz : (k : Int) < (n : Int) := by omega
    have hkc : (k : Int) ≤ (cap : Int) := by omega
    clear r hat hy2 hy hb hf hst hys hno
    obtain ⟨w2, bz, e2, ez, hz, o2, hsz⟩ := boxed wr #[.string (str y.1), .string (str y.2)] 53
    have HO := hide ((unhide ho).trans o2 (fun _ _ e => e))
    have d0 := hz.cell 0 (.string (str y.1)) rfl
    have d1 := hz.cell 1 (.string (str y.2)) rfl
    have HS2 := hide hsz
    clear hz hsz ho o2
    go_upto_region 6 with fail
    rw [← e2, ← ez]
    clear e2 ez
    cases hi : custB y with
    | false =>
      rw [hi] at HST HU
      have HE2 : Hid (listB custB most xs = false) := by show _ = _; rw [unhide HE, unhide HST, Bool.false_and, Bool.false_and]
      clear hi HF HST
      go_wp2_with fail
      refine wp_region_held_drew (S := (fun w' => Only (fun _ => False) w2 w')) (by kernel_rfl) ((Only.refl _ _).drew) (fun hHeld => ?_)
      refine wpAnyH_take (i := 0) (v := ?v24) rfl (by kernel_rfl) (by kernel_rfl) (by kernel_rfl) (fun _ _ _ h => h) (Or.inl ⟨by rfl, ?hy24⟩) (by assumption) ?rest24
      case hy24 =>
        intro w hSw
        go_simp
        try with_reducible rfl
      try simp only [Act.put, List.setIfInBounds_toArray, List.set_cons_zero, List.set_cons_succ, List.getElem_toArray, List.getElem_cons_succ, List.getElem_cons_zero]
      refine wpAnyH_take (i := 1) (v := ?v25) rfl (by kernel_rfl) (by kernel_rfl) (by kernel_rfl) (fun _ _ _ h => h) (Or.inl ⟨by rfl, ?hy25⟩) (by assumption) ?rest25
      case hy25 =>
        intro w hSw
        (have q0 := hSw.cell d0 (fun e => e); have q1 := hSw.cell d1 (fun e => e); go_simp; try with_reducible rfl)
      try simp only [Act.put, List.setIfInBounds_toArray, List.set_cons_zero, List.set_cons_succ, List.getElem_toArray, List.getElem_cons_succ, List.getElem_cons_zero]
      refine wpAnyH_ready (rs := [2]) (by kernel_rfl) (by simp) ?_
      refine AllReadyH.cons rfl (fun K hK => ?_) AllReadyH.nil
      go_simp
      go_wp2_with fail; refine (unhide HU _ ((unhide HO).drew)).mono ?_; rintro e x1 ⟨rfl, y1⟩; have Q1 : Hid (Only (fun _ => False) w2 x1) := ((Only.refl (fun _ => False) w2).drew).trans y1 (fun _ _ e => e); clear y1
      refine hK.out _ _ ((unhide Q1)) (fun hHeld => ?_)
      clear hK K
      try simp only [Act.put, List.setIfInBounds_toArray, List.set_cons_zero, List.set_cons_succ, List.getElem_toArray, List.getElem_cons_succ, List.getElem_cons_zero]
      refine wpAnyH_take (i := 3) (v := ?v26) rfl (by kernel_rfl) (by kernel_rfl) (by kernel_rfl) (fun _ _ _ h => h) (Or.inl ⟨by rfl, ?hy26⟩) (by assumption) ?rest26
      case hy26 =>
        intro w hSw
        go_simp
        try with_reducible rfl
      try simp only [Act.put, List.setIfInBounds_toArray, List.set_cons_zero, List.set_cons_succ, List.getElem_toArray, List.getElem_cons_succ, List.getElem_cons_zero]
      refine wpAnyH_take (i := 4) (v := ?v27) rfl (by kernel_rfl) (by kernel_rfl) (by kernel_rfl) (fun _ _ _ h => h) (Or.inl ⟨by rfl, ?hy27⟩) (by assumption) ?rest27
      case hy27 =>
        intro w hSw
        go_simp
        try with_reducible rfl
      try simp only [Act.put, List.setIfInBounds_toArray, List.set_cons_zero, List.set_cons_succ, List.getElem_toArray, List.getElem_cons_succ, List.getElem_cons_zero]
      refine wpAnyH_take (i := 5) (v := undef) rfl (by kernel_rfl) (by kernel_rfl) (by kernel_rfl) (fun _ _ _ h => h) (Or.inr ⟨by rfl, rfl⟩) (by assumption) ?_
      try simp only [Act.put, List.setIfInBounds_toArray, List.set_cons_zero, List.set_cons_succ, List.getElem_toArray, List.getElem_cons_succ, List.getElem_cons_zero]
      refine wpAnyH_take (i := 6) (v := undef) rfl (by kernel_rfl) (by kernel_rfl) (by kernel_rfl) (fun _ _ _ h => h) (Or.inr ⟨by rfl, rfl⟩) (by assumption) ?_
      try simp only [Act.put, List.setIfInBounds_toArray, List.set_cons_zero, List.set_cons_succ, List.getElem_toArray, List.getElem_cons_succ, List.getElem_cons_zero]
      refine wpAnyH_take (i := 7) (v := undef) rfl (by kernel_rfl) (by kernel_rfl) (by kernel_rfl) (fun _ _ _ h => h) (Or.inr ⟨by rfl, rfl⟩) (by assumption) ?_
      try simp only [Act.put, List.setIfInBounds_toArray, List.set_cons_zero, List.set_cons_succ, List.getElem_toArray, List.getElem_cons_succ, List.getElem_cons_zero]
      refine wpAnyH_take (i := 8) (v := undef) rfl (by kernel_rfl) (by kernel_rfl) (by kernel_rfl) (fun _ _ _ h => h) (Or.inr ⟨by rfl, rfl⟩) (by assumption) ?_
      try simp only [Act.put, List.setIfInBounds_toArray, List.set_cons_zero, List.set_cons_succ, List.getElem_toArray, List.getElem_cons_succ, List.getElem_cons_zero]
      refine wpAnyH_take (i := 9) (v := undef) rfl (by kernel_rfl) (by kernel_rfl) (by kernel_rfl) (fun _ _ _ h => h) (Or.inr ⟨by rfl, rfl⟩) (by assumption) ?_
      try simp only [Act.put, List.setIfInBounds_toArray, List.set_cons_zero, List.set_cons_succ, List.getElem_toArray, List.getElem_cons_succ, List.getElem_cons_zero]
      refine wpAnyH_take (i := 10) (v := ?v28) rfl (by kernel_rfl) (by kernel_rfl) (by kernel_rfl) (fun _ _ _ h => h) (Or.inl ⟨by rfl, ?hy28⟩) (by assumption) ?rest28
      case hy28 =>
        intro w hSw
        go_simp
        try with_reducible rfl
      try simp only [Act.put, List.setIfInBounds_toArray, List.set_cons_zero, List.set_cons_succ, List.getElem_toArray, List.getElem_cons_succ, List.getElem_cons_zero]
      refine wpAnyH_done (by kernel_rfl) ?_ _
      go_wp2
      go_ret
      exact ⟨by rw [unhide HE2]; first | done | rfl, (unhide HO).trans (unhide Q1) (fun _ _ e => e)⟩
    | true =>
      rw [hi] at HST HU
      cases hc : memB y (xs.take k) with
      | true =>
        rw [hc] at HST HF
        have HE2 : Hid (listB custB most xs = false) := by show _ = _; rw [unhide HE, unhide HST]; rfl
        clear hi hc HST
        go_wp2_with fail
        refine wp_region_held_drew (S := (fun w' => Only (fun _ => False) w2 w')) (by kernel_rfl) ((Only.refl _ _).drew) (fun hHeld => ?_)
        refine wpAnyH_take (i := 0) (v := ?v29) rfl (by kernel_rfl) (by kernel_rfl) (by kernel_rfl) (fun _ _ _ h => h) (Or.inl ⟨by rfl, ?hy29⟩) (by assumption) ?rest29
        case hy29 =>
          intro w hSw
          go_simp
          try with_reducible rfl
        try simp only [Act.put, List.setIfInBounds_toArray, List.set_cons_zero, List.set_cons_succ, List.getElem_toArray, List.getElem_cons_succ, List.getElem_cons_zero]
        refine wpAnyH_take (i := 1) (v := ?v30) rfl (by kernel_rfl) (by kernel_rfl) (by kernel_rfl) (fun _ _ _ h => h) (Or.inl ⟨by rfl, ?hy30⟩) (by assumption) ?rest30
        case hy30 =>
          intro w hSw
          (have q0 := hSw.cell d0 (fun e => e); have q1 := hSw.cell d1 (fun e => e); go_simp; try with_reducible rfl)
        try simp only [Act.put, List.setIfInBounds_toArray, List.set_cons_zero, List.set_cons_succ, List.getElem_toArray, List.getElem_cons_succ, List.getElem_cons_zero]
        refine wpAnyH_ready (rs := [2]) (by kernel_rfl) (by simp) ?_
        refine AllReadyH.cons rfl (fun K hK => ?_) AllReadyH.nil
        go_simp
        go_wp2_with fail; refine (unhide HU _ ((unhide HO).drew)).mono ?_; rintro e x1 ⟨rfl, y1⟩; have Q1 : Hid (Only (fun _ => False) w2 x1) := ((Only.refl (fun _ => False) w2).drew).trans y1 (fun _ _ e => e); clear y1
        refine hK.out _ _ ((unhide Q1)) (fun hHeld => ?_)
        clear hK K
        try simp only [Act.put, List.setIfInBounds_toArray, List.set_cons_zero, List.set_cons_succ, List.getElem_toArray, List.getElem_cons_succ, List.getElem_cons_zero]
        refine wpAnyH_take (i := 3) (v := ?v31) rfl (by kernel_rfl) (by kernel_rfl) (by kernel_rfl) (fun _ _ _ h => h) (Or.inl ⟨by rfl, ?hy31⟩) (by assumption) ?rest31
        case hy31 =>
          intro w hSw
          go_simp
          try with_reducible rfl
        try simp only [Act.put, List.setIfInBounds_toArray, List.set_cons_zero, List.set_cons_succ, List.getElem_toArray, List.getElem_cons_succ, List.getElem_cons_zero]
        refine wpAnyH_take (i := 4) (v := ?v32) rfl (by kernel_rfl) (by kernel_rfl) (by kernel_rfl) (fun _ _ _ h => h) (Or.inl ⟨by rfl, ?hy32⟩) (by assumption) ?rest32
        case hy32 =>
          intro w hSw
          go_simp
          try with_reducible rfl
        try simp only [Act.put, List.setIfInBounds_toArray, List.set_cons_zero, List.set_cons_succ, List.getElem_toArray, List.getElem_cons_succ, List.getElem_cons_zero]
        refine wpAnyH_take (i := 5) (v := ?v33) rfl (by kernel_rfl) (by kernel_rfl) (by kernel_rfl) (fun _ _ _ h => h) (Or.inl ⟨by rfl, ?hy33⟩) (by assumption) ?rest33
        case hy33 =>
          intro w hSw
          go_simp
          try with_reducible rfl
        try simp only [Act.put, List.setIfInBounds_toArray, List.set_cons_zero, List.set_cons_succ, List.getElem_toArray, List.getElem_cons_succ, List.getElem_cons_zero]
        refine wpAnyH_take (i := 6) (v := ?v34) rfl (by kernel_rfl) (by kernel_rfl) (by kernel_rfl) (fun _ _ _ h => h) (Or.inl ⟨by rfl, ?hy34⟩) (by assumption) ?rest34
        case hy34 =>
          intro w hSw
          go_simp
          try with_reducible rfl
        try simp only [Act.put, List.setIfInBounds_toArray, List.set_cons_zero, List.set_cons_succ, List.getElem_toArray, List.getElem_cons_succ, List.getElem_cons_zero]
        refine wpAnyH_take (i := 7) (v := ?v35) rfl (by kernel_rfl) (by kernel_rfl) (by kernel_rfl) (fun _ _ _ h => h) (Or.inl ⟨by rfl, ?hy35⟩) (by assumption) ?rest35
        case hy35 =>
          intro w hSw
          go_simp
          try with_reducible rfl
        try simp only [Act.put, List.setIfInBounds_toArray, List.set_cons_zero, List.set_cons_succ, List.getElem_toArray, List.getElem_cons_succ, List.getElem_cons_zero]
        refine wpAnyH_take (i := 8) (v := ?v36) rfl (by kernel_rfl) (by kernel_rfl) (by kernel_rfl) (fun _ _ _ h => h) (Or.inl ⟨by rfl, ?hy36⟩) (by assumption) ?rest36
        case hy36 =>
          intro w hSw
          (have q0 := hSw.cell d0 (fun e => e); have q1 := hSw.cell d1 (fun e => e); go_simp; try with_reducible rfl)
        try simp only [Act.put, List.setIfInBounds_toArray, List.set_cons_zero, List.set_cons_succ, List.getElem_toArray, List.getElem_cons_succ, List.getElem_cons_zero]
        refine wpAnyH_ready (rs := [9]) (by kernel_rfl) (by simp) ?_
        refine AllReadyH.cons rfl (fun K hK => ?_) AllReadyH.nil
        go_simp
        go_wp2_with fail; refine (unhide HF _ ((unhide HO).trans (unhide Q1) (fun _ _ e => e))).mono ?_; rintro e x2 ⟨rfl, y2⟩; have Q2 : Hid (Only (fun _ => False) w2 x2) := (unhide Q1).trans y2 (fun _ _ e => e); clear y2
        refine hK.out _ _ ((unhide Q2)) (fun hHeld => ?_)
        clear hK K
        try simp only [Act.put, List.setIfInBounds_toArray, List.set_cons_zero, List.set_cons_succ, List.getElem_toArray, List.getElem_cons_succ, List.getElem_cons_zero]
        refine wpAnyH_take (i := 10) (v := ?v37) rfl (by kernel_rfl) (by kernel_rfl) (by kernel_rfl) (fun _ _ _ h => h) (Or.inl ⟨by rfl, ?hy37⟩) (by assumption) ?rest37
        case hy37 =>
          intro w hSw
          go_simp
          try with_reducible rfl
        try simp only [Act.put, List.setIfInBounds_toArray, List.set_cons_zero, List.set_cons_succ, List.getElem_toArray, List.getElem_cons_succ, List.getElem_cons_zero]
        refine wpAnyH_done (by kernel_rfl) ?_ _
        go_wp2
        go_ret
        exact ⟨by rw [unhide HE2]; first | done | rfl, (unhide HO).trans (unhide Q2) (fun _ _ e => e)⟩
      | false =>
        rw [hc] at HST HF
        have HE2 : Hid (eachB custB [] xs = eachB custB (xs.take (k + 1)) (xs.drop (k + 1))) := by show _ = _; rw [unhide HST]; rfl
        clear hi hc HST
        go_wp2_with fail
        refine wp_region_held_drew (S := (fun w' => Only (fun _ => False) w2 w')) (by kernel_rfl) ((Only.refl _ _).drew) (fun hHeld => ?_)
        refine wpAnyH_take (i := 0) (v := ?v38) rfl (by kernel_rfl) (by kernel_rfl) (by kernel_rfl) (fun _ _ _ h => h) (Or.inl ⟨by rfl, ?hy38⟩) (by assumption) ?rest38
        case hy38 =>
          intro w hSw
          go_simp
          try with_reducible rfl
        try simp only [Act.put, List.setIfInBounds_toArray, List.set_cons_zero, List.set_cons_succ, List.getElem_toArray, List.getElem_cons_succ, List.getElem_cons_zero]
        refine wpAnyH_take (i := 1) (v := ?v39) rfl (by kernel_rfl) (by kernel_rfl) (by kernel_rfl) (fun _ _ _ h => h) (Or.inl ⟨by rfl, ?hy39⟩) (by assumption) ?rest39
        case hy39 =>
          intro w hSw
          (have q0 := hSw.cell d0 (fun e => e); have q1 := hSw.cell d1 (fun e => e); go_simp; try with_reducible rfl)
        try simp only [Act.put, List.setIfInBounds_toArray, List.set_cons_zero, List.set_cons_succ, List.getElem_toArray, List.getElem_cons_succ, List.getElem_cons_zero]
        refine wpAnyH_ready (rs := [2]) (by kernel_rfl) (by simp) ?_
        refine AllReadyH.cons rfl (fun K hK => ?_) AllReadyH.nil
        go_simp
        go_wp2_with fail; refine (unhide HU _ ((unhide HO).drew)).mono ?_; rintro e x1 ⟨rfl, y1⟩; have Q1 : Hid (Only (fun _ => False) w2 x1) := ((Only.refl (fun _ => False) w2).drew).trans y1 (fun _ _ e => e); clear y1
        refine hK.out _ _ ((unhide Q1)) (fun hHeld => ?_)
        clear hK K
        try simp only [Act.put, List.setIfInBounds_toArray, List.set_cons_zero, List.set_cons_succ, List.getElem_toArray, List.getElem_cons_succ, List.getElem_cons_zero]
        refine wpAnyH_take (i := 3) (v := ?v40) rfl (by kernel_rfl) (by kernel_rfl) (by kernel_rfl) (fun _ _ _ h => h) (Or.inl ⟨by rfl, ?hy40⟩) (by assumption) ?rest40
        case hy40 =>
          intro w hSw
          go_simp
          try with_reducible rfl
        try simp only [Act.put, List.setIfInBounds_toArray, List.set_cons_zero, List.set_cons_succ, List.getElem_toArray, List.getElem_cons_succ, List.getElem_cons_zero]
        refine wpAnyH_take (i := 4) (v := ?v41) rfl (by kernel_rfl) (by kernel_rfl) (by kernel_rfl) (fun _ _ _ h => h) (Or.inl ⟨by rfl, ?hy41⟩) (by assumption) ?rest41
        case hy41 =>
          intro w hSw
          go_simp
          try with_reducible rfl
        try simp only [Act.put, List.setIfInBounds_toArray, List.set_cons_zero, List.set_cons_succ, List.getElem_toArray, List.getElem_cons_succ, List.getElem_cons_zero]
        refine wpAnyH_take (i := 5) (v := ?v42) rfl (by kernel_rfl) (by kernel_rfl) (by kernel_rfl) (fun _ _ _ h => h) (Or.inl ⟨by rfl, ?hy42⟩) (by assumption) ?rest42
        case hy42 =>
          intro w hSw
          go_simp
          try with_reducible rfl
        try simp only [Act.put, List.setIfInBounds_toArray, List.set_cons_zero, List.set_cons_succ, List.getElem_toArray, List.getElem_cons_succ, List.getElem_cons_zero]
        refine wpAnyH_take (i := 6) (v := ?v43) rfl (by kernel_rfl) (by kernel_rfl) (by kernel_rfl) (fun _ _ _ h => h) (Or.inl ⟨by rfl, ?hy43⟩) (by assumption) ?rest43
        case hy43 =>
          intro w hSw
          go_simp
          try with_reducible rfl
        try simp only [Act.put, List.setIfInBounds_toArray, List.set_cons_zero, List.set_cons_succ, List.getElem_toArray, List.getElem_cons_succ, List.getElem_cons_zero]
        refine wpAnyH_take (i := 7) (v := ?v44) rfl (by kernel_rfl) (by kernel_rfl) (by kernel_rfl) (fun _ _ _ h => h) (Or.inl ⟨by rfl, ?hy44⟩) (by assumption) ?rest44
        case hy44 =>
          intro w hSw
          go_simp
          try with_reducible rfl
        try simp only [Act.put, List.setIfInBounds_toArray, List.set_cons_zero, List.set_cons_succ, List.getElem_toArray, List.getElem_cons_succ, List.getElem_cons_zero]
        refine wpAnyH_take (i := 8) (v := ?v45) rfl (by kernel_rfl) (by kernel_rfl) (by kernel_rfl) (fun _ _ _ h => h) (Or.inl ⟨by rfl, ?hy45⟩) (by assumption) ?rest45
        case hy45 =>
          intro w hSw
          (have q0 := hSw.cell d0 (fun e => e); have q1 := hSw.cell d1 (fun e => e); go_simp; try with_reducible rfl)
        try simp only [Act.put, List.setIfInBounds_toArray, List.set_cons_zero, List.set_cons_succ, List.getElem_toArray, List.getElem_cons_succ, List.getElem_cons_zero]
        refine wpAnyH_ready (rs := [9]) (by kernel_rfl) (by simp) ?_
        refine AllReadyH.cons rfl (fun K hK => ?_) AllReadyH.nil
        go_simp
        go_wp2_with fail; refine (unhide HF _ ((unhide HO).trans (unhide Q1) (fun _ _ e => e))).mono ?_; rintro e x2 ⟨rfl, y2⟩; have Q2 : Hid (Only (fun _ => False) w2 x2) := (unhide Q1).trans y2 (fun _ _ e => e); clear y2
        refine hK.out _ _ ((unhide Q2)) (fun hHeld => ?_)
        clear hK K
        try simp only [Act.put, List.setIfInBounds_toArray, List.set_cons_zero, List.set_cons_succ, List.getElem_toArray, List.getElem_cons_succ, List.getElem_cons_zero]
        refine wpAnyH_take (i := 10) (v := ?v46) rfl (by kernel_rfl) (by kernel_rfl) (by kernel_rfl) (fun _ _ _ h => h) (Or.inl ⟨by rfl, ?hy46⟩) (by assumption) ?rest46
        case hy46 =>
          intro w hSw
          go_simp
          try with_reducible rfl
        try simp only [Act.put, List.setIfInBounds_toArray, List.set_cons_zero, List.set_cons_succ, List.getElem_toArray, List.getElem_cons_succ, List.getElem_cons_zero]
        refine wpAnyH_done (by kernel_rfl) ?_ _
        go_wp2
        go_roundw
        case rel => exact ⟨k + 1, by omega, by go_num, HE2, (unhide HO).trans (unhide Q2) (fun _ _ e => e)⟩
        case measure => simp [intOf]; omega
end Ob
end Go.Proofs.YtlcnckmbimmpjaaDoor
