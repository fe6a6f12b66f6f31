/-
  object: lists of parts that are laid.
-/
import Derived.Test.YtlcnckmbimmpjaaDoorObW1
namespace Go.Proofs.YtlcnckmbimmpjaaDoor
open Go.RowKit
set_option linter.unusedSimpArgs false
set_option linter.unusedVariables false
namespace Ob

theorem flat_take {α : Type} (l : α → List UInt8) (xs : List α) (k : Nat) (x : α) (hx : xs[k]? = some x) : (xs.take (k + 1)).flatMap l = (xs.take k).flatMap l ++ l x := by
  obtain ⟨hk, he⟩ := List.getElem?_eq_some_iff.1 hx
  rw [List.take_succ_eq_append_getElem hk, List.flatMap_append, he]
  simp
theorem flat_le {α : Type} (l : α → List UInt8) (B : Nat) (xs : List α) (h : ∀ x ∈ xs, (l x).length ≤ B) (k : Nat) : ((xs.take k).flatMap l).length ≤ xs.length * B := by
  induction xs generalizing k with
  | nil => simp
  | cons x r ih =>
    cases k with
    | zero => simp
    | succ k =>
      have h1 := h x (by simp)
      have h2 := ih (fun y hy => h y (by simp [hy])) k
      rw [List.take_succ_cons, List.flatMap_cons, List.length_append, List.length_cons, Nat.add_mul, Nat.one_mul]
      omega

set_option maxRecDepth 100000 in
set_option maxHeartbeats 1000000 in
theorem all_s (b : Nat) (v : Value) (bs : List UInt8) (xs : List (List UInt8)) (xv : Value) (w : World) (h : WrAt OW w b v bs) (hx : HasF w xv 1 scells xs) (hsep : xs ≠ [] → ∀ k, blk xv = some k → k ≠ b ∧ v.ownBlock ≠ some k) (hl : xs.length ≤ 200) (hs : ∀ x ∈ xs, x.length ≤ 200) (hr : bs.length + 200000 ≤ 140737488355328) :
    Calls Tryd.prog 60 #[wv b, xv, .func (.func 55) #[wv b] #[]] w (Puts w b v bs (allL textL xs)) := by
  obtain ⟨ao, cap, rfl, hlc, hm⟩ := hx.shape
  obtain ⟨n, hn⟩ : ∃ n, n = xs.length := ⟨_, rfl⟩
  have HAL : Hid (allL textL xs = b1 n ++ xs.flatMap textL) := by show _ = _; rw [hn]; rfl
  rw [← hn] at hx hlc hl ⊢
  have HN := hide hn
  obtain ⟨w1, k1, e1, ek1, hb1, o1, hs1⟩ := boxed w #[.pointer (some ⟨b, 0, none⟩)] 60
  have p0 := hb1.cell 0 _ rfl
  have W1 := hide (wrote_same h o1)
  have H1 := hide (WO.u8_any b v bs n w1 (unhide W1).now (by omega))
  have hk1 : w.heap.size ≤ k1 := by omega
  have HX := hide hx
  have HSEP := hide hsep
  have HS := hide hs
  have HR := hide hr
  have HL := hide hl
  have HH := hide h
  have HLE : Hid (∀ k, ((xs.take k).flatMap textL).length ≤ xs.length * 405) := flat_le textL 405 xs (fun x hx => by
    have h1 := hs x hx
    unfold textL; rw [List.length_append, be_length]; omega)
  have hnz : (n : Int) ≤ 200 := by omega
  clear hn hx hlc hb1 o1 hs1 hs hr hsep h
  unfold wv
  go_enter Tryd.func60, Tryd.ntmps60
  go_upto_region 1 with fail
  rw [← e1, ← ek1]
  clear e1 ek1
  go_wp2_with fail
  refine (unhide H1).mono ?_
  rintro e x1 ⟨rfl, v1, q1⟩
  have Q1 := hide ((unhide W1).trans q1)
  clear q1 p0 H1 W1
  go_wp2
  go_loopw [15] (fun i wr => ∃ k : Nat, k ≤ n ∧ i = .int .i64 k ∧ Hid (∃ v2, Wrote OW w b v wr v2 (bs ++ (b1 n ++ (xs.take k).flatMap textL)))) (fun i _ => n - (intOf i).toNat)
  case atStart => exact ⟨0, Nat.zero_le _, rfl, ⟨v1, by rw [List.take_zero, List.flatMap_nil, List.append_nil]; exact unhide Q1⟩⟩
  case round =>
    rename World => wr
    obtain ⟨k, hk, rfl, hq0⟩ := hrel
    obtain ⟨v2, hq1⟩ := unhide hq0
    have hq := hide hq1
    clear hq0 hq1
    by_cases hlt : k < n
    case neg =>
      obtain rfl : k = n := by omega
      go_wp2
      go_end0
      refine ⟨rfl, v2, ?_⟩
      have := unhide hq
      rw [List.take_of_length_le (by have := unhide HN; omega)] at this
      rw [unhide HAL]
      exact this
    case pos =>
    have hku : k < xs.length := by have := unhide HN; omega
    obtain ⟨bb, o, rfl, hb, hat⟩ := (unhide HX).at (by omega)
    obtain ⟨x, hy⟩ : ∃ x, x = xs[k] := ⟨_, rfl⟩
    have hy2 : xs[k]? = some x := by rw [List.getElem?_eq_getElem hku, hy]
    have r := hat k x hy2
    have hsp := unhide HSEP (by intro e; rw [e] at hku; simp at hku) bb rfl
    have hoo : Only (fun _ => False) w w := Only.refl _ _
    have r : wr.rangeAt bb (o + k * 1) (scells x) := rangeAt_only r (unhide hq).only (fun e => e.elim hsp.1 hsp.2)
    have hoo : Only (fun _ => False) wr wr := Only.refl _ _
    have hx0 := unhide HS x (by rw [hy]; exact List.getElem_mem hku)
    have HF : Hid ((xs.take (k + 1)).flatMap textL = (xs.take k).flatMap textL ++ textL x) := flat_take textL xs k x hy2
    have hle := unhide HLE k
    have hr1 := unhide HR
    have hn1 := unhide HN
    have hl1 := unhide HL
    have hbl : (b1 n).length = 1 := by unfold b1; rw [be_length]
    have hbd : (bs ++ (b1 n ++ (xs.take k).flatMap textL)).length + 450 ≤ 140737488355328 := by
      rw [List.length_append, List.length_append, hbl]
      have : xs.length * 405 ≤ 200 * 405 := Nat.mul_le_mul_right _ (by omega)
      omega
    have c0 := hoo.cell (r 0 (.string (str x)) rfl) (fun e => e)
    rw [Nat.mul_one, Nat.add_zero] at c0
    have HC := hide (wtext_any b v2 _ x wr (unhide hq).now (by omega) (by omega))
    have hkz : (k : Int) < (n : Int) := by omega
    clear r hat hy2 hy hb hoo hx0 hle hr1 hn1 hl1 hbd hbl hsp
    unfold wv at HC
    go_wp2_with fail
    refine (unhide HC).mono ?_
    rintro e x2 ⟨rfl, v3, q3⟩
    have Q3 := hide ((unhide hq).trans q3)
    clear q3
    go_wp2
    go_roundw
    case rel =>
      refine ⟨k + 1, by omega, by go_num, v3, ?_⟩
      have := unhide Q3
      rw [unhide HF, ← List.append_assoc (b1 n), ← List.append_assoc bs]
      exact this
    case measure => simp [intOf]; omega

set_option maxRecDepth 100000 in
set_option maxHeartbeats 1000000 in
theorem all_k (b : Nat) (v : Value) (bs : List UInt8) (xs : List (Int × List UInt8)) (xv : Value) (w : World) (h : WrAt OW w b v bs) (hx : HasF w xv 2 kcells xs) (hsep : xs ≠ [] → ∀ k, blk xv = some k → k ≠ b ∧ v.ownBlock ≠ some k) (hl : xs.length ≤ 200) (hs : ∀ x ∈ xs, x.2.length ≤ 200) (hr : bs.length + 200000 ≤ 140737488355328) :
    Calls Tryd.prog 61 #[wv b, xv, .func (.func 62) #[wv b] #[]] w (Puts w b v bs (allL linkL xs)) := by
  obtain ⟨ao, cap, rfl, hlc, hm⟩ := hx.shape
  obtain ⟨n, hn⟩ : ∃ n, n = xs.length := ⟨_, rfl⟩
  have HAL : Hid (allL linkL xs = b1 n ++ xs.flatMap linkL) := by show _ = _; rw [hn]; rfl
  rw [← hn] at hx hlc hl ⊢
  have HN := hide hn
  obtain ⟨w1, k1, e1, ek1, hb1, o1, hs1⟩ := boxed w #[.pointer (some ⟨b, 0, none⟩)] 60
  have p0 := hb1.cell 0 _ rfl
  have W1 := hide (wrote_same h o1)
  have H1 := hide (WO.u8_any b v bs n w1 (unhide W1).now (by omega))
  have hk1 : w.heap.size ≤ k1 := by omega
  have HX := hide hx
  have HSEP := hide hsep
  have HS := hide hs
  have HR := hide hr
  have HL := hide hl
  have HH := hide h
  have HLE : Hid (∀ k, ((xs.take k).flatMap linkL).length ≤ xs.length * 405) := flat_le linkL 405 xs (fun x hx => by
    have h1 := hs x hx
    unfold linkL b1 textL; rw [List.length_append, List.length_append, be_length, be_length]; omega)
  have hnz : (n : Int) ≤ 200 := by omega
  clear hn hx hlc hb1 o1 hs1 hs hr hsep h
  unfold wv
  go_enter Tryd.func61, Tryd.ntmps61
  go_upto_region 1 with fail
  rw [← e1, ← ek1]
  clear e1 ek1
  go_wp2_with fail
  refine (unhide H1).mono ?_
  rintro e x1 ⟨rfl, v1, q1⟩
  have Q1 := hide ((unhide W1).trans q1)
  clear q1 p0 H1 W1
  go_wp2
  go_loopw [15] (fun i wr => ∃ k : Nat, k ≤ n ∧ i = .int .i64 k ∧ Hid (∃ v2, Wrote OW w b v wr v2 (bs ++ (b1 n ++ (xs.take k).flatMap linkL)))) (fun i _ => n - (intOf i).toNat)
  case atStart => exact ⟨0, Nat.zero_le _, rfl, ⟨v1, by rw [List.take_zero, List.flatMap_nil, List.append_nil]; exact unhide Q1⟩⟩
  case round =>
    rename World => wr
    obtain ⟨k, hk, rfl, hq0⟩ := hrel
    obtain ⟨v2, hq1⟩ := unhide hq0
    have hq := hide hq1
    clear hq0 hq1
    by_cases hlt : k < n
    case neg =>
      obtain rfl : k = n := by omega
      go_wp2
      go_end0
      refine ⟨rfl, v2, ?_⟩
      have := unhide hq
      rw [List.take_of_length_le (by have := unhide HN; omega)] at this
      rw [unhide HAL]
      exact this
    case pos =>
    have hku : k < xs.length := by have := unhide HN; omega
    obtain ⟨bb, o, rfl, hb, hat⟩ := (unhide HX).at (by omega)
    obtain ⟨x, hy⟩ : ∃ x, x = xs[k] := ⟨_, rfl⟩
    have hy2 : xs[k]? = some x := by rw [List.getElem?_eq_getElem hku, hy]
    have r := hat k x hy2
    have hsp := unhide HSEP (by intro e; rw [e] at hku; simp at hku) bb rfl
    have hoo : Only (fun _ => False) w w := Only.refl _ _
    have r : wr.rangeAt bb (o + k * 2) (kcells x) := rangeAt_only r (unhide hq).only (fun e => e.elim hsp.1 hsp.2)
    have hoo : Only (fun _ => False) wr wr := Only.refl _ _
    have hx0 := unhide HS x (by rw [hy]; exact List.getElem_mem hku)
    have HF : Hid ((xs.take (k + 1)).flatMap linkL = (xs.take k).flatMap linkL ++ linkL x) := flat_take linkL xs k x hy2
    have hle := unhide HLE k
    have hr1 := unhide HR
    have hn1 := unhide HN
    have hl1 := unhide HL
    have hbl : (b1 n).length = 1 := by unfold b1; rw [be_length]
    have hbd : (bs ++ (b1 n ++ (xs.take k).flatMap linkL)).length + 450 ≤ 140737488355328 := by
      rw [List.length_append, List.length_append, hbl]
      have : xs.length * 405 ≤ 200 * 405 := Nat.mul_le_mul_right _ (by omega)
      omega
    have c0 := hoo.cell (r 0 (.int .i64 x.1) rfl) (fun e => e)
    have c1 := hoo.cell (r 1 (.string (str x.2)) rfl) (fun e => e)
    rw [Nat.add_zero] at c0
    obtain ⟨wz, bz, ez, ebz, hz, oz, hsz⟩ := boxed wr #[.int .i64 x.1, .string (str x.2)] 51
    have z0 := hz.cell 0 (.int .i64 x.1) rfl
    have z1 := hz.cell 1 (.string (str x.2)) rfl
    have HWZ := hide (wrote_same (unhide hq).now oz)
    have HC := hide (wlink_any b v2 _ x wz (unhide HWZ).now (by omega) (by omega))
    have hkz : (k : Int) < (n : Int) := by omega
    clear r hat hy2 hy hb hoo hx0 hle hr1 hn1 hl1 hbd hbl hsp
    unfold wv at HC
    go_upto_region 5 with fail
    rw [← ez, ← ebz]
    clear ez ebz hz oz hsz c0 c1
    go_wp2_with fail
    refine (unhide HC).mono ?_
    rintro e x2 ⟨rfl, v3, q3⟩
    have Q3 := hide ((unhide hq).trans ((unhide HWZ).trans q3))
    clear q3
    go_wp2
    go_roundw
    case rel =>
      refine ⟨k + 1, by omega, by go_num, v3, ?_⟩
      have := unhide Q3
      rw [unhide HF, ← List.append_assoc (b1 n), ← List.append_assoc bs]
      exact this
    case measure => simp [intOf]; omega

set_option maxRecDepth 100000 in
set_option maxHeartbeats 1000000 in
theorem all_c (b : Nat) (v : Value) (bs : List UInt8) (xs : List (List UInt8 × List UInt8)) (xv : Value) (w : World) (h : WrAt OW w b v bs) (hx : HasF w xv 2 ccells xs) (hsep : xs ≠ [] → ∀ k, blk xv = some k → k ≠ b ∧ v.ownBlock ≠ some k) (hl : xs.length ≤ 200) (hs : ∀ x ∈ xs, x.1.length ≤ 200 ∧ x.2.length ≤ 200) (hr : bs.length + 200000 ≤ 140737488355328) :
    Calls Tryd.prog 63 #[wv b, xv, .func (.func 64) #[wv b] #[]] w (Puts w b v bs (allL custL xs)) := by
  obtain ⟨ao, cap, rfl, hlc, hm⟩ := hx.shape
  obtain ⟨n, hn⟩ : ∃ n, n = xs.length := ⟨_, rfl⟩
  have HAL : Hid (allL custL xs = b1 n ++ xs.flatMap custL) := by show _ = _; rw [hn]; rfl
  rw [← hn] at hx hlc hl ⊢
  have HN := hide hn
  obtain ⟨w1, k1, e1, ek1, hb1, o1, hs1⟩ := boxed w #[.pointer (some ⟨b, 0, none⟩)] 60
  have p0 := hb1.cell 0 _ rfl
  have W1 := hide (wrote_same h o1)
  have H1 := hide (WO.u8_any b v bs n w1 (unhide W1).now (by omega))
  have hk1 : w.heap.size ≤ k1 := by omega
  have HX := hide hx
  have HSEP := hide hsep
  have HS := hide hs
  have HR := hide hr
  have HL := hide hl
  have HH := hide h
  have HLE : Hid (∀ k, ((xs.take k).flatMap custL).length ≤ xs.length * 405) := flat_le custL 405 xs (fun x hx => by
    have h1 := hs x hx
    unfold custL textL; rw [List.length_append, List.length_append, List.length_append, be_length, be_length]; omega)
  have hnz : (n : Int) ≤ 200 := by omega
  clear hn hx hlc hb1 o1 hs1 hs hr hsep h
  unfold wv
  go_enter Tryd.func63, Tryd.ntmps63
  go_upto_region 1 with fail
  rw [← e1, ← ek1]
  clear e1 ek1
  go_wp2_with fail
  refine (unhide H1).mono ?_
  rintro e x1 ⟨rfl, v1, q1⟩
  have Q1 := hide ((unhide W1).trans q1)
  clear q1 p0 H1 W1
  go_wp2
  go_loopw [15] (fun i wr => ∃ k : Nat, k ≤ n ∧ i = .int .i64 k ∧ Hid (∃ v2, Wrote OW w b v wr v2 (bs ++ (b1 n ++ (xs.take k).flatMap custL)))) (fun i _ => n - (intOf i).toNat)
  case atStart => exact ⟨0, Nat.zero_le _, rfl, ⟨v1, by rw [List.take_zero, List.flatMap_nil, List.append_nil]; exact unhide Q1⟩⟩
  case round =>
    rename World => wr
    obtain ⟨k, hk, rfl, hq0⟩ := hrel
    obtain ⟨v2, hq1⟩ := unhide hq0
    have hq := hide hq1
    clear hq0 hq1
    by_cases hlt : k < n
    case neg =>
      obtain rfl : k = n := by omega
      go_wp2
      go_end0
      refine ⟨rfl, v2, ?_⟩
      have := unhide hq
      rw [List.take_of_length_le (by have := unhide HN; omega)] at this
      rw [unhide HAL]
      exact this
    case pos =>
    have hku : k < xs.length := by have := unhide HN; omega
    obtain ⟨bb, o, rfl, hb, hat⟩ := (unhide HX).at (by omega)
    obtain ⟨x, hy⟩ : ∃ x, x = xs[k] := ⟨_, rfl⟩
    have hy2 : xs[k]? = some x := by rw [List.getElem?_eq_getElem hku, hy]
    have r := hat k x hy2
    have hsp := unhide HSEP (by intro e; rw [e] at hku; simp at hku) bb rfl
    have hoo : Only (fun _ => False) w w := Only.refl _ _
    have r : wr.rangeAt bb (o + k * 2) (ccells x) := rangeAt_only r (unhide hq).only (fun e => e.elim hsp.1 hsp.2)
    have hoo : Only (fun _ => False) wr wr := Only.refl _ _
    have hx0 := unhide HS x (by rw [hy]; exact List.getElem_mem hku)
    have HF : Hid ((xs.take (k + 1)).flatMap custL = (xs.take k).flatMap custL ++ custL x) := flat_take custL xs k x hy2
    have hle := unhide HLE k
    have hr1 := unhide HR
    have hn1 := unhide HN
    have hl1 := unhide HL
    have hbl : (b1 n).length = 1 := by unfold b1; rw [be_length]
    have hbd : (bs ++ (b1 n ++ (xs.take k).flatMap custL)).length + 450 ≤ 140737488355328 := by
      rw [List.length_append, List.length_append, hbl]
      have : xs.length * 405 ≤ 200 * 405 := Nat.mul_le_mul_right _ (by omega)
      omega
    have c0 := hoo.cell (r 0 (.string (str x.1)) rfl) (fun e => e)
    have c1 := hoo.cell (r 1 (.string (str x.2)) rfl) (fun e => e)
    rw [Nat.add_zero] at c0
    obtain ⟨wz, bz, ez, ebz, hz, oz, hsz⟩ := boxed wr #[.string (str x.1), .string (str x.2)] 53
    have z0 := hz.cell 0 (.string (str x.1)) rfl
    have z1 := hz.cell 1 (.string (str x.2)) rfl
    have HWZ := hide (wrote_same (unhide hq).now oz)
    have HC := hide (wcustom_any b v2 _ x wz (unhide HWZ).now ⟨by omega, by omega⟩ (by omega))
    have hkz : (k : Int) < (n : Int) := by omega
    clear r hat hy2 hy hb hoo hx0 hle hr1 hn1 hl1 hbd hbl hsp
    unfold wv at HC
    go_upto_region 5 with fail
    rw [← ez, ← ebz]
    clear ez ebz hz oz hsz c0 c1
    go_wp2_with fail
    refine (unhide HC).mono ?_
    rintro e x2 ⟨rfl, v3, q3⟩
    have Q3 := hide ((unhide hq).trans ((unhide HWZ).trans q3))
    clear q3
    go_wp2
    go_roundw
    case rel =>
      refine ⟨k + 1, by omega, by go_num, v3, ?_⟩
      have := unhide Q3
      rw [unhide HF, ← List.append_assoc (b1 n), ← List.append_assoc bs]
      exact this
    case measure => simp [intOf]; omega
end Ob
end Go.Proofs.YtlcnckmbimmpjaaDoor
