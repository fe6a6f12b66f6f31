/-
  slices.Grow, slices.Concat of bytes; bytes.Equal, HasSuffix, Clone.
-/
import Derived.Test.YtbhidmeobeecmaaMdRep
import Derived.Test.YtbhidmeobeecmaaStr
import Derived.Test.YtbhidmeobeecmaaTtZero
namespace Go.Proofs.Ytbhidmeobeecmaa
open Go.RowKit
set_option linter.unusedSimpArgs false
set_option linter.unusedVariables false
namespace Md

theorem grown_owns (w : World) (n : Nat) (hn : n ≤ 140737488355328) : (w.alloc (.cells (Builtin.zeroCells #[Value.int .u8 0] n ++ Builtin.zeroCells #[Value.int .u8 0] (grownCap w n 0 5 - n)) 5)).drew.ownsRow w.heap.size 5 1 (.slice (some ⟨w.heap.size, 0, none⟩) 0 (grownCap w n 0 5)) 0 [] := by
  have hge := grownCap_ge w n 0 5
  refine ⟨by simp, Or.inr ⟨w.heap.size, _, _, rfl, Nat.le_refl _, heap_alloc_new w _, Nat.zero_le _, grownCap_le_maxLen w n 0 _ (by unfold maxLen; omega), ?_, by simp⟩⟩
  rw [Array.size_append, size_zeroCells, size_zeroCells]
  show n * 1 + (grownCap w n 0 5 - n) * 1 = _
  omega

set_option maxRecDepth 100000 in
set_option maxHeartbeats 1000000 in
theorem growB_any (n : Nat) (h0 : 0 < n) (hn : n ≤ 140737488355328) (w : World) : Calls Try.prog 57 #[.slice none 0 0, .int .i64 (n : Int)] w fun e w' => ∃ v, e = .returned v ∧ w'.ownsRow w.heap.size 5 1 v 0 [] ∧ Only (fun _ => False) w w' := by
  obtain ⟨i, hi, hz, hsize, hby⟩ := info_parts Try.info5
  have hnc : Builtin.nextslicecap n 0 = n := by unfold Builtin.nextslicecap; rw [if_pos (by omega)]
  have h48' : ¬ (281474976710656 < n) := by omega
  have hge : (n : Int) ≤ ((grownCap w n 0 5 : Nat) : Int) := by have := grownCap_ge w n 0 5; omega
  have hown := hide (grown_owns w n hn)
  have hn0 : n ≠ 0 := by omega
  have hn63 : (n : Int) ≤ 140737488355328 := by omega
  have hnp : (0 : Int) < (n : Int) := by omega
  have hgp : ¬ (281474976710656 < Builtin.nextslicecap n 0 * Try.t5.bytes) := by rw [hnc, show Try.t5.bytes = 1 from rfl]; omega
  have hmk : ¬ (281474976710656 < (n : Int) * (Try.t5.bytes : Int)) := by rw [show Try.t5.bytes = 1 from rfl]; omega
  go_enter Try.func57, Try.ntmps57
  go_wp2
  go_ret
  exact ⟨_, rfl, unhide hown, ((Only.refl _ w).alloc _).drew⟩

theorem bequal_any (xv yv : Value) (xs ys : List UInt8) (w : World) (hx : Has w xv xs) (hy : Has w yv ys) : Calls Try.prog 55 #[xv, yv] w fun e w' => e = .returned (.bool (decide (xs = ys))) ∧ w' = w := by
  obtain ⟨xa, xc, hxs, _⟩ := hx.shape
  obtain ⟨ya, yc, hys, _⟩ := hy.shape
  subst hxs
  subst hys
  have h1 := str_conv hx
  have h2 := str_conv hy
  have HB := hide (str_beq xs ys)
  generalize str xs = X at *
  generalize str ys = Y at *
  generalize xs.length = xl at *
  generalize ys.length = yl at *
  clear hx hy
  go_enter Try.func55, Try.ntmps55
  go_wp2
  go_ret
  rw [← unhide HB]
  exact ⟨rfl, rfl⟩

/-- does it end so? -/
def endsB (us vs : List UInt8) : Bool := decide (vs.length ≤ us.length) && decide (us.drop (us.length - vs.length) = vs)

set_option maxRecDepth 100000 in
set_option maxHeartbeats 1000000 in
theorem suffix_any (xv yv : Value) (us vs : List UInt8) (w : World) (hx : Has w xv us) (hy : Has w yv vs) (h0 : 0 < vs.length) : Calls Try.prog 34 #[xv, yv] w fun e w' => e = .returned (.bool (endsB us vs)) ∧ w' = w := by
  obtain ⟨xa, xc, hxs, hlc, hm⟩ := hx.shape
  obtain ⟨ya, yc, hys, _⟩ := hy.shape
  subst hxs
  subst hys
  have hlm : us.length ≤ 9223372036854775807 := by unfold maxLen at hm; omega
  by_cases hle : vs.length ≤ us.length
  · have hE : endsB us vs = decide (us.drop (us.length - vs.length) = vs) := by unfold endsB; simp [hle]
    rw [hE]
    have hb := hx.back (n := us.length - vs.length) (by omega)
    have hEq := bequal_any _ _ _ vs w hb hy
    rw [show us.length - (us.length - vs.length) = vs.length by omega] at hEq
    have HEq := hide hEq
    clear hEq
    have hne : ¬ xc = us.length - vs.length := by omega
    have hne2 : ¬ us.length - vs.length = xc := by omega
    have hle' : (vs.length : Int) ≤ (us.length : Int) := by omega
    have hsub : (us.length : Int) - (vs.length : Int) = ((us.length - vs.length : Nat) : Int) := by omega
    have hlc' : ((us.length - vs.length : Nat) : Int) ≤ (us.length : Int) := by omega
    have hds : us.length - (us.length - vs.length) = vs.length := by omega
    clear hb hx hy hE
    go_enter Try.func34, Try.ntmps34
    go_wp2_with fail
    refine (unhide HEq).mono ?_
    rintro e w1 ⟨rfl, rfl⟩
    go_wp2
    go_ret
    exact ⟨rfl, rfl⟩
  · have hE : endsB us vs = false := by unfold endsB; simp [hle]
    rw [hE]
    have hle' : ¬ (vs.length : Int) ≤ (us.length : Int) := by omega
    have hle2 : (us.length : Int) < (vs.length : Int) := by omega
    clear hx hy hE
    go_enter Try.func34, Try.ntmps34
    go_wp2_with fail
    go_ret
    exact ⟨rfl, rfl⟩

set_option maxRecDepth 100000 in
set_option maxHeartbeats 1000000 in
/-- bytes cloned: the same bytes in a new block -/
theorem bclone_any (xv : Value) (us : List UInt8) (w : World) (hx : Has w xv us) (hl : us.length ≤ 140737488355328) :
    Calls Try.prog 36 #[xv] w fun e w' => ∃ u, e = .returned u ∧ Owns w.heap.size w' u us ∧ Only (fun _ => False) w w' := by
  obtain ⟨i0, hi, hz0, hz1, hz2⟩ := info_parts Try.info5
  rcases hx with ⟨rfl, rfl⟩ | ⟨a, cap, rfl, hrest⟩
  · have hnil : ∀ W, (binOp .eql 22 (.slice none 0 0) (.slice none 0 0)).run Try.prog W = .ok (.bool true) W := fun W => by kernel_rfl
    go_enter Try.func36, Try.ntmps36
    go_wp2
    go_ret
    exact ⟨_, rfl, World.ownsRow_nil _ _ _ _, Only.refl _ _⟩
  · have hx : Has w (.slice (some a) us.length cap) us := Or.inr ⟨a, cap, rfl, hrest⟩
    have hown : (w.alloc (.cells #[] 5)).ownsRow w.heap.size 5 1 (.slice (some ⟨w.heap.size, 0, none⟩) 0 0) 0 [] := World.ownsRow_lit w #[] 0 (Nat.le_refl _) (Nat.zero_le _) rfl
    have HX := hide (hx.only ((Only.refl (fun _ => False) w).alloc (.cells #[] 5)) (fun _ _ _ h => h))
    clear hrest hx
    have hnil : ∀ W, (binOp .eql 22 (.slice (some a) us.length cap) (.slice none 0 0)).run Try.prog W = .ok (.bool false) W := fun W => by kernel_rfl
    go_enter Try.func36, Try.ntmps36
    go_wp2_with (at_builtin; refine wpList_append_has rfl (.tmp 5) (.tmp 6) 22 rfl w.heap.size 5 i0 Try.underlying22 hi hz0 hz1 hz2 _ 0 [] rfl hown _ us rfl (unhide HX) (by omega) (by simp) ?_; intro ao2 cap2 w2 own2 gr2 at2)
    go_ret
    refine ⟨_, rfl, ?_, ((Only.refl _ _).alloc _).grown gr2 (fun k hk hl => by have hk2 : some w.heap.size = some k := hk; simp at hk2; omega)⟩
    unfold Owns
    simpa using own2

def tot (ls : List (List UInt8)) (k : Nat) : Nat := (ls.take k).flatten.length
theorem tot_succ (ls : List (List UInt8)) (k : Nat) (l : List UInt8) (h : ls[k]? = some l) : tot ls (k + 1) = tot ls k + l.length := by
  unfold tot
  rw [List.take_add_one, h]
  simp
theorem tot_le (ls : List (List UInt8)) (k : Nat) : tot ls k ≤ ls.flatten.length := by
  unfold tot
  conv => rhs; rw [← List.take_append_drop k ls]
  rw [List.flatten_append, List.length_append]
  omega
theorem flat_succ (ls : List (List UInt8)) (k : Nat) (l : List UInt8) (h : ls[k]? = some l) : (ls.take (k + 1)).flatten = (ls.take k).flatten ++ l := by
  rw [List.take_add_one, h]
  simp

set_option maxRecDepth 100000 in
set_option maxHeartbeats 1000000 in
theorem concatB_any (sb : Nat) (ls : List (List UInt8)) (n : Nat) (w : World) (hn0 : 0 < n) (hn : n ≤ 140737488355328) (hll : ls.length = 2) (htot : ls.flatten.length = n)
    (hc : ∀ k, k < 2 → ∃ ao ln cap l, ls[k]? = some l ∧ ln = l.length ∧ w.cell? ⟨sb, k, none⟩ = some (.slice ao ln cap) ∧ Has w (.slice ao ln cap) l) :
    Calls Try.prog 37 #[.slice (some ⟨sb, 0, none⟩) 2 2] w fun e w' => ∃ v, e = .returned v ∧ Owns w.heap.size w' v ls.flatten ∧ Only (fun _ => False) w w' := by
  have HC := hide hc
  have HT := hide htot
  have HG : Hid (∀ w : World, Calls Try.prog 57 #[.slice none 0 0, .int .i64 (n : Int)] w fun e w' => ∃ v, e = .returned v ∧ w'.ownsRow w.heap.size 5 1 v 0 [] ∧ Only (fun _ => False) w w') := fun w => growB_any n hn0 hn w
  clear hc htot
  go_enter Try.func37, Try.ntmps37
  go_wp2
  go_loop [3, 5, 11] (fun s _ i => ∃ k : Nat, k ≤ 2 ∧ i = .int .i64 k ∧ s = .int .i64 (tot ls k)) (fun _ _ i => 2 - (intOf i).toNat)
  case atStart => exact ⟨0, Nat.zero_le _, rfl, rfl⟩
  case round =>
    obtain ⟨k, hk, rfl, rfl⟩ := hrel
    by_cases hlt : k < 2
    · obtain ⟨ao, ln, cap, l, hl, hln, hcell, hv⟩ := unhide HC k hlt
      have ht := tot_succ ls k l hl
      have hle := tot_le ls (k + 1)
      rw [unhide HT, ht, ← hln] at hle
      rw [← hln] at ht
      have hwr : IntKind.i64.wrap ((tot ls k : Int) + (ln : Int)) = ((tot ls k + ln : Nat) : Int) := by rw [wrap_small _ (by omega) (by omega)]; omega
      have HT1 := hide ht
      clear ht hl hln hv
      generalize tot ls k = t at *
      have hk3 : (k : Int) < 2 := by omega
      go_wp2
      go_round
      case rel => exact ⟨k + 1, by omega, by go_num, by rw [unhide HT1]; first | rfl | go_num⟩
      case measure => simp [intOf]; omega
    · obtain rfl : k = 2 := by omega
      have ht3 : tot ls 2 = n := by unfold tot; rw [List.take_of_length_le (by omega)]; exact unhide HT
      rw [ht3]
      clear ht3
      go_wp2_with fail
      refine (unhide HG _).mono ?_
      rintro e w1 ⟨v, rfl, hown, ho⟩
      have HOWN := hide hown
      have HO := hide ho
      clear hown ho
      go_wp2
      go_loopw [6, 8, 27] (fun s _ i wr => ∃ k : Nat, k ≤ 2 ∧ i = .int .i64 k ∧ Hid (wr.ownsRow w.heap.size 5 1 s (tot ls k) ((ls.take k).flatten.map bv)) ∧ Hid (Only (fun _ => False) w wr)) (fun _ _ i _ => 2 - (intOf i).toNat)
      case atStart => exact ⟨0, Nat.zero_le _, rfl, HOWN, HO⟩
      case round =>
        obtain ⟨k, hk, rfl, hown, hor⟩ := hrel
        by_cases hlt : k < 2
        · obtain ⟨ao, ln, cap, l, hl, hln, hcell, hv⟩ := unhide HC k hlt
          subst hln
          have hcell2 := (unhide hor).cell hcell (fun e => e)
          have HV := hide (hv.only (unhide hor) (fun _ _ _ e => e))
          have hle := tot_le ls (k + 1)
          rw [unhide HT, tot_succ ls k l hl] at hle
          have HS : Hid (tot ls (k + 1) = tot ls k + l.length) := tot_succ ls k l hl
          have HF : Hid ((ls.take (k + 1)).flatten = (ls.take k).flatten ++ l) := flat_succ ls k l hl
          have h63 : tot ls k + l.length ≤ 140737488355328 := by omega
          have hbase : w.heap.size ≤ wr.heap.size := (unhide hor).size
          have HLE := hide hle
          clear hv hcell hl hle
          obtain ⟨i0, hi, hz0, hz1, hz2⟩ := info_parts Try.info5
          have hk3 : (k : Int) < 2 := by omega
          generalize tot ls k = t at *
          go_wp2_with (at_builtin; refine wpList_append_has rfl (.tmp 31) (.tmp 32) 22 rfl w.heap.size 5 i0 Try.underlying22 hi hz0 hz1 hz2 _ t _ rfl (unhide hown) _ l rfl (unhide HV) h63 hbase ?_; intro ao2 cap2 w2 own2 gr2 at2)
          go_roundw
          case rel =>
            refine ⟨k + 1, by omega, by go_num, ?_, ?_⟩
            · show _ ; rw [unhide HS, unhide HF, List.map_append]; exact own2
            · exact (unhide hor).grown gr2 (fun j hj hlt => by have := ((unhide hown).lt j hj).1; omega)
          case measure => simp [intOf]; omega
        · obtain rfl : k = 2 := by omega
          have h := unhide hown
          have ht3 : tot ls 2 = n := by unfold tot; rw [List.take_of_length_le (by omega)]; exact unhide HT
          rw [ht3, List.take_of_length_le (by omega)] at h
          have HH := hide h
          clear h ht3 hown
          go_wp2
          go_ret
          refine ⟨_, rfl, ?_, unhide hor⟩
          unfold Owns
          rw [unhide HT]
          exact unhide HH

end Md
end Go.Proofs.Ytbhidmeobeecmaa
