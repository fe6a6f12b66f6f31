/-
  slices.Concat of three lists of rounds.
-/
import Derived.Test.YtdmcnblnoiahcaaAeCat
namespace Go.Proofs.Ytdmcnblnoiahcaa
open Go.RowKit
set_option linter.unusedSimpArgs false
set_option linter.unusedVariables false
namespace Ae

theorem Try.underRoundss : Try.prog.underlying 95 = some (.slice 65) := by kernel_rfl

def tot (ls : List (List Value)) (k : Nat) : Nat := (ls.take k).flatten.length
theorem tot_succ (ls : List (List Value)) (k : Nat) (l : List Value) (h : ls[k]? = some l) : tot ls (k + 1) = tot ls k + l.length := by
  unfold tot
  rw [List.take_add_one, h]
  simp
theorem tot_le (ls : List (List Value)) (k : Nat) : tot ls k ≤ ls.flatten.length := by
  unfold tot
  conv => rhs; rw [← List.take_append_drop k ls]
  rw [List.flatten_append, List.length_append]
  omega
theorem flat_succ (ls : List (List Value)) (k : Nat) (l : List Value) (h : ls[k]? = some l) : (ls.take (k + 1)).flatten = (ls.take k).flatten ++ l := by
  rw [List.take_add_one, h]
  simp

theorem HasV.new {w w' : World} {v : Value} {vs : List Value} (h : HasV w v vs) (o : Only (fun _ => False) w w') : HasV w' v vs := h.only o (fun _ _ _ e => e)

set_option maxRecDepth 100000 in
set_option maxHeartbeats 1000000 in
theorem concat_any (sb : Nat) (vs : List Value) (ls : List (List Value)) (n : Nat) (w : World) (hn : n ≤ 100) (HG : Hid (GrowAs n)) (hlen : vs.length = 3) (hll : ls.length = 3) (htot : ls.flatten.length = n)
    (hc : ∀ k, k < 3 → ∃ ao ln cap l, ls[k]? = some l ∧ ln = l.length ∧ w.cell? ⟨sb, k, none⟩ = some (.slice ao ln cap) ∧ HasV w (.slice ao ln cap) l ∧ ∀ u ∈ l, u.oneCell' = true) :
    Calls Try.prog 38 #[.slice (some ⟨sb, 0, none⟩) 3 3] w fun e w' => ∃ v, e = .returned v ∧
      w'.ownsRow w.heap.size 68 1 v n ls.flatten ∧ Only (fun _ => False) w w' := by
  have HC := hide hc
  have HT := hide htot
  clear hc htot
  go_enter Try.func38, Try.ntmps38
  go_wp2
  go_loop [3, 5, 11] (fun s _ i => ∃ k : Nat, k ≤ 3 ∧ i = .int .i64 k ∧ s = .int .i64 (tot ls k)) (fun _ _ i => 3 - (intOf i).toNat)
  case atStart => exact ⟨0, Nat.zero_le _, rfl, rfl⟩
  case round =>
    obtain ⟨k, hk, rfl, rfl⟩ := hrel
    by_cases hlt : k < 3
    · obtain ⟨ao, ln, cap, l, hl, hln, hcell, hv, h1⟩ := unhide HC k hlt
      have ht := tot_succ ls k l hl
      have hle := tot_le ls (k + 1)
      rw [unhide HT, ht, ← hln] at hle
      rw [← hln] at ht
      have hwr : IntKind.i64.wrap ((tot ls k : Int) + (ln : Int)) = ((tot ls k + ln : Nat) : Int) := by rw [wrap_small _ (by omega) (by omega)]; omega
      have HT1 := hide ht
      clear ht hl hln hv h1
      generalize tot ls k = t at *
      have hk3 : (k : Int) < 3 := by omega
      go_wp2
      go_round
      case rel => exact ⟨k + 1, by omega, by go_num, by rw [unhide HT1]; first | rfl | go_num⟩
      case measure => simp [intOf]; omega
    · obtain rfl : k = 3 := by omega
      have ht3 : tot ls 3 = n := by unfold tot; rw [List.take_of_length_le (by omega)]; exact unhide HT
      rw [ht3]
      clear ht3
      go_wp2_with fail
      refine (unhide HG _).mono ?_
      rintro e w1 ⟨v, rfl, hown, ho⟩
      have HOWN := hide hown
      have HO := hide ho
      clear hown ho
      go_wp2
      go_loopw [6, 8, 27] (fun s _ i wr => ∃ k : Nat, k ≤ 3 ∧ i = .int .i64 k ∧ Hid (wr.ownsRow w.heap.size 68 1 s (tot ls k) (ls.take k).flatten) ∧ Hid (Only (fun _ => False) w wr)) (fun _ _ i _ => 3 - (intOf i).toNat)
      case atStart => exact ⟨0, Nat.zero_le _, rfl, HOWN, HO⟩
      case round =>
        obtain ⟨k, hk, rfl, hown, hor⟩ := hrel
        by_cases hlt : k < 3
        · obtain ⟨ao, ln, cap, l, hl, hln, hcell, hv, h1⟩ := unhide HC k hlt
          subst hln
          have hcell2 := (unhide hor).cell hcell (fun e => e)
          have HV := hide (HasV.new hv (unhide hor))
          have hle := tot_le ls (k + 1)
          rw [unhide HT, tot_succ ls k l hl] at hle
          have HS : Hid (tot ls (k + 1) = tot ls k + l.length) := tot_succ ls k l hl
          have HF : Hid ((ls.take (k + 1)).flatten = (ls.take k).flatten ++ l) := flat_succ ls k l hl
          have H1 := hide h1
          have hm : tot ls k + l.length ≤ maxLen := by unfold maxLen; omega
          have h63 : (tot ls k + l.length) * 8 ≤ 140737488355328 := by omega
          have hbase : w.heap.size ≤ wr.heap.size := (unhide hor).size
          have HLE := hide hle
          clear hv hcell hl h1 hle
          obtain ⟨i0, hi, hz0, hz1, hz2⟩ := info_parts Try.infoRound
          have hk3 : (k : Int) < 3 := by omega
          generalize tot ls k = t at *
          go_wp2_with (refine wpList_append_hasV rfl (.tmp 31) (.tmp 32) 65 rfl w.heap.size 68 i0 Value.nilFunc 8 Try.underRounds hi hz0 hz1 hz2 rfl _ t _ rfl (unhide hown) _ l rfl (unhide HV) (unhide H1) hm h63 hbase ?_; intro ao2 cap2 w2 own2 gr2 at2)
          go_roundw
          case rel =>
            refine ⟨k + 1, by omega, by go_num, ?_, ?_⟩
            · show _ ; rw [unhide HS, unhide HF]; exact own2
            · exact (unhide hor).grown gr2 (fun j hj hlt => by have := ((unhide hown).lt j hj).1; omega)
          case measure => simp [intOf]; omega
        · obtain rfl : k = 3 := by omega
          have h := unhide hown
          have ht3 : tot ls 3 = n := by unfold tot; rw [List.take_of_length_le (by omega)]; exact unhide HT
          rw [ht3, List.take_of_length_le (by omega)] at h
          have HH := hide h
          clear h ht3 hown
          go_wp2
          go_ret
          exact ⟨_, rfl, unhide HH, unhide hor⟩

end Ae
end Go.Proofs.Ytdmcnblnoiahcaa
