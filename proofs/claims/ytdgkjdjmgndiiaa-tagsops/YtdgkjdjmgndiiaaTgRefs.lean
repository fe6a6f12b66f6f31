/-
  the reference's Name, Tag, OpName, Ops: walks over its lists.
-/
import Derived.Test.YtdgkjdjmgndiiaaTgRef
import Derived.Test.YtdgkjdjmgndiiaaRowV
namespace Go.Proofs.Ytdgkjdjmgndiiaa
open Go.RowKit
set_option linter.unusedSimpArgs false
set_option linter.unusedVariables false
namespace Tg

theorem rname_any (n : Int) (w : World) : Calls Try.prog 7 #[.int .i64 n] w fun e w' => e = .returned (.string (str (look words n))) ∧ Only (fun _ => False) w w' := by
  go_enter Try.func7, Try.ntmps7
  go_wp2_with fail
  refine (words_any _).mono ?_
  rintro e w1 ⟨v, rfl, hw⟩
  have ho := hide hw.only
  obtain ⟨g, rfl, hc⟩ := hw.there
  have HC := hide hc
  clear hc hw
  have hlen : words.length = 59 := by decide +kernel
  rw [hlen]
  have HLEN := hide hlen
  clear hlen
  go_wp2
  go_loop [4] (fun i => ∃ k : Nat, k ≤ 59 ∧ i = .int .i64 k ∧ Hid (look (words.drop k) n = look words n)) (fun i => 59 - (intOf i).toNat)
  case atStart => exact ⟨0, Nat.zero_le _, rfl, rfl⟩
  case round =>
    obtain ⟨k, hk, rfl, HK⟩ := hrel
    by_cases hlt : k < 59
    · have hkl : k < words.length := by rw [unhide HLEN]; exact hlt
      obtain ⟨h0, h1⟩ := unhide HC k words[k] (List.getElem?_eq_getElem hkl)
      have hd := hide (List.drop_eq_getElem_cons hkl)
      rcases hp : words[k] with ⟨t, s⟩
      rw [hp] at h0 h1
      have HP := hide hp
      clear hp
      simp only at h0 h1
      by_cases he : (t : Int) = n
      · have heb : ((t : Int) == n) = true := by simp [he]
        have hs : Hid (s = look words n) := by
          rw [← unhide HK, unhide hd]
          unfold look
          rw [unhide HP, if_pos he.symm]
          rfl
        clear he
        go_wp2
        go_ret
        rw [unhide hs]
        exact ⟨rfl, unhide ho⟩
      · have heb : ((t : Int) == n) = false := by simp [he]
        have hs : Hid (look (words.drop (k + 1)) n = look words n) := by
          rw [← unhide HK, unhide hd]
          rw [unhide HP]
          show _ = if n = (t : Int) then s else look _ n
          rw [if_neg (fun e => he e.symm)]
        clear he
        go_wp2
        go_round
        case rel => exact ⟨k + 1, by omega, by go_num, hs⟩
        case measure => simp [intOf]; omega
    · obtain rfl : k = 59 := by omega
      have hs : look words n = [] := by
        rw [← unhide HK, List.drop_of_length_le (by rw [unhide HLEN]; exact Nat.le_refl _)]
        rfl
      go_wp2
      go_ret
      exact ⟨rfl, unhide ho⟩

theorem ropName_any (n : Int) (w : World) : Calls Try.prog 16 #[.int .i64 n] w fun e w' => e = .returned (.string (str (look ops n))) ∧ Only (fun _ => False) w w' := by
  go_enter Try.func16, Try.ntmps16
  go_wp2_with fail
  refine (ops_any _).mono ?_
  rintro e w1 ⟨v, rfl, hw⟩
  have ho := hide hw.only
  obtain ⟨g, rfl, hc⟩ := hw.there
  have HC := hide hc
  clear hc hw
  have hlen : ops.length = 24 := by decide +kernel
  rw [hlen]
  have HLEN := hide hlen
  clear hlen
  go_wp2
  go_loop [4] (fun i => ∃ k : Nat, k ≤ 24 ∧ i = .int .i64 k ∧ Hid (look (ops.drop k) n = look ops n)) (fun i => 24 - (intOf i).toNat)
  case atStart => exact ⟨0, Nat.zero_le _, rfl, rfl⟩
  case round =>
    obtain ⟨k, hk, rfl, HK⟩ := hrel
    by_cases hlt : k < 24
    · have hkl : k < ops.length := by rw [unhide HLEN]; exact hlt
      obtain ⟨h0, h1⟩ := unhide HC k ops[k] (List.getElem?_eq_getElem hkl)
      have hd := hide (List.drop_eq_getElem_cons hkl)
      rcases hp : ops[k] with ⟨t, s⟩
      rw [hp] at h0 h1
      have HP := hide hp
      clear hp
      simp only at h0 h1
      by_cases he : (t : Int) = n
      · have heb : ((t : Int) == n) = true := by simp [he]
        have hs : Hid (s = look ops n) := by
          rw [← unhide HK, unhide hd]
          unfold look
          rw [unhide HP, if_pos he.symm]
          rfl
        clear he
        go_wp2
        go_ret
        rw [unhide hs]
        exact ⟨rfl, unhide ho⟩
      · have heb : ((t : Int) == n) = false := by simp [he]
        have hs : Hid (look (ops.drop (k + 1)) n = look ops n) := by
          rw [← unhide HK, unhide hd]
          rw [unhide HP]
          show _ = if n = (t : Int) then s else look _ n
          rw [if_neg (fun e => he e.symm)]
        clear he
        go_wp2
        go_round
        case rel => exact ⟨k + 1, by omega, by go_num, hs⟩
        case measure => simp [intOf]; omega
    · obtain rfl : k = 24 := by omega
      have hs : look ops n = [] := by
        rw [← unhide HK, List.drop_of_length_le (by rw [unhide HLEN]; exact Nat.le_refl _)]
        rfl
      go_wp2
      go_ret
      exact ⟨rfl, unhide ho⟩

/-- what a Tag answers -/
def tagR : Option Nat → Value
  | some t => .tuple #[.int .i64 t, .bool true]
  | none => .tuple #[.int .i64 0, .bool false]

theorem rtag_any (xs : List UInt8) (w : World) : Calls Try.prog 14 #[.string (str xs)] w fun e w' => e = .returned (tagR (find words xs)) ∧ Only (fun _ => False) w w' := by
  go_enter Try.func14, Try.ntmps14
  go_wp2_with fail
  refine (words_any _).mono ?_
  rintro e w1 ⟨v, rfl, hw⟩
  have ho := hide hw.only
  obtain ⟨g, rfl, hc⟩ := hw.there
  have HC := hide hc
  clear hc hw
  have hlen : words.length = 59 := by decide +kernel
  rw [hlen]
  have HLEN := hide hlen
  clear hlen
  go_wp2
  go_loop [5] (fun i => ∃ k : Nat, k ≤ 59 ∧ i = .int .i64 k ∧ Hid (find (words.drop k) xs = find words xs)) (fun i => 59 - (intOf i).toNat)
  case atStart => exact ⟨0, Nat.zero_le _, rfl, rfl⟩
  case round =>
    obtain ⟨k, hk, rfl, HK⟩ := hrel
    by_cases hlt : k < 59
    · have hkl : k < words.length := by rw [unhide HLEN]; exact hlt
      obtain ⟨h0, h1⟩ := unhide HC k words[k] (List.getElem?_eq_getElem hkl)
      have hd := hide (List.drop_eq_getElem_cons hkl)
      rcases hp : words[k] with ⟨t, s⟩
      rw [hp] at h0 h1
      have HP := hide hp
      clear hp
      simp only at h0 h1
      by_cases he : s = xs
      · have heb : ((str s).toList == (str xs).toList) = true := by rw [str_beq]; simp [he]
        have hs : Hid (find words xs = some t) := by
          rw [← unhide HK, unhide hd]
          show find (words[k] :: _) xs = some t
          rw [unhide HP]
          unfold find
          rw [if_pos he]
        clear he
        go_wp2
        go_ret2
        rw [unhide hs]
        exact ⟨rfl, unhide ho⟩
      · have heb : ((str s).toList == (str xs).toList) = false := by rw [str_beq]; simp [he]
        have hs : Hid (find (words.drop (k + 1)) xs = find words xs) := by
          rw [← unhide HK, unhide hd]
          show _ = find (words[k] :: _) xs
          rw [unhide HP]
          show _ = if s = xs then some t else find _ xs
          rw [if_neg he]
        clear he
        go_wp2
        go_round
        case rel => exact ⟨k + 1, by omega, by go_num, hs⟩
        case measure => simp [intOf]; omega
    · obtain rfl : k = 59 := by omega
      have hs : find words xs = none := by
        rw [← unhide HK, List.drop_of_length_le (by rw [unhide HLEN]; exact Nat.le_refl _)]
        rfl
      go_wp2
      go_ret2
      exact ⟨rfl, unhide ho⟩

/-- the operations below a number -/
def below (m : Nat) : List Nat := (ops.map (·.1)).filter (· < m)
theorem below_one : below 1 = [] := by decide +kernel
theorem below_all : below 37 = ops.map (·.1) := by decide +kernel
theorem below_step : ∀ m, m < 37 → below (m + 1) = if look ops m = [] then below m else below m ++ [m] := by decide +kernel
theorem below_len : ∀ m, m < 38 → (below m).length ≤ 24 := by decide +kernel

/-- numbers as they lie in memory -/
def nv (n : Nat) : Value := .int .i64 n

theorem Try.info3 : (Try.prog.info? 3).map (fun i => (i.zero, i.size, i.bytes)) = some (some (.int .i64 0), 1, 8) := by kernel_rfl

theorem rops_any (w : World) : Calls Try.prog 10 #[] w fun e w' => ∃ v, e = .returned v ∧ w'.ownsRow w.heap.size 3 1 v 24 ((ops.map (·.1)).map nv) ∧ Only (fun _ => False) w w' := by
  obtain ⟨i0, hi, heq⟩ := Option.map_eq_some_iff.1 Try.info3
  simp only [Prod.mk.injEq] at heq
  obtain ⟨hz0, hz1, hz2⟩ := heq
  go_enter Try.func10, Try.ntmps10
  go_wp2_with fail
  refine (ops_any _).mono ?_
  rintro e w1 ⟨v, rfl, hw⟩
  have ho := hide hw.only
  obtain ⟨g, rfl, hc⟩ := hw.there
  have HC := hide hc
  clear hc hw
  have hlen : ops.length = 24 := by decide +kernel
  rw [hlen]
  have HLEN := hide hlen
  clear hlen
  have HML : Hid ((ops.map (·.1)).length = 24) := by rw [List.length_map]; exact unhide HLEN
  go_wp2
  go_loopw [1, 3] (fun v i wr => ∃ k : Nat, k ≤ 24 ∧ i = .int .i64 k ∧ wr.ownsRow w1.heap.size 3 1 v k (((ops.map (·.1)).take k).map nv) ∧ Only (fun _ => False) w1 wr) (fun _ i _ => 24 - (intOf i).toNat)
  case atStart => exact ⟨0, Nat.zero_le _, rfl, World.ownsRow_nil _ _ _ _, Only.refl _ _⟩
  case round =>
    obtain ⟨k, hk, rfl, hown, o1⟩ := hrel
    obtain ⟨ao, cap, rfl⟩ := ownsRow_shape hown
    have HO := hide hown
    have hb0 := hide (fun q (hq : Value.ownBlock (.slice ao k cap) = some q) => (hown.lt q hq))
    clear hown
    by_cases hlt : k < 24
    · have hkl : k < ops.length := by rw [unhide HLEN]; exact hlt
      obtain ⟨h0, h1⟩ := unhide HC k ops[k] (List.getElem?_eq_getElem hkl)
      have h0 := o1.cell h0 (fun e => e)
      clear h1
      obtain ⟨t, ht⟩ : ∃ t, t = ops[k].1 := ⟨_, rfl⟩
      rw [← ht] at h0
      have HT : Hid ((ops.map (·.1)).take (k + 1) = (ops.map (·.1)).take k ++ [t]) := by
        show (ops.map (·.1)).take (k + 1) = _
        rw [List.take_add_one, List.getElem?_map, List.getElem?_eq_getElem hkl, ht]
        rfl
      clear ht
      go_wp2_with (at_builtin; refine wpList_append_hasV rfl (.tmp 11) (.tmp 17) 25 rfl w1.heap.size 3 i0 _ 8 Try.underlying25 hi hz0 hz1 hz2 rfl _ k _ rfl (((Only.refl (fun _ => False) _).alloc _).owns (unhide HO) (fun _ _ e => e)) _ [nv t] rfl (hasV_lit (heap_alloc_new _ _) (by simp [maxLen])) (by simp [nv]; rfl) (by unfold maxLen; simp; omega) (by simp; omega) (o1.alloc _).size ?_; intro ao2 cap2 w2 own2 gr2 at2; have o2 : Only (fun _ => False) w1 w2 := (o1.alloc _).grown gr2 (fun q hq hl => by have := unhide hb0 q hq; omega))
      go_roundw
      case rel => exact ⟨k + 1, by omega, by go_num, by rw [unhide HT, List.map_append]; exact own2, o2⟩
      case measure => simp [intOf]; omega
    · obtain rfl : k = 24 := by omega
      go_wp2
      go_ret
      refine ⟨_, rfl, ?_, (unhide ho).trans o1 (fun _ _ e => e)⟩
      have := unhide HO
      rw [List.take_of_length_le (by rw [unhide HML]; exact Nat.le_refl _)] at this
      exact ownsRow_base this (unhide ho).size

end Tg
end Go.Proofs.Ytdgkjdjmgndiiaa
