/-
  The laws of chapter 7.
-/
import Derived.Test.YtdgkjdjmgndiiaaTgOps
import Derived.Test.YtdgkjdjmgndiiaaHandPick
import Derived.Deep.QuietTactic
import Derived.BigQuiet
namespace Go.Proofs.Ytdgkjdjmgndiiaa
open Go.RowKit
set_option linter.unusedSimpArgs false
set_option linter.unusedVariables false
namespace Tg

theorem Only.drewsT {S : Nat → Prop} {w : World} (n : Nat) : Only S w (w.drewN n) := ⟨rfl, rfl, rfl, Nat.le_refl _, fun _ _ _ => rfl⟩

theorem str_of (s : ByteArray) : ∃ xs, s = str xs := ⟨s.data.toList, by cases s; simp [str]⟩

theorem look_bc : look words 4325389 = [66, 97, 116, 99, 104, 67, 111, 117, 110, 116] := by decide +kernel
theorem look_loc : look ops 8 = [76, 111, 99, 97, 116, 101] := by decide +kernel

theorem known_any (w : World) : Calls Try.prog 12 #[] w fun e w' => e = .returned (.bool true) ∧ w' = w := by
  have h1 := look_bc
  have h2 := look_loc
  go_enter Try.func12, Try.ntmps12
  go_wp2_with fail
  refine (name_any _ _).mono ?_
  rintro e w1 ⟨rfl, rfl⟩
  rw [h1]
  have hq1 : ((str [66, 97, 116, 99, 104, 67, 111, 117, 110, 116]).toList == [66, 97, 116, 99, 104, 67, 111, 117, 110, 116]) = true := by rw [str_toList]; rfl
  go_wp2_with fail
  refine (opName_any _ _).mono ?_
  rintro e w1 ⟨rfl, rfl⟩
  rw [h2]
  have hq2 : ((str [76, 111, 99, 97, 116, 101]).toList == [76, 111, 99, 97, 116, 101]) = true := by rw [str_toList]; rfl
  go_wp2
  go_ret
  exact ⟨rfl, rfl⟩

theorem tagsOps_no (n : Int) (w : World) : Calls Try.prog 5 #[.int .i64 n, .bool false] w fun e w' => e = .returned (.bool true) ∧ Only (fun _ => False) w w' := by
  go_enter Try.func5, Try.ntmps5
  go_wp2_with fail
  refine (known_any _).mono ?_
  rintro e w1 ⟨rfl, rfl⟩
  go_wp2_with fail
  refine (opName_any _ _).mono ?_
  rintro e w2 ⟨rfl, rfl⟩
  go_wp2_with fail
  refine (ropName_any _ _).mono ?_
  rintro e w3 ⟨rfl, o3⟩
  go_wp2_with fail
  refine (offered_any _ _).mono ?_
  rintro e w4 ⟨rfl, rfl⟩
  go_wp2_with fail
  refine (ropName_any _ _).mono ?_
  rintro e w5 ⟨rfl, o5⟩
  go_wp2
  rw [str_toList, beq_self_eq_true]
  go_ret
  exact ⟨rfl, o3.trans o5 (fun _ _ h => h)⟩

theorem tagsOps_yes (n : Int) (w : World) : Calls Try.prog 5 #[.int .i64 n, .bool true] w fun e w' => e = .returned (.bool true) ∧ Only (fun _ => False) w w' := by
  go_enter Try.func5, Try.ntmps5
  go_wp2_with fail
  refine (pick_any n 50 _ (by omega) (by omega)).mono ?_
  rintro e w0 ⟨rfl, rfl⟩
  generalize n % 50 = n
  go_wp2_with fail
  refine (known_any _).mono ?_
  rintro e w1 ⟨rfl, rfl⟩
  go_wp2_with fail
  refine (opName_any _ _).mono ?_
  rintro e w2 ⟨rfl, rfl⟩
  go_wp2_with fail
  refine (ropName_any _ _).mono ?_
  rintro e w3 ⟨rfl, o3⟩
  go_wp2_with fail
  refine (offered_any _ _).mono ?_
  rintro e w4 ⟨rfl, rfl⟩
  go_wp2_with fail
  refine (ropName_any _ _).mono ?_
  rintro e w5 ⟨rfl, o5⟩
  go_wp2
  rw [str_toList, beq_self_eq_true]
  go_ret
  exact ⟨rfl, o3.trans o5 (fun _ _ h => h)⟩

theorem tagsNames_no (n : Int) (xs : List UInt8) (w : World) : Calls Try.prog 4 #[.int .i64 n, .string (str xs), .bool false] w fun e w' => e = .returned (.bool true) ∧ Only (fun _ => False) w w' := by
  obtain ⟨w2, rfl⟩ : ∃ w2, w2 = w := ⟨_, rfl⟩
  by_cases hx : xs = []
  · subst hx
    have hb2 : (str []).toList.isEmpty = true := by rw [str_toList]; rfl
    have hf : find words [] = none := by
      rcases h : find words [] with _ | t
      · rfl
      · exact absurd rfl (words_ne _ (find_some h))
    go_enter Try.func4, Try.ntmps4
    go_wp2_with fail
    refine (tag_nil _).mono ?_
    rintro e w3 ⟨rfl, rfl⟩
    simp only [tagR]
    go_wp2_with fail
    refine (rtag_any _ _).mono ?_
    rintro e w4 ⟨rfl, o4⟩
    rw [hf]
    simp only [tagR]
    go_wp2_with fail
    refine (known_any _).mono ?_
    rintro e w5 ⟨rfl, rfl⟩
    go_wp2_with fail
    refine (name_any _ _).mono ?_
    rintro e w6 ⟨rfl, rfl⟩
    go_wp2_with fail
    refine (rname_any _ _).mono ?_
    rintro e w7 ⟨rfl, o7⟩
    go_wp2
    go_ret
    exact ⟨rfl, o4.trans o7 (fun _ _ h => h)⟩
  · rcases hf : find words xs with _ | t
    · have hb2 : (str xs).toList.isEmpty = false := by rw [str_toList]; simp [hx]
      go_enter Try.func4, Try.ntmps4
      go_wp2_with fail
      refine (tag_any xs hx _).mono ?_
      rintro e w3 ⟨rfl, rfl⟩
      rw [hf]
      simp only [tagR]
      go_wp2_with fail
      refine (rtag_any _ _).mono ?_
      rintro e w4 ⟨rfl, o4⟩
      rw [hf]
      simp only [tagR]
      go_wp2_with fail
      refine (known_any _).mono ?_
      rintro e w5 ⟨rfl, rfl⟩
      go_wp2_with fail
      refine (name_any _ _).mono ?_
      rintro e w6 ⟨rfl, rfl⟩
      go_wp2_with fail
      refine (rname_any _ _).mono ?_
      rintro e w7 ⟨rfl, o7⟩
      go_wp2
      go_ret
      exact ⟨rfl, o4.trans o7 (fun _ _ h => h)⟩
    · have hb2 : (str xs).toList.isEmpty = false := by rw [str_toList]; simp [hx]
      go_enter Try.func4, Try.ntmps4
      go_wp2_with fail
      refine (tag_any xs hx _).mono ?_
      rintro e w3 ⟨rfl, rfl⟩
      rw [hf]
      simp only [tagR]
      go_wp2_with fail
      refine (rtag_any _ _).mono ?_
      rintro e w4 ⟨rfl, o4⟩
      rw [hf]
      simp only [tagR]
      go_wp2_with fail
      refine (known_any _).mono ?_
      rintro e w5 ⟨rfl, rfl⟩
      go_wp2_with fail
      refine (name_any _ _).mono ?_
      rintro e w6 ⟨rfl, rfl⟩
      go_wp2_with fail
      refine (rname_any _ _).mono ?_
      rintro e w7 ⟨rfl, o7⟩
      go_wp2
      go_ret
      exact ⟨rfl, o4.trans o7 (fun _ _ h => h)⟩

theorem tagsNames_yes (n : Int) (xs : List UInt8) (w : World) : Calls Try.prog 4 #[.int .i64 n, .string (str xs), .bool true] w fun e w' => e = .returned (.bool true) ∧ Only (fun _ => False) w w' := by
  go_enter Try.func4, Try.ntmps4
  go_wp2_with fail
  refine (pick_any n 256 _ (by omega) (by omega)).mono ?_
  rintro e w0 ⟨rfl, rfl⟩
  obtain ⟨m, hm, hm2⟩ : ∃ m : Nat, n % 256 = (m : Int) ∧ m < 256 := ⟨(n % 256).toNat, by omega, by omega⟩
  rw [hm]
  clear hm
  go_wp2_with fail
  refine (rname_any _ _).mono ?_
  rintro e w2 ⟨rfl, o2⟩
  generalize look words (4325376 + (m : Int)) = xs
  by_cases hx : xs = []
  · subst hx
    have hb2 : (str []).toList.isEmpty = true := by rw [str_toList]; rfl
    have hf : find words [] = none := by
      rcases h : find words [] with _ | t
      · rfl
      · exact absurd rfl (words_ne _ (find_some h))
    go_wp2_with fail
    refine (tag_nil _).mono ?_
    rintro e w3 ⟨rfl, rfl⟩
    simp only [tagR]
    go_wp2_with fail
    refine (rtag_any _ _).mono ?_
    rintro e w4 ⟨rfl, o4⟩
    rw [hf]
    simp only [tagR]
    go_wp2_with fail
    refine (known_any _).mono ?_
    rintro e w5 ⟨rfl, rfl⟩
    go_wp2_with fail
    refine (name_any _ _).mono ?_
    rintro e w6 ⟨rfl, rfl⟩
    go_wp2_with fail
    refine (rname_any _ _).mono ?_
    rintro e w7 ⟨rfl, o7⟩
    go_wp2
    go_ret
    exact ⟨rfl, (o2.trans o4 (fun _ _ h => h)).trans o7 (fun _ _ h => h)⟩
  · rcases hf : find words xs with _ | t
    · have hb2 : (str xs).toList.isEmpty = false := by rw [str_toList]; simp [hx]
      go_wp2_with fail
      refine (tag_any xs hx _).mono ?_
      rintro e w3 ⟨rfl, rfl⟩
      rw [hf]
      simp only [tagR]
      go_wp2_with fail
      refine (rtag_any _ _).mono ?_
      rintro e w4 ⟨rfl, o4⟩
      rw [hf]
      simp only [tagR]
      go_wp2_with fail
      refine (known_any _).mono ?_
      rintro e w5 ⟨rfl, rfl⟩
      go_wp2_with fail
      refine (name_any _ _).mono ?_
      rintro e w6 ⟨rfl, rfl⟩
      go_wp2_with fail
      refine (rname_any _ _).mono ?_
      rintro e w7 ⟨rfl, o7⟩
      go_wp2
      go_ret
      exact ⟨rfl, (o2.trans o4 (fun _ _ h => h)).trans o7 (fun _ _ h => h)⟩
    · have hb2 : (str xs).toList.isEmpty = false := by rw [str_toList]; simp [hx]
      go_wp2_with fail
      refine (tag_any xs hx _).mono ?_
      rintro e w3 ⟨rfl, rfl⟩
      rw [hf]
      simp only [tagR]
      go_wp2_with fail
      refine (rtag_any _ _).mono ?_
      rintro e w4 ⟨rfl, o4⟩
      rw [hf]
      simp only [tagR]
      go_wp2_with fail
      refine (known_any _).mono ?_
      rintro e w5 ⟨rfl, rfl⟩
      go_wp2_with fail
      refine (name_any _ _).mono ?_
      rintro e w6 ⟨rfl, rfl⟩
      go_wp2_with fail
      refine (rname_any _ _).mono ?_
      rintro e w7 ⟨rfl, o7⟩
      go_wp2
      go_ret
      exact ⟨rfl, (o2.trans o4 (fun _ _ h => h)).trans o7 (fun _ _ h => h)⟩


theorem tagsKnown_any (w : World) : Calls Try.prog 3 #[] w fun e w' => e = .returned (.bool true) ∧ Only (fun _ => False) w w' := by
  go_enter Try.func3, Try.ntmps3
  go_wp2
  go_loopw [1] (fun i wr => ∃ k : Nat, k ≤ 4325632 ∧ i = .int .i64 k ∧ Only (fun _ => False) w wr) (fun i _ => 4325632 - (intOf i).toNat)
  case atStart => exact ⟨4325376, by omega, rfl, Only.refl _ _⟩
  case round =>
    obtain ⟨k, hk, rfl, o1⟩ := hrel
    by_cases hlt : k < 4325632
    · have HLT := hide hlt
      clear hlt
      have hlt' : (k : Int) < 4325632 := by have := unhide HLT; omega
      go_wp2_with fail
      refine (name_any _ _).mono ?_
      rintro e w1 ⟨rfl, rfl⟩
      go_wp2_with fail
      refine (rname_any _ _).mono ?_
      rintro e w2 ⟨rfl, o2⟩
      have o3 := o1.trans o2 (fun _ _ h => h)
      by_cases hx : look words k = []
      · have hb2 : (str (look words k)).toList.isEmpty = true := by rw [str_toList, hx]; rfl
        clear hx
        go_wp2
        go_roundw
        case rel => exact ⟨k + 1, by omega, by go_num, o3⟩
        case measure => simp [intOf]; omega
      · have hb2 : (str (look words k)).toList.isEmpty = false := by rw [str_toList]; simp [hx]
        have hf : find words (look words k) = some k := by
          obtain ⟨t, h1, h2⟩ := (look_find hx).1 rfl
          rw [h1]
          congr 1
          omega
        have HX := hide hx
        clear hx
        generalize look words (k : Int) = s at *
        go_wp2_with fail
        refine (tag_any s (unhide HX) _).mono ?_
        rintro e w3 ⟨rfl, rfl⟩
        rw [hf]
        simp only [tagR]
        go_wp2
        go_roundw
        case rel => exact ⟨k + 1, by omega, by go_num, o3⟩
        case measure => simp [intOf]; omega
    · obtain rfl : k = 4325632 := by omega
      go_wp2_with fail
      refine (ops_any' _).mono ?_
      rintro e w2 ⟨v2, rfl, h2, o2⟩
      obtain ⟨a2, c2, rfl⟩ := ownsRow_shape h2
      have H2 := hide (HasV.ofOwns h2)
      clear h2
      go_wp2_with fail
      refine (rops_any _).mono ?_
      rintro e w3 ⟨v3, rfl, h3, o3⟩
      obtain ⟨a3, c3, rfl⟩ := ownsRow_shape h3
      have H3 := hide (HasV.ofOwns h3)
      have H2' := hide ((unhide H2).only o3 (fun _ _ _ e => e))
      have O3 := hide ((o1.trans o2 (fun _ _ h => h)).trans o3 (fun _ _ h => h))
      clear h3 H2 o1 o2 o3
      have hlen : Hid (ops.length = 24) := by show ops.length = 24; decide +kernel
      go_wp2
      go_loopw [7] (fun i wr => ∃ k : Nat, k ≤ 24 ∧ i = .int .i64 k ∧ Only (fun _ => False) w3 wr) (fun i _ => 24 - (intOf i).toNat)
      case atStart => exact ⟨0, by omega, rfl, Only.refl _ _⟩
      case round =>
        obtain ⟨k, hk, rfl, o1⟩ := hrel
        by_cases hlt : k < 24
        · have hkl : k < ops.length := by rw [unhide hlen]; exact hlt
          obtain ⟨b2, f2, rfl, _, hc2⟩ := (unhide H2').at (by omega)
          obtain ⟨b3, f3, rfl, _, hc3⟩ := (unhide H3).at (by omega)
          have e2 := o1.cell (hc2 k (by simpa using hkl)) (fun e => e)
          have e3 := o1.cell (hc3 k (by simpa using hkl)) (fun e => e)
          simp only [List.getElem_map, nv] at e2 e3
          have hl : look ops ops[k].1 ≠ [] := by
            rw [ops_look _ (List.getElem_mem hkl)]
            exact ops_ne _ (List.getElem_mem hkl)
          have hle : (look ops ops[k].1).isEmpty = false := by simp [hl]
          generalize ops[k].1 = t at *
          clear hl hc2 hc3
          have HOff : ∀ q, Calls Try.prog 11 #[.int .i64 t] (wr.drewN q) fun e w' => e = .returned (.bool true) ∧ w' = wr.drewN q := fun q => by
            have := offered_any t (wr.drewN q)
            rw [hle] at this
            exact this
          have HOff := hide HOff
          clear hle
          go_wp2_with fail
          go_quiet ((go_at_call 11; exact Calls.quiet_of_same (unhide HOff _)))
          go_wp2
          go_roundw
          case rel => exact ⟨k + 1, by omega, by go_num, o1.trans (Only.drewsT _) (fun _ _ h => h)⟩
          case measure => simp [intOf]; omega
        · obtain rfl : k = 24 := by omega
          go_wp2_with fail
          refine (known_any _).mono ?_
          rintro e w4 ⟨rfl, rfl⟩
          go_wp2
          go_ret
          exact ⟨rfl, (unhide O3).trans o1 (fun _ _ h => h)⟩

end Tg
end Go.Proofs.Ytdgkjdjmgndiiaa
