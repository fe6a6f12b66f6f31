/-
  tags' Tag and Ops.
-/
import Derived.Test.YtdgkjdjmgndiiaaTgName
import Derived.Test.YtdgkjdjmgndiiaaTgRefs
namespace Go.Proofs.Ytdgkjdjmgndiiaa
open Go.RowKit
set_option linter.unusedSimpArgs false
set_option linter.unusedVariables false
namespace Tg

theorem tag_nil (w : World) : Calls Try.prog 8 #[.string (str [])] w fun e w' => e = .returned (tagR none) ∧ w' = w := by
  have hb2 : (str []).toList.isEmpty = true := by rw [str_toList]; rfl
  go_enter Try.func8, Try.ntmps8
  go_wp2
  go_ret2
  exact ⟨rfl, rfl⟩

theorem tag_any (xs : List UInt8) (hx : xs ≠ []) (w : World) : Calls Try.prog 8 #[.string (str xs)] w fun e w' => e = .returned (tagR (find words xs)) ∧ w' = w := by
  have hb : ((str xs).toList == ([] : List UInt8)) = false := by rw [str_toList]; simp [hx]
  have hb2 : (str xs).toList.isEmpty = false := by rw [str_toList]; simp [hx]
  have HX := hide hx
  clear hx
  go_enter Try.func8, Try.ntmps8
  go_wp2
  go_loop [4] (fun i => ∃ k : Nat, 4325377 ≤ k ∧ k ≤ 4325575 ∧ i = .int .i64 k ∧ Hid (∀ t : Nat, find words xs = some t → k ≤ t)) (fun i => 4325575 - (intOf i).toNat)
  case atStart => exact ⟨4325377, by omega, by omega, rfl, fun t ht => (words_in _ (find_some ht)).1⟩
  case round =>
    obtain ⟨k, hk0, hk, rfl, HK⟩ := hrel
    by_cases hlt : k ≤ 4325574
    · go_wp2_with fail
      refine (name_any k _).mono ?_
      rintro e w1 ⟨rfl, rfl⟩
      by_cases he : look words k = xs
      · have heb : ((str (look words k)).toList == (str xs).toList) = true := by rw [str_beq]; simp [he]
        have hs : Hid (find words xs = some k) := by
          obtain ⟨t, e1, e2⟩ := (look_find (unhide HX)).1 he
          rw [e1]
          congr 1
          omega
        clear he
        go_wp2
        go_ret2
        rw [unhide hs]
        exact ⟨rfl, rfl⟩
      · have heb : ((str (look words k)).toList == (str xs).toList) = false := by rw [str_beq]; simp [he]
        have hs : Hid (∀ t : Nat, find words xs = some t → k + 1 ≤ t) := fun t ht => by
          have h1 := unhide HK t ht
          have h2 : t ≠ k := fun e => he ((look_find (unhide HX)).2 ⟨t, ht, by rw [e]⟩)
          omega
        clear he
        go_wp2
        go_round
        case rel => exact ⟨k + 1, by omega, by omega, by go_num, hs⟩
        case measure => simp [intOf]; omega
    · obtain rfl : k = 4325575 := by omega
      have hs : Hid (find words xs = none) := by
        rcases h : find words xs with _ | t
        · rfl
        · have h1 := unhide HK t h
          have h2 := (words_in _ (find_some h)).2
          simp only at h2
          omega
      go_wp2
      go_ret2
      rw [unhide hs]
      exact ⟨rfl, rfl⟩

theorem ops_any' (w : World) : Calls Try.prog 9 #[] w fun e w' => ∃ v, e = .returned v ∧ w'.ownsRow w.heap.size 3 1 v 24 ((ops.map (·.1)).map nv) ∧ Only (fun _ => False) w w' := by
  obtain ⟨i0, hi, heq⟩ := Option.map_eq_some_iff.1 Try.info3
  simp only [Prod.mk.injEq] at heq
  obtain ⟨hz0, hz1, hz2⟩ := heq
  go_enter Try.func9, Try.ntmps9
  go_wp2
  go_loopw [1, 2] (fun v i wr => ∃ m : Nat, 1 ≤ m ∧ m ≤ 37 ∧ i = .int .i64 m ∧ wr.ownsRow w.heap.size 3 1 v (below m).length ((below m).map nv) ∧ Only (fun _ => False) w wr) (fun _ i _ => 37 - (intOf i).toNat)
  case atStart => exact ⟨1, by omega, by omega, rfl, by rw [below_one]; exact World.ownsRow_nil _ _ _ _, Only.refl _ _⟩
  case round =>
    obtain ⟨m, hm0, hm, rfl, hown, o1⟩ := hrel
    obtain ⟨ao, cap, rfl⟩ := ownsRow_shape hown
    have HO := hide hown
    have hb0 := hide (fun q (hq : Value.ownBlock (.slice ao (below m).length cap) = some q) => (hown.lt q hq))
    clear hown
    have hbl := below_len m (by omega)
    obtain ⟨n, hn⟩ : ∃ n, n = (below m).length := ⟨_, rfl⟩
    rw [← hn] at HO hb0 hbl ⊢
    have HN := hide hn
    clear hn
    by_cases hlt : m ≤ 36
    · have hst := hide (below_step m (by omega))
      go_wp2_with fail
      refine (offered_any m _).mono ?_
      rintro e w1 ⟨rfl, rfl⟩
      by_cases hl : look ops m = []
      · have HB : Hid (below (m + 1) = below m) := by show _ = _; rw [unhide hst, if_pos hl]
        rw [hl]
        clear hl hst
        go_wp2
        go_roundw
        case rel => exact ⟨m + 1, by omega, by omega, by go_num, by rw [unhide HB, ← unhide HN]; exact unhide HO, o1⟩
        case measure => simp [intOf]; omega
      · have HB : Hid (below (m + 1) = below m ++ [m]) := by show _ = _; rw [unhide hst, if_neg hl]
        have he : (look ops m).isEmpty = false := by simp [hl]
        rw [he]
        clear hl he hst
        go_wp2_with (at_builtin; refine wpList_append_hasV rfl (.tmp 9) (.tmp 11) 25 rfl w.heap.size 3 i0 _ 8 Try.underlying25 hi hz0 hz1 hz2 rfl _ n _ rfl (((Only.refl (fun _ => False) _).alloc _).owns (unhide HO) (fun _ _ e => e)) _ [nv m] rfl (hasV_lit (heap_alloc_new _ _) (by simp [maxLen])) (by simp [nv]; rfl) (by unfold maxLen; simp; omega) (by simp; omega) (o1.alloc _).size ?_; intro ao2 cap2 w2 own2 gr2 at2; have o2 : Only (fun _ => False) w w2 := (o1.alloc _).grown gr2 (fun q hq hl => by have := unhide hb0 q hq; omega))
        go_roundw
        case rel => exact ⟨m + 1, by omega, by omega, by go_num, by rw [unhide HB, List.map_append, List.length_append, ← unhide HN]; exact own2, o2⟩
        case measure => simp [intOf]; omega
    · obtain rfl : m = 37 := by omega
      go_wp2
      go_ret
      refine ⟨_, rfl, ?_, o1⟩
      have h1 := unhide HO
      have h2 : n = 24 := by rw [unhide HN]; decide +kernel
      rw [below_all] at h1
      subst h2
      exact h1

end Tg
end Go.Proofs.Ytdgkjdjmgndiiaa
