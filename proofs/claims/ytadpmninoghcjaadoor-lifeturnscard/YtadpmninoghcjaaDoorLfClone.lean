/-
  slices.Clone of bytes, texts, links, custom attributes.
-/
import Derived.Test.YtadpmninoghcjaaDoorObMem
import Derived.Deep.AppendLies
namespace Go.Proofs.YtadpmninoghcjaaDoor
open Go.RowKit
set_option linter.unusedSimpArgs false
set_option linter.unusedVariables false
namespace Ob

theorem Tryd.infoLb : (Tryd.prog.info? 5).map (fun i => (i.zero, i.size, i.bytes)) = some (some (.int .u8 0), 1, 1) := by kernel_rfl
set_option maxRecDepth 100000 in
theorem cloneb_nil (w : World) : Calls Tryd.prog 38 #[.slice none 0 0] w fun e w' => e = .returned (.slice none 0 0) ∧ w' = w := by
  have hnil : ∀ W, (binOp .eql 22 (.slice none 0 0) (.slice none 0 0)).run Tryd.prog W = .ok (.bool true) W := fun W => by kernel_rfl
  go_enter Tryd.func38, Tryd.ntmps38
  go_wp2
  go_ret
  exact ⟨rfl, rfl⟩
set_option maxRecDepth 100000 in
set_option maxHeartbeats 1000000 in
/-- bytes cloned: the same bytes in a new block -/
theorem cloneb_any (xv : Value) (us : List UInt8) (w : World) (hx : Has w xv us) (hl : us.length ≤ 1000000) :
    Calls Tryd.prog 38 #[xv] w fun e w' => ∃ u, e = .returned u ∧ Owns w.heap.size w' u us ∧ Only (fun _ => False) w w' := by
  obtain ⟨i0, hi, hz0, hz1, hz2⟩ := info_parts Tryd.infoLb
  rcases hx with ⟨rfl, rfl⟩ | ⟨a, cap, rfl, hrest⟩
  · refine (cloneb_nil w).mono ?_
    rintro e w' ⟨rfl, rfl⟩
    exact ⟨_, rfl, World.ownsRow_nil _ _ _ _, Only.refl _ _⟩
  · have hx : Has w (.slice (some a) us.length cap) us := Or.inr ⟨a, cap, rfl, hrest⟩
    have hown : (w.alloc (.cells #[] 5)).ownsRow w.heap.size 5 1 (.slice (some ⟨w.heap.size, 0, none⟩) 0 0) 0 [] := World.ownsRow_lit w #[] 0 (Nat.le_refl _) (Nat.zero_le _) rfl
    have HX := hide (hx.only ((Only.refl (fun _ => False) w).alloc (.cells #[] 5)) (fun _ _ _ h => h))
    clear hrest hx
    have hnil : ∀ W, (binOp .eql 22 (.slice (some a) us.length cap) (.slice none 0 0)).run Tryd.prog W = .ok (.bool false) W := fun W => by kernel_rfl
    go_enter Tryd.func38, Tryd.ntmps38
    go_wp2_with (at_builtin; refine wpList_append_has rfl (.tmp 5) (.tmp 6) 22 rfl w.heap.size 5 i0 Tryd.underlying22 hi hz0 hz1 hz2 _ 0 [] rfl hown _ us rfl (unhide HX) (by omega) (by simp) ?_; intro ao2 cap2 w2 own2 gr2 at2)
    go_ret
    refine ⟨_, rfl, ?_, ((Only.refl _ _).alloc _).grown gr2 (fun k hk hl => by have hk2 : some w.heap.size = some k := hk; simp at hk2; omega)⟩
    unfold Owns
    simpa using own2

theorem Tryd.infoLs : (Tryd.prog.info? 9).map (fun i => (i.zero, i.size, i.bytes)) = some (some (.string ⟨#[]⟩), 1, 16) := by kernel_rfl
set_option maxRecDepth 100000 in
set_option maxHeartbeats 1000000 in
theorem clones_any (xv : Value) (xs : List (List UInt8)) (w : World) (hx : HasF w xv 1 scells xs) (hl : xs.length ≤ 1000000) :
    Calls Tryd.prog 39 #[xv] w fun e w' => ∃ u, e = .returned u ∧ w'.ownsRow w.heap.size 9 1 u xs.length (xs.flatMap scells) ∧ Only (fun _ => False) w w' := by
  obtain ⟨i0, hi, hz0, hz1, hz2⟩ := info_parts Tryd.infoLs
  obtain ⟨ao, cap, rfl, hlc, hcm⟩ := hx.shape
  rcases ao with _ | a
  · have hk0 : xs.length = 0 := by
      obtain ⟨ao', cap', e, h1, h2, h3⟩ := hx.has
      rcases Nat.eq_zero_or_pos xs.length with h0 | h0
      · exact h0
      · obtain ⟨b, o, ea, _⟩ := h3 h0
        simp only [Value.slice.injEq] at e
        rw [← e.1] at ea
        cases ea
    have hnil : ∀ W, (binOp .eql 26 (.slice none 0 cap) (.slice none 0 0)).run Tryd.prog W = .ok (.bool true) W := fun W => by kernel_rfl
    have hxs : xs = [] := List.length_eq_zero_iff.1 hk0
    subst hxs
    clear hx hl hlc hcm hk0
    simp only [List.length_nil]
    go_enter Tryd.func39, Tryd.ntmps39
    go_wp2
    go_ret
    exact ⟨_, rfl, World.ownsRow_nil _ _ _ _, Only.refl _ _⟩
  · have hown : (w.alloc (.cells #[] 9)).ownsRow w.heap.size 9 1 (.slice (some ⟨w.heap.size, 0, none⟩) 0 0) 0 [] := World.ownsRow_lit w #[] 0 (Nat.le_refl _) (Nat.zero_le _) rfl
    have oA := (Only.refl (fun _ => False) w).alloc (.cells #[] 9)
    have hn : ∀ j u, (xs.flatMap scells)[j]? = some u → (w.alloc (.cells #[] 9)).cell? (a.add j) = some u := fun j u hu => by
      obtain ⟨ao', cap', e, h1, h2, h3⟩ := hx.has
      have h0 : 0 < xs.length := by
        rcases Nat.eq_zero_or_pos xs.length with h0 | h0
        · rw [List.length_eq_zero_iff.1 h0] at hu; simp at hu
        · exact h0
      obtain ⟨b, o, ea, _, hr⟩ := h3 h0
      simp only [Value.slice.injEq] at e
      rw [← e.1] at ea
      simp only [Option.some.injEq] at ea
      subst ea
      rw [addr_add _ rfl]
      exact oA.cell (hr j u hu) (fun e => e)
    have h1 : ∀ u ∈ xs.flatMap scells, u.oneCell' = true := fun u hu => by
      obtain ⟨z, hz, hzu⟩ := List.mem_flatMap.1 hu
      unfold scells at hzu
      simp only [List.mem_cons, List.not_mem_nil, or_false] at hzu
      rcases hzu with rfl <;> rfl
    have hlz : (xs.flatMap scells).length = xs.length * 1 := flat_length scells 1 xs hx.wide
    obtain ⟨V, hV⟩ : ∃ V, V = xs.flatMap scells := ⟨_, rfl⟩
    rw [← hV] at hn h1 hlz ⊢
    obtain ⟨k, hk⟩ : ∃ k, k = xs.length := ⟨_, rfl⟩
    rw [← hk] at hlz hl ⊢
    have HN := hide hn
    have HOA := hide oA
    clear hx hk oA hn hlc hcm hV
    have hnil : ∀ W, (binOp .eql 26 (.slice (some a) k cap) (.slice none 0 0)).run Tryd.prog W = .ok (.bool false) W := fun W => by kernel_rfl
    go_enter Tryd.func39, Tryd.ntmps39
    go_wp2_with (at_builtin; refine wpList_append_own_at _ rfl (.tmp 5) (.tmp 6) 26 rfl w.heap.size 9 i0 _ 1 16 Tryd.underlying26 hi hz0 hz1 hz2 rfl (by decide) _ 0 [] rfl hown a k cap V rfl hlz (unhide HN) h1 (by unfold maxLen; omega) (by omega) (by simp) ?_; intro u w2 own2 gr2 nn2 at2)
    go_ret
    refine ⟨_, rfl, ?_, (unhide HOA).grown gr2 (fun k hk hl => by have hk2 : some w.heap.size = some k := hk; simp at hk2; omega)⟩
    simpa using own2

theorem Tryd.infoLk : (Tryd.prog.info? 67).map (fun i => (i.zero, i.size, i.bytes)) = some (some (.agg #[.int .i64 0, .string ⟨#[]⟩]), 2, 24) := by kernel_rfl
set_option maxRecDepth 100000 in
set_option maxHeartbeats 1000000 in
theorem clonek_any (xv : Value) (xs : List (Int × List UInt8)) (w : World) (hx : HasF w xv 2 kcells xs) (hl : xs.length ≤ 1000000) :
    Calls Tryd.prog 40 #[xv] w fun e w' => ∃ u, e = .returned u ∧ w'.ownsRow w.heap.size 67 2 u xs.length (xs.flatMap kcells) ∧ Only (fun _ => False) w w' := by
  obtain ⟨i0, hi, hz0, hz1, hz2⟩ := info_parts Tryd.infoLk
  obtain ⟨ao, cap, rfl, hlc, hcm⟩ := hx.shape
  rcases ao with _ | a
  · have hk0 : xs.length = 0 := by
      obtain ⟨ao', cap', e, h1, h2, h3⟩ := hx.has
      rcases Nat.eq_zero_or_pos xs.length with h0 | h0
      · exact h0
      · obtain ⟨b, o, ea, _⟩ := h3 h0
        simp only [Value.slice.injEq] at e
        rw [← e.1] at ea
        cases ea
    have hnil : ∀ W, (binOp .eql 27 (.slice none 0 cap) (.slice none 0 0)).run Tryd.prog W = .ok (.bool true) W := fun W => by kernel_rfl
    have hxs : xs = [] := List.length_eq_zero_iff.1 hk0
    subst hxs
    clear hx hl hlc hcm hk0
    simp only [List.length_nil]
    go_enter Tryd.func40, Tryd.ntmps40
    go_wp2
    go_ret
    exact ⟨_, rfl, World.ownsRow_nil _ _ _ _, Only.refl _ _⟩
  · have hown : (w.alloc (.cells #[] 67)).ownsRow w.heap.size 67 2 (.slice (some ⟨w.heap.size, 0, none⟩) 0 0) 0 [] := World.ownsRow_lit w #[] 0 (Nat.le_refl _) (Nat.zero_le _) rfl
    have oA := (Only.refl (fun _ => False) w).alloc (.cells #[] 67)
    have hn : ∀ j u, (xs.flatMap kcells)[j]? = some u → (w.alloc (.cells #[] 67)).cell? (a.add j) = some u := fun j u hu => by
      obtain ⟨ao', cap', e, h1, h2, h3⟩ := hx.has
      have h0 : 0 < xs.length := by
        rcases Nat.eq_zero_or_pos xs.length with h0 | h0
        · rw [List.length_eq_zero_iff.1 h0] at hu; simp at hu
        · exact h0
      obtain ⟨b, o, ea, _, hr⟩ := h3 h0
      simp only [Value.slice.injEq] at e
      rw [← e.1] at ea
      simp only [Option.some.injEq] at ea
      subst ea
      rw [addr_add _ rfl]
      exact oA.cell (hr j u hu) (fun e => e)
    have h1 : ∀ u ∈ xs.flatMap kcells, u.oneCell' = true := fun u hu => by
      obtain ⟨z, hz, hzu⟩ := List.mem_flatMap.1 hu
      unfold kcells at hzu
      simp only [List.mem_cons, List.not_mem_nil, or_false] at hzu
      rcases hzu with rfl | rfl <;> rfl
    have hlz : (xs.flatMap kcells).length = xs.length * 2 := flat_length kcells 2 xs hx.wide
    obtain ⟨V, hV⟩ : ∃ V, V = xs.flatMap kcells := ⟨_, rfl⟩
    rw [← hV] at hn h1 hlz ⊢
    obtain ⟨k, hk⟩ : ∃ k, k = xs.length := ⟨_, rfl⟩
    rw [← hk] at hlz hl ⊢
    have HN := hide hn
    have HOA := hide oA
    clear hx hk oA hn hlc hcm hV
    have hnil : ∀ W, (binOp .eql 27 (.slice (some a) k cap) (.slice none 0 0)).run Tryd.prog W = .ok (.bool false) W := fun W => by kernel_rfl
    go_enter Tryd.func40, Tryd.ntmps40
    go_wp2_with (at_builtin; refine wpList_append_own_at _ rfl (.tmp 5) (.tmp 6) 27 rfl w.heap.size 67 i0 _ 2 24 Tryd.underlying27 hi hz0 hz1 hz2 rfl (by decide) _ 0 [] rfl hown a k cap V rfl hlz (unhide HN) h1 (by unfold maxLen; omega) (by omega) (by simp) ?_; intro u w2 own2 gr2 nn2 at2)
    go_ret
    refine ⟨_, rfl, ?_, (unhide HOA).grown gr2 (fun k hk hl => by have hk2 : some w.heap.size = some k := hk; simp at hk2; omega)⟩
    simpa using own2

theorem Tryd.infoLc : (Tryd.prog.info? 71).map (fun i => (i.zero, i.size, i.bytes)) = some (some (.agg #[.string ⟨#[]⟩, .string ⟨#[]⟩]), 2, 32) := by kernel_rfl
set_option maxRecDepth 100000 in
set_option maxHeartbeats 1000000 in
theorem clonec_any (xv : Value) (xs : List (List UInt8 × List UInt8)) (w : World) (hx : HasF w xv 2 ccells xs) (hl : xs.length ≤ 1000000) :
    Calls Tryd.prog 41 #[xv] w fun e w' => ∃ u, e = .returned u ∧ w'.ownsRow w.heap.size 71 2 u xs.length (xs.flatMap ccells) ∧ Only (fun _ => False) w w' := by
  obtain ⟨i0, hi, hz0, hz1, hz2⟩ := info_parts Tryd.infoLc
  obtain ⟨ao, cap, rfl, hlc, hcm⟩ := hx.shape
  rcases ao with _ | a
  · have hk0 : xs.length = 0 := by
      obtain ⟨ao', cap', e, h1, h2, h3⟩ := hx.has
      rcases Nat.eq_zero_or_pos xs.length with h0 | h0
      · exact h0
      · obtain ⟨b, o, ea, _⟩ := h3 h0
        simp only [Value.slice.injEq] at e
        rw [← e.1] at ea
        cases ea
    have hnil : ∀ W, (binOp .eql 28 (.slice none 0 cap) (.slice none 0 0)).run Tryd.prog W = .ok (.bool true) W := fun W => by kernel_rfl
    have hxs : xs = [] := List.length_eq_zero_iff.1 hk0
    subst hxs
    clear hx hl hlc hcm hk0
    simp only [List.length_nil]
    go_enter Tryd.func41, Tryd.ntmps41
    go_wp2
    go_ret
    exact ⟨_, rfl, World.ownsRow_nil _ _ _ _, Only.refl _ _⟩
  · have hown : (w.alloc (.cells #[] 71)).ownsRow w.heap.size 71 2 (.slice (some ⟨w.heap.size, 0, none⟩) 0 0) 0 [] := World.ownsRow_lit w #[] 0 (Nat.le_refl _) (Nat.zero_le _) rfl
    have oA := (Only.refl (fun _ => False) w).alloc (.cells #[] 71)
    have hn : ∀ j u, (xs.flatMap ccells)[j]? = some u → (w.alloc (.cells #[] 71)).cell? (a.add j) = some u := fun j u hu => by
      obtain ⟨ao', cap', e, h1, h2, h3⟩ := hx.has
      have h0 : 0 < xs.length := by
        rcases Nat.eq_zero_or_pos xs.length with h0 | h0
        · rw [List.length_eq_zero_iff.1 h0] at hu; simp at hu
        · exact h0
      obtain ⟨b, o, ea, _, hr⟩ := h3 h0
      simp only [Value.slice.injEq] at e
      rw [← e.1] at ea
      simp only [Option.some.injEq] at ea
      subst ea
      rw [addr_add _ rfl]
      exact oA.cell (hr j u hu) (fun e => e)
    have h1 : ∀ u ∈ xs.flatMap ccells, u.oneCell' = true := fun u hu => by
      obtain ⟨z, hz, hzu⟩ := List.mem_flatMap.1 hu
      unfold ccells at hzu
      simp only [List.mem_cons, List.not_mem_nil, or_false] at hzu
      rcases hzu with rfl | rfl <;> rfl
    have hlz : (xs.flatMap ccells).length = xs.length * 2 := flat_length ccells 2 xs hx.wide
    obtain ⟨V, hV⟩ : ∃ V, V = xs.flatMap ccells := ⟨_, rfl⟩
    rw [← hV] at hn h1 hlz ⊢
    obtain ⟨k, hk⟩ : ∃ k, k = xs.length := ⟨_, rfl⟩
    rw [← hk] at hlz hl ⊢
    have HN := hide hn
    have HOA := hide oA
    clear hx hk oA hn hlc hcm hV
    have hnil : ∀ W, (binOp .eql 28 (.slice (some a) k cap) (.slice none 0 0)).run Tryd.prog W = .ok (.bool false) W := fun W => by kernel_rfl
    go_enter Tryd.func41, Tryd.ntmps41
    go_wp2_with (at_builtin; refine wpList_append_own_at _ rfl (.tmp 5) (.tmp 6) 28 rfl w.heap.size 71 i0 _ 2 32 Tryd.underlying28 hi hz0 hz1 hz2 rfl (by decide) _ 0 [] rfl hown a k cap V rfl hlz (unhide HN) h1 (by unfold maxLen; omega) (by omega) (by simp) ?_; intro u w2 own2 gr2 nn2 at2)
    go_ret
    refine ⟨_, rfl, ?_, (unhide HOA).grown gr2 (fun k hk hl => by have hk2 : some w.heap.size = some k := hk; simp at hk2; omega)⟩
    simpa using own2

end Ob
end Go.Proofs.YtadpmninoghcjaaDoor
