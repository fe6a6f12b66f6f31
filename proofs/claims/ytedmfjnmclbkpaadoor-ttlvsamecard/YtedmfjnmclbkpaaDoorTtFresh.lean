/-
  slices.Clone of bytes and of items; the program's fresh.
-/
import Derived.Test.YtedmfjnmclbkpaaDoorTtCuts
import Derived.Test.YtedmfjnmclbkpaaDoorTtKid
import Derived.Deep.AppendLies
namespace Go.Proofs.YtedmfjnmclbkpaaDoor
open Go.RowKit
set_option linter.unusedSimpArgs false
set_option linter.unusedVariables false
namespace Tt

theorem hasNone_any {w : World} {v : Value} (h : Has w v []) : v = .slice none 0 0 ∨ ∃ a cap, v = .slice (some a) 0 cap := by
  rcases h with ⟨rfl, _⟩ | ⟨a, cap, rfl, _⟩
  · exact Or.inl rfl
  · exact Or.inr ⟨a, cap, rfl⟩

set_option maxRecDepth 100000 in
set_option maxHeartbeats 1000000 in
/-- bytes cloned: the same bytes in a new block -/
theorem cloneB_any (xv : Value) (us : List UInt8) (w : World) (hx : Has w xv us) (hl : us.length ≤ 1000000) :
    Calls Tryd.prog 60 #[xv] w fun e w' => ∃ u, e = .returned u ∧ Owns w.heap.size w' u us ∧ Only (fun _ => False) w w' := by
  obtain ⟨i0, hi, hz0, hz1, hz2⟩ := info_parts Tryd.info5
  rcases hx with ⟨rfl, rfl⟩ | ⟨a, cap, rfl, hrest⟩
  · refine (cloneB_nil w).mono ?_
    rintro e w' ⟨rfl, rfl⟩
    exact ⟨_, rfl, World.ownsRow_nil _ _ _ _, Only.refl _ _⟩
  · have hx : Has w (.slice (some a) us.length cap) us := Or.inr ⟨a, cap, rfl, hrest⟩
    have hown : (w.alloc (.cells #[] 5)).ownsRow w.heap.size 5 1 (.slice (some ⟨w.heap.size, 0, none⟩) 0 0) 0 [] := World.ownsRow_lit w #[] 0 (Nat.le_refl _) (Nat.zero_le _) rfl
    have HX := hide (hx.only ((Only.refl (fun _ => False) w).alloc (.cells #[] 5)) (fun _ _ _ h => h))
    clear hrest hx
    have hnil : ∀ W, (binOp .eql 22 (.slice (some a) us.length cap) (.slice none 0 0)).run Tryd.prog W = .ok (.bool false) W := fun W => by kernel_rfl
    go_enter Tryd.func60, Tryd.ntmps60
    go_wp2_with (at_builtin; refine wpList_append_has rfl (.tmp 5) (.tmp 6) 22 rfl w.heap.size 5 i0 Tryd.underlying22 hi hz0 hz1 hz2 _ 0 [] rfl hown _ us rfl (unhide HX) (by omega) (by simp) ?_; intro ao2 cap2 w2 own2 gr2 at2)
    go_ret
    refine ⟨_, rfl, ?_, ((Only.refl _ _).alloc _).grown gr2 (fun k hk hl => by have hk2 : some w.heap.size = some k := hk; simp at hk2; omega)⟩
    unfold Owns
    simpa using own2

/-- kids as a list of values -/
theorem KidsAt.zs {Q : Nat → Prop} {w : World} {n : Nat} {ao : Option Addr} {len cap : Nat} {ks : List It} (h : KidsAt Q w (ItAt Q w n) (.slice ao len cap) ks) : ∃ zs : List (It × Value × Value), zs.map (·.1) = ks ∧ EachI Q n w zs ∧
    ∀ (bb off : Nat), ao = some ⟨bb, off, none⟩ → ∀ (j : Nat) (u : Value), (zs.flatMap zi)[j]? = some u → w.cell? ⟨bb, off + j, none⟩ = some u := by
  have hc : ∀ j : Fin ks.length, ∃ z : It × Value × Value, z.1 = ks[j] ∧ ItAt Q w n z.1 z.2.1 z.2.2 ∧ ∀ (bb off : Nat), ao = some ⟨bb, off, none⟩ → ∀ i u, (zi z)[i]? = some u → w.cell? ⟨bb, off + (j.1 * 5 + i), none⟩ = some u := fun j => by
    obtain ⟨bb, off, dv, kv, rfl, _, h0, h1, h2, h3, h4, h5⟩ := h.at j.1 j.2
    refine ⟨(ks[j.1], dv, kv), rfl, h5, fun b' o' e i u hu => ?_⟩
    simp only [Option.some.injEq, Addr.mk.injEq, and_true] at e
    obtain ⟨rfl, rfl⟩ := e
    have hi : i < 5 := by
      have := (List.getElem?_eq_some_iff.1 hu).1
      simpa [zi] using this
    rw [← Nat.add_assoc]
    rcases (show i = 0 ∨ i = 1 ∨ i = 2 ∨ i = 3 ∨ i = 4 by omega) with rfl | rfl | rfl | rfl | rfl <;> (simp [zi] at hu; subst hu; assumption)
  let f : Fin ks.length → It × Value × Value := fun j => (hc j).choose
  have hf : ∀ j, (f j).1 = ks[j] ∧ ItAt Q w n (f j).1 (f j).2.1 (f j).2.2 ∧ ∀ (bb off : Nat), ao = some ⟨bb, off, none⟩ → ∀ i u, (zi (f j))[i]? = some u → w.cell? ⟨bb, off + (j.1 * 5 + i), none⟩ = some u := fun j => (hc j).choose_spec
  refine ⟨List.ofFn f, ?_, ?_, ?_⟩
  · apply List.ext_getElem?
    intro j
    rw [List.getElem?_map, List.getElem?_ofFn]
    by_cases hj : j < ks.length
    · rw [dif_pos hj, List.getElem?_eq_getElem hj]
      simp only [Option.map_some, (hf ⟨j, hj⟩).1]
      rfl
    · rw [dif_neg hj, List.getElem?_eq_none (by omega)]
      rfl
  · intro z hz
    obtain ⟨j, rfl⟩ := List.mem_ofFn.1 hz
    exact (hf j).2.1
  · intro bb off e j u hu
    have hlen : ((List.ofFn f).flatMap zi).length = (List.ofFn f).length * 5 := flat_length zi 5 _ (fun _ _ => rfl)
    have hj : j < ks.length * 5 := by
      have := (List.getElem?_eq_some_iff.1 hu).1
      rw [hlen, List.length_ofFn] at this
      exact this
    have hq : j / 5 < ks.length := by omega
    have ha := flat_at zi 5 (List.ofFn f) (fun _ _ => rfl) (j / 5) (j % 5) (by omega) (f ⟨j / 5, hq⟩) (by rw [List.getElem?_ofFn, dif_pos hq])
    rw [show j / 5 * 5 + j % 5 = j by omega] at ha
    rw [ha] at hu
    have := (hf ⟨j / 5, hq⟩).2.2 bb off e (j % 5) u hu
    rw [show j / 5 * 5 + j % 5 = j by omega] at this
    exact this

theorem zi_one {Q : Nat → Prop} {w : World} {n : Nat} {zs : List (It × Value × Value)} (h : EachI Q n w zs) : ∀ u ∈ zs.flatMap zi, u.oneCell' = true := fun u hu => by
  obtain ⟨z, hz, hzu⟩ := List.mem_flatMap.1 hu
  obtain ⟨⟨a, c, h1⟩, a', c', h2⟩ := (h z hz).shapes
  simp only [zi, List.mem_cons, List.not_mem_nil, or_false] at hzu
  rcases hzu with rfl | rfl | rfl | rfl | rfl
  · rfl
  · rfl
  · rfl
  · rw [h1]; rfl
  · rw [h2]; rfl

set_option maxRecDepth 100000 in
set_option maxHeartbeats 1000000 in
/-- items cloned: the same cells in a new row -/
theorem cloneI_any {Q : Nat → Prop} (n : Nat) (xv : Value) (ks : List It) (w : World) (hx : KidsAt Q w (ItAt Q w n) xv ks) (hl : ks.length ≤ 1000000) :
    Calls Tryd.prog 61 #[xv] w fun e w' => ∃ u zs, e = .returned u ∧ zs.map (·.1) = ks ∧ EachI (fun q => Q q ∧ q < w.heap.size) n w zs ∧ w'.ownsRow w.heap.size 25 5 u ks.length (zs.flatMap zi) ∧ Only (fun _ => False) w w' := by
  obtain ⟨i0, hi, hz0, hz1, hz2⟩ := info_parts Tryd.infoItem
  obtain ⟨ao, cap, rfl, hlc, hcm⟩ := hx.shape
  rcases ao with _ | a
  · have hk0 : ks = [] := by
      rcases hx with ⟨_, rfl⟩ | ⟨a, c, e, _⟩
      · rfl
      · simp at e
    subst hk0
    have hc0 : cap = 0 := by
      rcases hx with ⟨e, _⟩ | ⟨a, c, e, _⟩
      · simpa using e
      · simp at e
    subst hc0
    refine (cloneI_nil w).mono ?_
    rintro e w' ⟨rfl, rfl⟩
    exact ⟨_, [], rfl, rfl, (fun z hz => (by cases hz)), World.ownsRow_nil _ _ _ _, Only.refl _ _⟩
  · obtain ⟨zs, hz, hE, hcell⟩ := hx.zs
    have hzl : zs.length = ks.length := by rw [← hz, List.length_map]
    have hE' : EachI (fun q => Q q ∧ q < w.heap.size) n w zs := hE.mono (fun k hk hq => ⟨hq, hk⟩)
    have hown : (w.alloc (.cells #[] 25)).ownsRow w.heap.size 25 5 (.slice (some ⟨w.heap.size, 0, none⟩) 0 0) 0 [] := World.ownsRow_lit w #[] 0 (Nat.le_refl _) (Nat.zero_le _) rfl
    have oA := (Only.refl (fun _ => False) w).alloc (.cells #[] 25)
    have hsp : 0 < ks.length → a.spot = none := by
      rcases hx with ⟨e, _⟩ | ⟨a', c, e, h, _⟩
      · simp at e
      · simp only [Value.slice.injEq, Option.some.injEq] at e
        rw [e.1]; exact h
    have hn : ∀ j u, (zs.flatMap zi)[j]? = some u → (w.alloc (.cells #[] 25)).cell? (a.add j) = some u := fun j u hu => by
      have hl5 : (zs.flatMap zi).length = zs.length * 5 := flat_length zi 5 _ (fun _ _ => rfl)
      have hj := (List.getElem?_eq_some_iff.1 hu).1
      have hs := hsp (by omega)
      rw [addr_add a hs]
      obtain ⟨ab, aof, asp⟩ := a
      simp only at hs
      subst hs
      exact oA.cell (hcell ab aof rfl j u hu) (fun e => e)
    have h1 := zi_one hE
    have hlz : (zs.flatMap zi).length = ks.length * 5 := by rw [flat_length zi 5 _ (fun _ _ => rfl), hzl]
    obtain ⟨V, hV⟩ : ∃ V, V = zs.flatMap zi := ⟨_, rfl⟩
    rw [← hV] at hn h1 hlz
    have HV := hide hV
    have HZ := hide hz
    have HE := hide hE'
    obtain ⟨k, hk⟩ : ∃ k, k = ks.length := ⟨_, rfl⟩
    rw [← hk] at hlz hl ⊢
    have HN := hide hn
    have HOA := hide oA
    clear hE hE' hcell hz hzl hV hsp hx hk oA hn hlc
    have hnil : ∀ W, (binOp .eql 23 (.slice (some a) k cap) (.slice none 0 0)).run Tryd.prog W = .ok (.bool false) W := fun W => by kernel_rfl
    go_enter Tryd.func61, Tryd.ntmps61
    go_wp2_with (at_builtin; refine wpList_append_own_at _ rfl (.tmp 5) (.tmp 6) 23 rfl w.heap.size 25 i0 _ 5 72 Tryd.underlying23 hi hz0 hz1 hz2 rfl (by decide) _ 0 [] rfl hown a k cap V rfl hlz (unhide HN) h1 (by unfold maxLen; omega) (by omega) (by simp) ?_; intro u w2 own2 gr2 nn2 at2)
    go_ret
    refine ⟨_, zs, rfl, unhide HZ, unhide HE, ?_, (unhide HOA).grown gr2 (fun k hk hl => by have hk2 : some w.heap.size = some k := hk; simp at hk2; omega)⟩
    rw [← unhide HV]
    simpa using own2

end Tt
end Go.Proofs.YtedmfjnmclbkpaaDoor
