/-
  Chapter 11.3 in plain words: whatever call is made, an object's state stays, or goes along an edge.
-/
import Derived.Test.YtadpmninoghcjaaDoorLfSpec
namespace Go.Proofs.YtadpmninoghcjaaDoor
set_option linter.unusedSimpArgs false
set_option linter.unusedVariables false
namespace Ob
/-- a state that is one; what is destroyed has no material -/
structure Good (o : Ob) : Prop where
  lo : 1 ≤ o.state
  hi : o.state ≤ 6
  mat : 5 ≤ o.state → o.mat = []
  sm : Small o
/-- from one state to another: it stays, or an edge, or (e = 2) two edges by way of Active -/
def Along (a b e : Int) : Prop := b = a ∨ edgeB a b = true ∨ (e = 2 ∧ edgeB a 2 = true ∧ edgeB 2 b = true)
theorem act_good {o : Ob} (G : Good o) (t : Int) (h : actE o = 0) : Good (actU o t) ∧ Along o.state (actU o t).state 1 := by
  have hs : (actU o t).state = 2 := rfl
  have hm : (actU o t).mat = o.mat := rfl
  unfold actE at h
  cases ha : o.arch with
  | true => rw [ha] at h; simp at h
  | false =>
    rw [ha] at h
    cases he : edgeB o.state 2 with
    | false => rw [he] at h; simp at h
    | true => exact ⟨⟨by rw [hs]; decide, by rw [hs]; decide, fun h5 => by rw [hs] at h5; omega, ⟨G.sm.mat, G.sm.names, G.sm.links, G.sm.custom⟩⟩, Or.inr (Or.inl (by rw [hs]; exact he))⟩
theorem whenR_cases (o : Ob) (r : Int) : (whenR o r = 6 ∧ o.state = 5) ∨ whenR o r = 4 ∨ whenR o r = 3 := by
  unfold whenR
  split
  · split
    · left; exact ⟨rfl, by assumption⟩
    · right; left; rfl
  · right; right; rfl
theorem rev_good {o : Ob} (G : Good o) (r : Int) (msg : List UInt8) (oc : Bool × Int) (t : Int) (h : revE o r msg oc t = 0) : Good (revU o r msg oc t) ∧ Along o.state (revU o r msg oc t).state 1 := by
  have hs : (revU o r msg oc t).state = whenR o r := by unfold revU dput; simp only; split <;> rfl
  have hm : (revU o r msg oc t).mat = o.mat := by unfold revU dput; simp only; split <;> rfl
  have hn : (revU o r msg oc t).names = o.names := by unfold revU dput; simp only; split <;> rfl
  have hl : (revU o r msg oc t).links = o.links := by unfold revU dput; simp only; split <;> rfl
  have hc : (revU o r msg oc t).custom = o.custom := by unfold revU dput; simp only; split <;> rfl
  have hw := whenR_cases o r
  unfold revE at h
  cases hb : badR r msg oc t with
  | true => rw [hb] at h; simp at h
  | false =>
    rw [hb] at h
    cases ha : o.arch with
    | true => rw [ha] at h; simp at h
    | false =>
      rw [ha] at h
      cases he : edgeB o.state (whenR o r) with
      | false => rw [he] at h; simp at h
      | true =>
        refine ⟨⟨?_, ?_, fun h5 => ?_, ⟨by rw [hm]; exact G.sm.mat, by rw [hn]; exact G.sm.names, by rw [hl]; exact G.sm.links, by rw [hc]; exact G.sm.custom⟩⟩, Or.inr (Or.inl (by rw [hs]; exact he))⟩
        · rw [hs]; rcases hw with h | h | h <;> omega
        · rw [hs]; rcases hw with h | h | h <;> omega
        · rw [hm]
          rw [hs] at h5
          rcases hw with ⟨h1, h2⟩ | h1 | h1
          · exact G.mat (by omega)
          · omega
          · omega
theorem des_good {o : Ob} (G : Good o) (t : Int) (h : desE o = 0) : Good (desU o t) ∧ Along o.state (desU o t).state 1 := by
  have hs : (desU o t).state = whenD o := rfl
  have hw : whenD o = 5 ∨ whenD o = 6 := by unfold whenD; split <;> simp
  unfold desE at h
  cases ha : o.arch with
  | true => rw [ha] at h; simp at h
  | false =>
    rw [ha] at h
    cases he : edgeB o.state (whenD o) with
    | false => rw [he] at h; simp at h
    | true => exact ⟨⟨by rw [hs]; omega, by rw [hs]; omega, fun _ => rfl, ⟨Nat.zero_le _, G.sm.names, G.sm.links, G.sm.custom⟩⟩, Or.inr (Or.inl (by rw [hs]; exact he))⟩
theorem arc_good {o : Ob} (G : Good o) (t : Int) : Good (arcU o t) ∧ Along o.state (arcU o t).state 1 :=
  ⟨⟨G.lo, G.hi, G.mat, ⟨G.sm.mat, G.sm.names, G.sm.links, G.sm.custom⟩⟩, Or.inl rfl⟩
theorem rec_good {o : Ob} (G : Good o) (t : Int) : Good (recU o t) ∧ Along o.state (recU o t).state 1 :=
  ⟨⟨G.lo, G.hi, G.mat, ⟨G.sm.mat, G.sm.names, G.sm.links, G.sm.custom⟩⟩, Or.inl rfl⟩
theorem move_good {o : Ob} (G : Good o) (t : Int) : Good (move o t) ∧ Along o.state (move o t).state 2 := by
  have hm : (move o t).mat = o.mat := by unfold move; split <;> rfl
  have hs := move_state o t
  have hsm := move_small G.sm t
  rcases st2_cases o t with ⟨_, _, h3⟩ | ⟨_, _, h3, h4⟩ | ⟨_, _, h3, h4⟩ | ⟨_, _, h3, h4⟩
  · rw [h3] at hs
    exact ⟨⟨by rw [hs]; exact G.lo, by rw [hs]; exact G.hi, fun h5 => by rw [hm]; exact G.mat (by omega), hsm⟩, Or.inl hs⟩
  · rw [h4] at hs
    exact ⟨⟨by omega, by omega, fun h5 => by omega, hsm⟩, Or.inr (Or.inl (by rw [hs, h3]; decide))⟩
  · rw [h4] at hs
    exact ⟨⟨by omega, by omega, fun h5 => by omega, hsm⟩, Or.inr (Or.inl (by rw [hs, h3]; decide))⟩
  · rw [h4] at hs
    exact ⟨⟨by omega, by omega, fun h5 => by omega, hsm⟩, Or.inr (Or.inr ⟨rfl, by rw [h3]; decide, by rw [hs]; decide⟩)⟩
end Ob
end Go.Proofs.YtadpmninoghcjaaDoor
