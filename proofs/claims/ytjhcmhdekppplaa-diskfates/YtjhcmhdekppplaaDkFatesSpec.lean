/-
  DiskFates' road in plain rules: twenty sectors written, flushed, written again from behind, and crashed.
-/
import Derived.Test.YtjhcmhdekppplaaDkMore
import Derived.Test.YtjhcmhdekppplaaDkAt
namespace Go.Proofs.Ytjhcmhdekppplaa
set_option linter.unusedSimpArgs false
set_option linter.unusedVariables false

def up1 (i : Nat) : Pends := (List.range i).map (fun j => (j, S64 (100 + (j : Int))))
def up2 (i : Nat) : Pends := (List.range i).map (fun j => (19 - j, S64 (200 + (j : Int))))
def fa1 (i : Nat) : Dk := { Dk.new 20 with pend := up1 i, works := i }
def fa2 (i : Nat) : Dk := { secs := (Dk.new 20).secs.putAll (up1 20), pend := up2 i, fuse := -1, down := false, works := 21 + i }

theorem up1_succ (i : Nat) : up1 (i + 1) = up1 i ++ [(i, S64 (100 + (i : Int)))] := by simp [up1, List.range_succ]
theorem up2_succ (i : Nat) : up2 (i + 1) = up2 i ++ [(19 - i, S64 (200 + (i : Int)))] := by simp [up2, List.range_succ]
theorem fa1_len (i : Nat) : (fa1 i).secs.length = 20 := by simp [fa1, Dk.new]
theorem fa2_len (i : Nat) : (fa2 i).secs.length = 20 := by
  show ((Dk.new 20).secs.putAll (up1 20)).length = 20
  rw [Secs.putAll_length]
  rfl
theorem fa1_calm (i : Nat) : Calm (fa1 i) := ⟨rfl, rfl⟩
theorem fa2_calm (i : Nat) : Calm (fa2 i) := ⟨rfl, rfl⟩

theorem fa1_write (i : Nat) (hi : i < 20) : (fa1 i).write i (S64 (100 + (i : Int))) = fa1 (i + 1) := by
  rw [((fa1_calm i).write i (by rw [fa1_len]; exact hi) _ (S64_length _)).1]
  unfold fa1
  rw [up1_succ]
theorem fa1_flush : (fa1 20).flush = fa2 0 := by
  rw [(fa1_calm 20).flush.1]
  rfl
theorem fa2_write (i : Nat) (hi : i < 20) (k : Int) (hk : k = 19 - (i : Int)) : (fa2 i).write k (S64 (200 + (i : Int))) = fa2 (i + 1) := by
  obtain rfl : k = ((19 - i : Nat) : Int) := by omega
  rw [((fa2_calm i).write (19 - i) (by rw [fa2_len]; omega) _ (S64_length _)).1]
  unfold fa2
  rw [up2_succ]
  rfl

theorem lastOf_up1 (i k : Nat) : lastOf (up1 i) k = if k < i then some (S64 (100 + (k : Int))) else none := by
  induction i with
  | zero => rfl
  | succ i ih =>
    rw [up1_succ, lastOf_append, ih]
    by_cases e : i = k
    · subst e; simp
    · simp only [e, if_false]
      by_cases e2 : k < i
      · rw [if_pos e2, if_pos (by omega)]
      · rw [if_neg e2, if_neg (by omega)]

theorem fa2_get (k : Nat) (hk : k < 20) : (fa2 20).secs.getD k none = some (S64 (100 + (k : Int))) := by
  show ((Dk.new 20).secs.putAll (up1 20)).getD k none = _
  rw [putAll_get, lastOf_up1, if_pos hk]
  intro p hp
  obtain ⟨j, hj, rfl⟩ := List.mem_map.1 hp
  simp at hj
  show j < 20
  exact hj

/-- what sector 19 - j has behind the crash -/
def fated (fs : List Int) (j : Nat) : Option (List UInt8) := if fate fs j = 0 then some (S64 (200 + (j : Int))) else if fate fs j = 2 then none else some (S64 (119 - (j : Int)))

theorem up2_get (j : Nat) (hj : j < 20) : (up2 20)[j]? = some (19 - j, S64 (200 + (j : Int))) := by simp [up2, hj]

theorem crash_get (fs : List Int) (s : Secs) (hs : s.length = 20) : ∀ m, m ≤ 20 → ∀ j, j < 20 → (crashTo fs (up2 20) s m).getD (19 - j) none =
    if j < m then (if fate fs j = 0 then some (S64 (200 + (j : Int))) else if fate fs j = 2 then none else s.getD (19 - j) none) else s.getD (19 - j) none := by
  intro m
  induction m with
  | zero => intro _ j _; simp [crashTo]
  | succ m ih =>
    intro hm j hj
    unfold crashTo
    rw [up2_get m (by omega)]
    simp only
    have h1 := ih (by omega) j hj
    have hlen := crashTo_length fs (up2 20) s m
    unfold Secs.hit
    by_cases e : m = j
    · subst e
      have hself : (crashTo fs (up2 20) s m).getD (19 - m) none = s.getD (19 - m) none := by rw [h1, if_neg (Nat.lt_irrefl _)]
      rw [if_pos (show m < m + 1 by omega)]
      split
      · unfold Secs.put
        rw [getD_set _ _ _ _ (by rw [hlen, hs]; omega), if_pos rfl]
      · split
        · rw [getD_set _ _ _ _ (by rw [hlen, hs]; omega), if_pos rfl]
        · exact hself
    · have hne : ¬ 19 - m = 19 - j := by omega
      have hrhs : (if j < m + 1 then (if fate fs j = 0 then some (S64 (200 + (j : Int))) else if fate fs j = 2 then none else s.getD (19 - j) none) else s.getD (19 - j) none) = (if j < m then (if fate fs j = 0 then some (S64 (200 + (j : Int))) else if fate fs j = 2 then none else s.getD (19 - j) none) else s.getD (19 - j) none) := by
        by_cases hjm : j < m
        · rw [if_pos hjm, if_pos (show j < m + 1 by omega)]
        · rw [if_neg hjm, if_neg (show ¬ j < m + 1 by omega)]
      rw [hrhs, ← h1]
      split
      · unfold Secs.put
        rw [getD_set _ _ _ _ (by rw [hlen, hs]; omega), if_neg hne]
      · split
        · rw [getD_set _ _ _ _ (by rw [hlen, hs]; omega), if_neg hne]
        · rfl

/-- the disk in the last loop: what is not looked at yet is as fated -/
structure FateInv (fs : List Int) (i : Nat) (d : Dk) : Prop where
  calm : Calm d
  pend : d.pend = []
  len : d.secs.length = 20
  works : d.works ≤ 41 + 2 * i
  rest : ∀ j, i ≤ j → j < 20 → d.secs.getD (19 - j) none = fated fs j

theorem FateInv.start (fs : List Int) : FateInv fs 0 ((fa2 20).crash fs) := by
  refine ⟨⟨rfl, rfl⟩, rfl, ?_, Nat.le_refl _, fun j _ hj => ?_⟩
  · show (crashTo fs (up2 20) (fa2 20).secs (up2 20).length).length = 20
    rw [crashTo_length, fa2_len]
  · show (crashTo fs (up2 20) (fa2 20).secs (up2 20).length).getD (19 - j) none = _
    rw [show (up2 20).length = 20 from rfl, crash_get fs _ (fa2_len 20) 20 (Nat.le_refl _) j hj, if_pos hj, fa2_get (19 - j) (by omega)]
    unfold fated
    rw [show (100 + ((19 - j : Nat) : Int)) = 119 - (j : Int) by omega]

theorem FateInv.next {fs : List Int} {i : Nat} {d : Dk} (h : FateInv fs i d) : FateInv fs (i + 1) d := ⟨h.calm, h.pend, h.len, by have := h.works; omega, fun j hj h20 => h.rest j (by omega) h20⟩

theorem FateInv.read {fs : List Int} {i : Nat} {d : Dk} (h : FateInv fs i d) (hi : i < 20) (k : Int) (hk : k = 19 - (i : Int)) : d.read k = (fated fs i).getD [] ∧ d.readE k = if (fated fs i).isSome then 0 else 8 := by
  obtain rfl : k = ((19 - i : Nat) : Int) := by omega
  have := h.calm.read h.pend (19 - i) (by rw [h.len]; omega)
  rw [h.rest i (Nat.le_refl _) hi] at this
  exact this

theorem FateInv.again {fs : List Int} {i : Nat} {d : Dk} (h : FateInv fs i d) (hi : i < 20) (k : Int) (hk : k = 19 - (i : Int)) (bs : List UInt8) (hb : bs.length = 64) :
    (d.write k bs).works ≤ 42 + 2 * i ∧ FateInv fs (i + 1) (d.write k bs).flush ∧ (d.write k bs).flush.read k = bs ∧ (d.write k bs).flush.readE k = 0 := by
  obtain rfl : k = ((19 - i : Nat) : Int) := by omega
  obtain ⟨e1, _⟩ := h.calm.write (19 - i) (by rw [h.len]; omega) bs hb
  have hc : Calm (d.write ((19 - i : Nat) : Int) bs) := by rw [e1]; exact h.calm.written _ _
  have e2 := hc.flush.1
  rw [e1] at e2 ⊢
  simp only [h.pend, List.nil_append] at e2 ⊢
  have hp : d.secs.putAll [(19 - i, bs)] = d.secs.set (19 - i) (some bs) := rfl
  rw [e2]
  simp only [hp]
  have hw := h.works
  have hF : FateInv fs (i + 1) { secs := d.secs.set (19 - i) (some bs), pend := [], fuse := d.fuse, down := d.down, works := d.works + 1 + 1 } := by
    refine ⟨⟨h.calm.down, h.calm.fuse⟩, rfl, by simp [h.len], by show d.works + 1 + 1 ≤ _; omega, fun j hj h20 => ?_⟩
    show (d.secs.set (19 - i) (some bs)).getD (19 - j) none = _
    rw [getD_set _ _ _ _ (by rw [h.len]; omega), if_neg (by omega)]
    exact h.rest j (by omega) h20
  have hr := hF.calm.read hF.pend (19 - i) (by rw [hF.len]; omega)
  have hg : (d.secs.set (19 - i) (some bs)).getD (19 - i) none = some bs := by rw [getD_set _ _ _ _ (by rw [h.len]; omega), if_pos rfl]
  simp only [hg] at hr
  exact ⟨by show d.works + 1 ≤ _; omega, hF, hr.1, hr.2⟩

end Go.Proofs.Ytjhcmhdekppplaa
