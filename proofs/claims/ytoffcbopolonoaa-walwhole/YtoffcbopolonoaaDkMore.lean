/-
  More on the disk's plain rules: a disk that does not fall; what a sector has behind a flush, behind a crash.
-/
import Derived.Test.YtoffcbopolonoaaDkSpec
namespace Go.Proofs.Ytoffcbopolonoaa
set_option linter.unusedSimpArgs false
set_option linter.unusedVariables false

structure Calm (d : Dk) : Prop where
  down : d.down = false
  fuse : d.fuse = -1

theorem Calm.fell {d : Dk} (h : Calm d) : d.fell = false := by unfold Dk.fell; rw [h.down, h.fuse]; rfl
theorem Calm.spent {d : Dk} (h : Calm d) : d.spent = { d with works := d.works + 1 } := by
  unfold Dk.spent
  rw [h.fuse]
  simp
theorem Calm.write {d : Dk} (h : Calm d) (k : Nat) (hk : k < d.secs.length) (bs : List UInt8) (hb : bs.length = 64) : d.write k bs = { d with pend := d.pend ++ [(k, bs)], works := d.works + 1 } ∧ d.writeE k bs = 0 := by
  have ht : d.there k = true := by unfold Dk.there; simp; omega
  unfold Dk.write Dk.writeE
  constructor
  · rw [if_pos ⟨ht, hb⟩, h.fell, h.spent]
    simp
  · rw [if_pos ⟨ht, hb⟩, h.fell]
    rfl
theorem Calm.flush {d : Dk} (h : Calm d) : d.flush = { d with secs := d.secs.putAll d.pend, pend := [], works := d.works + 1 } ∧ d.flushE = 0 := by
  unfold Dk.flush Dk.flushE
  rw [h.fell, h.spent]
  exact ⟨rfl, rfl⟩
theorem Calm.written {d : Dk} (h : Calm d) (p w) : Calm { d with pend := p, works := w } := ⟨h.down, h.fuse⟩
theorem Calm.flushed {d : Dk} (h : Calm d) (s p w) : Calm { d with secs := s, pend := p, works := w } := ⟨h.down, h.fuse⟩
theorem Calm.crashed (d : Dk) (fs) : Calm (d.crash fs) := ⟨rfl, rfl⟩
theorem Calm.new (n : Nat) : Calm (Dk.new n) := ⟨rfl, rfl⟩

theorem Calm.read {d : Dk} (h : Calm d) (hp : d.pend = []) (k : Nat) (hk : k < d.secs.length) : d.read k = (d.secs.getD k none).getD [] ∧ d.readE k = if (d.secs.getD k none).isSome then 0 else 8 := by
  have ht : d.there k = true := by unfold Dk.there; simp; omega
  have hl : d.look k = d.secs.getD k none := by unfold Dk.look; rw [hp]; rfl
  unfold Dk.read Dk.readE
  rw [ht, h.down]
  simp [hl]

theorem lastOf_append (l : Pends) (p : Nat × List UInt8) (k : Nat) : lastOf (l ++ [p]) k = if p.1 = k then some p.2 else lastOf l k := by
  unfold lastOf
  rw [List.foldl_append]
  rfl

theorem putAll_append (s : Secs) (l : Pends) (p : Nat × List UInt8) : s.putAll (l ++ [p]) = (s.putAll l).put p := by
  unfold Secs.putAll
  rw [List.foldl_append]
  rfl

theorem getD_set (s : Secs) (i k : Nat) (y : Option (List UInt8)) (hi : i < s.length) : (s.set i y).getD k none = if i = k then y else s.getD k none := by
  simp only [List.getD_eq_getElem?_getD, List.getElem?_set]
  by_cases e : i = k
  · subst e; simp [hi]
  · simp [e]

/-- what a sector has when all that pends is done -/
theorem putAll_get (s : Secs) (k : Nat) : ∀ l : Pends, (∀ p ∈ l, p.1 < s.length) → (s.putAll l).getD k none = match lastOf l k with
    | some b => some b
    | none => s.getD k none := by
  intro l
  have key : ∀ n, ∀ l : Pends, l.length = n → (∀ p ∈ l, p.1 < s.length) → (s.putAll l).getD k none = match lastOf l k with
      | some b => some b
      | none => s.getD k none := by
    intro n
    induction n with
    | zero =>
      intro l hl _
      have : l = [] := List.eq_nil_of_length_eq_zero hl
      subst this
      rfl
    | succ n ih =>
      intro l hl hp
      have hne : l ≠ [] := fun e => by rw [e] at hl; simp at hl
      have hd := List.dropLast_concat_getLast hne
      rw [← hd, putAll_append, lastOf_append]
      have h1 := ih l.dropLast (by simp; omega) (fun p hp' => hp p (List.dropLast_subset l hp'))
      have h2 := hp _ (List.getLast_mem hne)
      unfold Secs.put
      rw [getD_set _ _ _ _ (by rw [Secs.putAll_length]; exact h2)]
      by_cases e : (l.getLast hne).1 = k
      · rw [if_pos e, if_pos e]
      · rw [if_neg e, if_neg e]
        exact h1
  exact key l.length l rfl

/-- writes that fell on no sector twice, by a crash: none is hit but its own -/
theorem crashTo_other (fs : List Int) (l : Pends) (s : Secs) (k : Nat) : ∀ m, (∀ p ∈ l, p.1 ≠ k) → (crashTo fs l s m).getD k none = s.getD k none := by
  intro m h
  induction m with
  | zero => rfl
  | succ m ih =>
    unfold crashTo
    split
    · exact ih
    · rename_i p hp
      have hne := h p (List.mem_of_getElem? hp)
      rw [← ih]
      unfold Secs.hit
      split
      · simp only [Secs.put, List.getD_eq_getElem?_getD, List.getElem?_set_ne hne]
      · split
        · simp only [List.getD_eq_getElem?_getD, List.getElem?_set_ne hne]
        · rfl

end Go.Proofs.Ytoffcbopolonoaa
