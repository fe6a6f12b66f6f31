/-
  Chapter 11 in plain words.
-/
import Derived.Test.YtadpmninoghcjaaDoorObSpec
namespace Go.Proofs.YtadpmninoghcjaaDoor
set_option linter.unusedSimpArgs false
set_option linter.unusedVariables false
namespace Ob

def dget (o : Ob) (i : Nat) : Bool × Int := o.dates.getD i (false, 0)
def dput (o : Ob) (i : Nat) (d : Bool × Int) : Ob := { o with dates := o.dates.set i d }
def edgeB (a b : Int) : Bool :=
  if a = 1 then decide (b = 2) || decide (b = 4) || decide (b = 5) else
  if a = 2 then decide (b = 3) || decide (b = 4) else
  if a = 3 then decide (b = 4) || decide (b = 5) else
  if a = 4 then decide (b = 6) else
  if a = 5 then decide (b = 6) else false

/-! ### time -/
def isAt (d : Bool × Int) (t : Int) : Bool := d.1 && decide (d.2 ≤ t)
def go1 (o : Ob) (t : Int) : Bool := decide (o.state = 1) && isAt (dget o 1) t
def st1 (o : Ob) (t : Int) : Int := if go1 o t then 2 else o.state
def go2 (o : Ob) (t : Int) : Bool := decide (st1 o t = 2) && isAt (dget o 4) t
def st2 (o : Ob) (t : Int) : Int := if go2 o t then 3 else st1 o t
def due (o : Ob) (t : Int) : List Int := (if go1 o t then [2] else []) ++ (if go2 o t then [3] else [])
def move (o : Ob) (t : Int) : Ob := if go1 o t || go2 o t then dput { o with state := st2 o t } 9 (true, t) else o
def nxt (o : Ob) : Int × Bool :=
  if decide (o.state = 1) && (dget o 1).1 then ((dget o 1).2, true)
  else if decide (o.state = 2) && (dget o 4).1 then ((dget o 4).2, true) else (0, false)

/-! ### the five calls: why not, and what it is then -/
def told (e : Int) (u : Ob) : Ob := if e = 0 then u else zero
def actE (o : Ob) : Int := if o.arch then 13 else if edgeB o.state 2 then 0 else 11
def actU (o : Ob) (t : Int) : Ob := dput (dput { o with state := 2 } 1 (true, t)) 9 (true, t)
def whenR (o : Ob) (r : Int) : Int := if r = 2 then (if o.state = 5 then 6 else 4) else 3
def badR (r : Int) (msg : List UInt8) (oc : Bool × Int) (t : Int) : Bool :=
  decide (r < 1) || decide (7 < r) || (!decide (msg = []) && !isText msg) || (oc.1 && decide (t < oc.2)) || (!oc.1 && !decide (oc.2 = 0))
def revE (o : Ob) (r : Int) (msg : List UInt8) (oc : Bool × Int) (t : Int) : Int :=
  if badR r msg oc t then 7 else if o.arch then 13 else if edgeB o.state (whenR o r) then 0 else 11
def revU (o : Ob) (r : Int) (msg : List UInt8) (oc : Bool × Int) (t : Int) : Ob :=
  let p := { o with state := whenR o r, reason := r, msg := msg }
  dput (if r = 2 then dput (dput p 7 (true, t)) 6 (if oc.1 then oc else dget o 0) else dput p 4 (true, t)) 9 (true, t)
def whenD (o : Ob) : Int := if o.state = 4 then 6 else 5
def desE (o : Ob) : Int := if o.arch then 13 else if edgeB o.state (whenD o) then 0 else 11
def desU (o : Ob) (t : Int) : Ob := dput (dput { o with state := whenD o, mat := [] } 5 (true, t)) 9 (true, t)
def arcE (o : Ob) : Int := if o.arch then 13 else 0
def arcU (o : Ob) (t : Int) : Ob := dput (dput { o with arch := true } 8 (true, t)) 9 (true, t)
def recE (o : Ob) : Int := if o.arch then 0 else 11
def recU (o : Ob) (t : Int) : Ob := dput { o with arch := false } 9 (true, t)
/-- small enough to be copied -/
structure Small (o : Ob) : Prop where
  mat : o.mat.length ≤ 1000000
  names : o.names.length ≤ 1000000
  links : o.links.length ≤ 1000000
  custom : o.custom.length ≤ 1000000
theorem Small.zero : Small zero := ⟨by decide, by decide, by decide, by decide⟩
theorem Small.dput {o : Ob} (h : Small o) (i : Nat) (d : Bool × Int) : Small (dput o i d) := ⟨h.mat, h.names, h.links, h.custom⟩

/-! ### time's laws -/
theorem dget_dput (o : Ob) (i j : Nat) (d : Bool × Int) (hij : i ≠ j) : dget (dput o i d) j = dget o j := by
  unfold dget dput
  simp [List.getD_eq_getElem?_getD, List.getElem?_set, hij]
theorem st2_cases (o : Ob) (t : Int) : (go1 o t = false ∧ go2 o t = false ∧ st2 o t = o.state) ∨ (go1 o t = true ∧ go2 o t = false ∧ o.state = 1 ∧ st2 o t = 2) ∨ (go1 o t = false ∧ go2 o t = true ∧ o.state = 2 ∧ st2 o t = 3) ∨ (go1 o t = true ∧ go2 o t = true ∧ o.state = 1 ∧ st2 o t = 3) := by
  unfold st2
  cases h1 : go1 o t <;> cases h2 : go2 o t
  · left; simp [st1, h1]
  · right; right; left
    have : o.state = 2 := by unfold go2 st1 at h2; rw [h1] at h2; simp at h2; exact h2.1
    simp [this]
  · right; left
    have : o.state = 1 := by unfold go1 at h1; simp at h1; exact h1.1
    simp [st1, h1, this]
  · right; right; right
    have : o.state = 1 := by unfold go1 at h1; simp at h1; exact h1.1
    simp [this]
theorem move_state (o : Ob) (t : Int) : (move o t).state = st2 o t := by
  unfold move
  rcases st2_cases o t with ⟨h1, h2, h3⟩ | ⟨h1, h2, h3, h4⟩ | ⟨h1, h2, h3, h4⟩ | ⟨h1, h2, h3, h4⟩ <;> simp [h1, h2, h3, dput]
theorem move_dget (o : Ob) (t : Int) (j : Nat) (hj : 9 ≠ j) : dget (move o t) j = dget o j := by
  unfold move
  split
  · rw [dget_dput _ _ _ _ hj]; rfl
  · rfl
theorem move_small {o : Ob} (h : Small o) (t : Int) : Small (move o t) := by
  unfold move
  split
  · exact ⟨h.mat, h.names, h.links, h.custom⟩
  · exact h
theorem isAt_mono {d : Bool × Int} {t u : Int} (h : t ≤ u) (hd : isAt d t = true) : isAt d u = true := by
  unfold isAt at *
  simp at *
  exact ⟨hd.1, by omega⟩
/-- moved twice, at times that go on: as at once -/
theorem st2_move (o : Ob) (t u : Int) (h : t ≤ u) : st2 (move o t) u = st2 o u := by
  have e1 := move_dget o t 1 (by decide)
  have e4 := move_dget o t 4 (by decide)
  have es := move_state o t
  generalize move o t = p at *
  have m1 := @isAt_mono (dget o 1) t u h
  have m4 := @isAt_mono (dget o 4) t u h
  unfold st2 go2 st1 go1 at *
  rw [e1, e4, es]
  generalize isAt (dget o 1) t = a at *
  generalize isAt (dget o 4) t = b at *
  generalize isAt (dget o 1) u = c at *
  generalize isAt (dget o 4) u = d at *
  by_cases s1 : o.state = 1 <;> by_cases s2 : o.state = 2 <;> cases a <;> cases b <;> cases c <;> cases d <;> simp_all
/-- moved again at that time it stays -/
theorem move_again (o : Ob) (t : Int) : move (move o t) t = move o t := by
  have e1 := move_dget o t 1 (by decide)
  have e4 := move_dget o t 4 (by decide)
  have es := move_state o t
  have hc := st2_cases o t
  have key : go1 (move o t) t = false ∧ go2 (move o t) t = false := by
    unfold go2 st1 go1
    rw [e1, e4, es]
    unfold go2 st1 go1 st2 at hc
    unfold st2 go2 st1 go1
    generalize isAt (dget o 1) t = a at *
    generalize isAt (dget o 4) t = b at *
    by_cases s1 : o.state = 1 <;> by_cases s2 : o.state = 2 <;> cases a <;> cases b <;> simp_all
  rw [move, key.1, key.2]
  simp
/-- nothing moves ahead of its time -/
theorem next_ahead (o : Ob) (t : Int) (h : (nxt o).2 = true) (ht : t < (nxt o).1) : st2 o t = o.state := by
  unfold nxt at h ht
  unfold st2 go2 st1 go1 isAt
  by_cases s1 : o.state = 1
  · simp [s1] at h ht ⊢
    by_cases c : (dget o 1).1 = true
    · simp [c] at h ht ⊢
      omega
    · simp [c] at h ht ⊢
  · simp [s1] at h ht ⊢
    by_cases s2 : o.state = 2
    · simp [s2] at h ht ⊢
      by_cases c : (dget o 4).1 = true
      · simp [c] at h ht ⊢
        omega
      · simp [c] at h
    · simp [s2] at h
end Ob
end Go.Proofs.YtadpmninoghcjaaDoor
