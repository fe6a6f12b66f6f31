/-
  Chapter 3, said plainly: a disk whose sectors may fall; how it lies in memory.
-/
import Derived.Test.YtmcobkcnpnfobaaGreatRow
namespace Go.Proofs.YtmcobkcnpnfobaaGreat
open Go.RowKit
set_option linter.unusedSimpArgs false
set_option linter.unusedVariables false

abbrev Secs := List (Option (List UInt8))
abbrev Pends := List (Nat × List UInt8)

structure Dk where
  secs : Secs
  pend : Pends
  fuse : Int
  down : Bool
  works : Nat

def Dk.new (n : Nat) : Dk := ⟨List.replicate n (some (List.replicate 64 0)), [], -1, false, 0⟩
def Secs.put (s : Secs) (p : Nat × List UInt8) : Secs := s.set p.1 (some p.2)
def Secs.putAll (s : Secs) (l : Pends) : Secs := l.foldl Secs.put s
/-- the next work falls -/
def Dk.fell (d : Dk) : Bool := d.down || d.fuse == 0
def Dk.felled (d : Dk) : Dk := { d with down := true }
def Dk.spent (d : Dk) : Dk := { d with fuse := if 0 < d.fuse then d.fuse - 1 else d.fuse, works := d.works + 1 }
def Dk.worked (d : Dk) : Dk := if d.fell then d.felled else d.spent
def Dk.there (d : Dk) (k : Int) : Bool := decide (0 ≤ k ∧ k < d.secs.length)

def Dk.write (d : Dk) (k : Int) (bs : List UInt8) : Dk :=
  if d.there k = true ∧ bs.length = 64 then (if d.fell then d.felled else { d.spent with pend := d.pend ++ [(k.toNat, bs)] }) else d
def Dk.writeE (d : Dk) (k : Int) (bs : List UInt8) : Int :=
  if d.there k = true ∧ bs.length = 64 then (if d.fell then 9 else 0) else 1
def Dk.flush (d : Dk) : Dk := if d.fell then d.felled else { d.spent with secs := d.secs.putAll d.pend, pend := [] }
def Dk.flushE (d : Dk) : Int := if d.fell then 9 else 0

def lastOf (l : Pends) (k : Nat) : Option (List UInt8) := l.foldl (fun acc p => if p.1 = k then some p.2 else acc) none
def Dk.look (d : Dk) (k : Nat) : Option (List UInt8) := match lastOf d.pend k with
  | some b => some b
  | none => d.secs.getD k none
def Dk.read (d : Dk) (k : Int) : List UInt8 := if d.there k then (if d.down then [] else (d.look k.toNat).getD []) else []
def Dk.readE (d : Dk) (k : Int) : Int := if d.there k then (if d.down then 9 else if (d.look k.toNat).isSome then 0 else 8) else 1

def fate (fs : List Int) (i : Nat) : Int := match fs[i]? with
  | none => 1
  | some f => f % 3
def Secs.hit (s : Secs) (f : Int) (p : Nat × List UInt8) : Secs := if f = 0 then s.put p else if f = 2 then s.set p.1 none else s
def crashTo (fs : List Int) (l : Pends) (s : Secs) : Nat → Secs
  | 0 => s
  | k + 1 => match l[k]? with
    | none => crashTo fs l s k
    | some p => (crashTo fs l s k).hit (fate fs k) p
def Dk.crash (d : Dk) (fs : List Int) : Dk := { secs := crashTo fs d.pend d.secs d.pend.length, pend := [], fuse := -1, down := false, works := d.works }
def Dk.fused (d : Dk) (n : Int) : Dk := { d with fuse := n }

/-- such as may be -/
structure Dk.Fine (d : Dk) : Prop where
  secs : ∀ s ∈ d.secs, ∀ bs, s = some bs → bs.length = 64
  pend : ∀ p ∈ d.pend, p.1 < d.secs.length ∧ p.2.length = 64
  n1 : 8 ≤ d.secs.length
  n2 : d.secs.length ≤ 4096
  many : d.pend.length ≤ d.works
  f1 : -9223372036854775808 ≤ d.fuse
  f2 : d.fuse ≤ 9223372036854775807

theorem Secs.put_length (s : Secs) (p) : (s.put p).length = s.length := by simp [Secs.put]
theorem Secs.hit_length (s : Secs) (f p) : (s.hit f p).length = s.length := by unfold Secs.hit; split; exact Secs.put_length s p; split <;> simp
theorem Secs.putAll_length (s : Secs) (l : Pends) : (s.putAll l).length = s.length := by
  induction l generalizing s with
  | nil => rfl
  | cons p r ih => exact (ih (s.put p)).trans (Secs.put_length s p)
theorem crashTo_length (fs l) (s : Secs) (k) : (crashTo fs l s k).length = s.length := by
  induction k with
  | zero => rfl
  | succ k ih =>
    unfold crashTo
    split
    · exact ih
    · rw [Secs.hit_length, ih]

theorem Secs.putAll_take (s : Secs) (l : Pends) (k : Nat) (p) (h : l[k]? = some p) : s.putAll (l.take (k + 1)) = (s.putAll (l.take k)).put p := by
  unfold Secs.putAll
  rw [List.take_add_one, h, List.foldl_append]
  rfl

def Secs.Fine (s : Secs) : Prop := ∀ x ∈ s, ∀ bs, x = some bs → bs.length = 64
theorem Secs.Fine.set {s : Secs} (h : s.Fine) (k : Nat) (y : Option (List UInt8)) (hy : ∀ bs, y = some bs → bs.length = 64) : Secs.Fine (s.set k y) := by
  intro x hx bs e
  rcases List.mem_or_eq_of_mem_set hx with hx | rfl
  · exact h x hx bs e
  · exact hy bs e
theorem Secs.Fine.put {s : Secs} (h : s.Fine) (p : Nat × List UInt8) (hp : p.2.length = 64) : Secs.Fine (s.put p) := h.set p.1 _ (fun bs e => by cases e; exact hp)
theorem Secs.Fine.hit {s : Secs} (h : s.Fine) (f) (p : Nat × List UInt8) (hp : p.2.length = 64) : Secs.Fine (s.hit f p) := by
  unfold Secs.hit
  split
  · exact h.put p hp
  · split
    · exact h.set p.1 _ (fun bs e => by cases e)
    · exact h
theorem Secs.Fine.putAll {s : Secs} (h : s.Fine) (l : Pends) (hl : ∀ p ∈ l, p.2.length = 64) : Secs.Fine (s.putAll l) := by
  induction l generalizing s with
  | nil => exact h
  | cons p r ih => exact ih (h.put p (hl p (by simp))) (fun q hq => hl q (by simp [hq]))
theorem Secs.Fine.crash {s : Secs} (h : s.Fine) (fs) (l : Pends) (hl : ∀ p ∈ l, p.2.length = 64) (k) : Secs.Fine (crashTo fs l s k) := by
  induction k with
  | zero => exact h
  | succ k ih =>
    unfold crashTo
    split
    · exact ih
    · rename_i p hp
      exact ih.hit _ p (hl p (List.mem_of_getElem? hp))

theorem Dk.Fine.withSecs {d : Dk} (h : d.Fine) {s : Secs} (hs : s.Fine) (hl : s.length = d.secs.length) : Dk.Fine { d with secs := s } :=
  ⟨hs, fun p hp => by have := h.pend p hp; exact ⟨by show p.1 < s.length; omega, this.2⟩, by show 8 ≤ s.length; have := h.n1; omega, by show s.length ≤ 4096; have := h.n2; omega, h.many, h.f1, h.f2⟩
theorem Dk.Fine.spent {d : Dk} (h : d.Fine) : d.spent.Fine :=
  ⟨h.secs, h.pend, h.n1, h.n2, by have := h.many; show d.pend.length ≤ d.works + 1; omega, by have := h.f1; show _ ≤ (if 0 < d.fuse then d.fuse - 1 else d.fuse); split <;> omega, by have := h.f2; show (if 0 < d.fuse then d.fuse - 1 else d.fuse) ≤ _; split <;> omega⟩
theorem Dk.Fine.felled {d : Dk} (h : d.Fine) : d.felled.Fine := ⟨h.secs, h.pend, h.n1, h.n2, h.many, h.f1, h.f2⟩
theorem Dk.Fine.worked {d : Dk} (h : d.Fine) : d.worked.Fine := by unfold Dk.worked; split; exact h.felled; exact h.spent
theorem Dk.Fine.noPend {d : Dk} (h : d.Fine) : Dk.Fine { d with pend := [] } := ⟨h.secs, fun p hp => (by cases hp), h.n1, h.n2, by simp, h.f1, h.f2⟩
theorem Dk.Fine.flush {d : Dk} (h : d.Fine) : d.flush.Fine := by
  unfold Dk.flush
  split
  · exact h.felled
  · exact (h.spent.withSecs (s := d.secs.putAll d.pend) (Secs.Fine.putAll h.secs _ (fun p hp => (h.pend p hp).2)) (Secs.putAll_length _ _)).noPend
theorem Dk.Fine.write {d : Dk} (h : d.Fine) (k bs) : (d.write k bs).Fine := by
  unfold Dk.write
  split
  · rename_i hc
    split
    · exact h.felled
    · have hs := h.spent
      refine ⟨hs.secs, ?_, hs.n1, hs.n2, ?_, hs.f1, hs.f2⟩
      · intro p hp
        have hp' : p ∈ d.pend ++ [(k.toNat, bs)] := hp
        rcases List.mem_append.1 hp' with hp | hp
        · exact h.pend p hp
        · simp at hp
          subst hp
          have := hc.1
          simp only [Dk.there, decide_eq_true_eq] at this
          exact ⟨by show k.toNat < d.secs.length; omega, hc.2⟩
      · have := h.many
        show (d.pend ++ [(k.toNat, bs)]).length ≤ d.works + 1
        simp
        omega
  · exact h
theorem Dk.Fine.crash {d : Dk} (h : d.Fine) (fs) : (d.crash fs).Fine := by
  have hl := crashTo_length fs d.pend d.secs d.pend.length
  refine ⟨Secs.Fine.crash h.secs fs _ (fun p hp => (h.pend p hp).2) _, fun p hp => (by cases hp), ?_, ?_, by simp [Dk.crash], by simp [Dk.crash], by simp [Dk.crash]⟩
  · show 8 ≤ (crashTo fs d.pend d.secs d.pend.length).length; have := h.n1; omega
  · show (crashTo fs d.pend d.secs d.pend.length).length ≤ 4096; have := h.n2; omega
theorem Dk.Fine.fused {d : Dk} (h : d.Fine) (n : Int) (h1 : -9223372036854775808 ≤ n) (h2 : n ≤ 9223372036854775807) : (d.fused n).Fine := ⟨h.secs, h.pend, h.n1, h.n2, h.many, h1, h2⟩
theorem Dk.Fine.new (n : Nat) (h1 : 8 ≤ n) (h2 : n ≤ 4096) : (Dk.new n).Fine := by
  refine ⟨fun s hs bs e => ?_, fun p hp => (by cases hp), by simpa [Dk.new] using h1, by simpa [Dk.new] using h2, by simp [Dk.new], by simp [Dk.new], by simp [Dk.new]⟩
  have := List.eq_of_mem_replicate (show s ∈ List.replicate n _ from hs)
  subst this
  cases e
  simp

theorem lastOf_take (l : Pends) (i k : Nat) (p) (h : l[i]? = some p) : lastOf (l.take (i + 1)) k = if p.1 = k then some p.2 else lastOf (l.take i) k := by
  unfold lastOf
  rw [List.take_add_one, h, List.foldl_append]
  rfl

/-- a sector's cells -/
def sec : Option (List UInt8) → List Value
  | some bs => bs.map bv ++ [.bool false]
  | none => (List.replicate 64 0).map bv ++ [.bool true]
/-- the cells of a write that pends -/
def pen (p : Nat × List UInt8) : List Value := .int .i64 p.1 :: p.2.map bv

theorem sec_length {s : Option (List UInt8)} (h : ∀ bs, s = some bs → bs.length = 64) : (sec s).length = 65 := by
  cases s with
  | none => simp [sec]
  | some bs => simp [sec, h bs rfl]
theorem pen_length {p : Nat × List UInt8} (h : p.2.length = 64) : (pen p).length = 65 := by simp [pen, h]
theorem bv_one (b : UInt8) : (bv b).oneCell' = true := rfl
theorem bvs_one (bs : List UInt8) : ∀ v ∈ bs.map bv, v.oneCell' = true := by
  intro v hv
  obtain ⟨b, _, rfl⟩ := List.mem_map.1 hv
  rfl
theorem sec_one (s) : ∀ v ∈ sec s, v.oneCell' = true := by
  intro v hv
  cases s <;> simp only [sec, List.mem_append, List.mem_singleton] at hv <;> rcases hv with hv | rfl
  · exact bvs_one _ v hv
  · rfl
  · exact bvs_one _ v hv
  · rfl
theorem pen_one (p) : ∀ v ∈ pen p, v.oneCell' = true := by
  intro v hv
  rcases List.mem_cons.1 hv with rfl | hv
  · rfl
  · exact bvs_one _ v hv

end Go.Proofs.YtmcobkcnpnfobaaGreat
