/-
  More on the disk's plain rules: a disk that does not fall; what a sector has behind a flush, behind a crash.
  locksmithlaw4's known: a new disk's log.
  locksmithlaw4's texts and units.
  locksmithlaw4's units.
-/
import Derived.Test.YtmcobkcnpnfobaaGreatDkSpec
import Derived.Test.YtmcobkcnpnfobaaGreatWalDo
import Derived.Test.YtmcobkcnpnfobaaGreatArgSteps
import Derived.Test.YtmcobkcnpnfobaaGreatHandPick
import Derived.Test.YtmcobkcnpnfobaaGreatStr
namespace Go.Proofs.YtmcobkcnpnfobaaGreat
set_option linter.unusedSimpArgs false
set_option linter.unusedVariables false

structure Calm (d : Dk) : Prop where
  down : d.down = false
  fuse : d.fuse = -1

theorem Calm.fell {d : Dk} (h : Calm d) : d.fell = false := by unfold Dk.fell; rw [h.down, h.fuse]; rfl
theorem Calm.spent {d : Dk} (h : Calm d) : d.spent = { d with works := d.works + 1 } := by
  unfold Dk.spent
  rw [h.fuse]
  simp
theorem Calm.write {d : Dk} (h : Calm d) (k : Nat) (hk : k < d.secs.length) (bs : List UInt8) (hb : bs.length = 64) : d.write k bs = { d with pend := d.pend ++ [(k, bs)], works := d.works + 1 } ∧ d.writeE k bs = 0 := by
  have ht : d.there k = true := by unfold Dk.there; simp; omega
  unfold Dk.write Dk.writeE
  constructor
  · rw [if_pos ⟨ht, hb⟩, h.fell, h.spent]
    simp
  · rw [if_pos ⟨ht, hb⟩, h.fell]
    rfl
theorem Calm.flush {d : Dk} (h : Calm d) : d.flush = { d with secs := d.secs.putAll d.pend, pend := [], works := d.works + 1 } ∧ d.flushE = 0 := by
  unfold Dk.flush Dk.flushE
  rw [h.fell, h.spent]
  exact ⟨rfl, rfl⟩
theorem Calm.written {d : Dk} (h : Calm d) (p w) : Calm { d with pend := p, works := w } := ⟨h.down, h.fuse⟩
theorem Calm.flushed {d : Dk} (h : Calm d) (s p w) : Calm { d with secs := s, pend := p, works := w } := ⟨h.down, h.fuse⟩
theorem Calm.crashed (d : Dk) (fs) : Calm (d.crash fs) := ⟨rfl, rfl⟩
theorem Calm.new (n : Nat) : Calm (Dk.new n) := ⟨rfl, rfl⟩

theorem Calm.read {d : Dk} (h : Calm d) (hp : d.pend = []) (k : Nat) (hk : k < d.secs.length) : d.read k = (d.secs.getD k none).getD [] ∧ d.readE k = if (d.secs.getD k none).isSome then 0 else 8 := by
  have ht : d.there k = true := by unfold Dk.there; simp; omega
  have hl : d.look k = d.secs.getD k none := by unfold Dk.look; rw [hp]; rfl
  unfold Dk.read Dk.readE
  rw [ht, h.down]
  simp [hl]

theorem lastOf_append (l : Pends) (p : Nat × List UInt8) (k : Nat) : lastOf (l ++ [p]) k = if p.1 = k then some p.2 else lastOf l k := by
  unfold lastOf
  rw [List.foldl_append]
  rfl

theorem putAll_append (s : Secs) (l : Pends) (p : Nat × List UInt8) : s.putAll (l ++ [p]) = (s.putAll l).put p := by
  unfold Secs.putAll
  rw [List.foldl_append]
  rfl

theorem getD_set (s : Secs) (i k : Nat) (y : Option (List UInt8)) (hi : i < s.length) : (s.set i y).getD k none = if i = k then y else s.getD k none := by
  simp only [List.getD_eq_getElem?_getD, List.getElem?_set]
  by_cases e : i = k
  · subst e; simp [hi]
  · simp [e]

/-- what a sector has when all that pends is done -/
theorem putAll_get (s : Secs) (k : Nat) : ∀ l : Pends, (∀ p ∈ l, p.1 < s.length) → (s.putAll l).getD k none = match lastOf l k with
    | some b => some b
    | none => s.getD k none := by
  intro l
  have key : ∀ n, ∀ l : Pends, l.length = n → (∀ p ∈ l, p.1 < s.length) → (s.putAll l).getD k none = match lastOf l k with
      | some b => some b
      | none => s.getD k none := by
    intro n
    induction n with
    | zero =>
      intro l hl _
      have : l = [] := List.eq_nil_of_length_eq_zero hl
      subst this
      rfl
    | succ n ih =>
      intro l hl hp
      have hne : l ≠ [] := fun e => by rw [e] at hl; simp at hl
      have hd := List.dropLast_concat_getLast hne
      rw [← hd, putAll_append, lastOf_append]
      have h1 := ih l.dropLast (by simp; omega) (fun p hp' => hp p (List.dropLast_subset l hp'))
      have h2 := hp _ (List.getLast_mem hne)
      unfold Secs.put
      rw [getD_set _ _ _ _ (by rw [Secs.putAll_length]; exact h2)]
      by_cases e : (l.getLast hne).1 = k
      · rw [if_pos e, if_pos e]
      · rw [if_neg e, if_neg e]
        exact h1
  exact key l.length l rfl

/-- writes that fell on no sector twice, by a crash: none is hit but its own -/
theorem crashTo_other (fs : List Int) (l : Pends) (s : Secs) (k : Nat) : ∀ m, (∀ p ∈ l, p.1 ≠ k) → (crashTo fs l s m).getD k none = s.getD k none := by
  intro m h
  induction m with
  | zero => rfl
  | succ m ih =>
    unfold crashTo
    split
    · exact ih
    · rename_i p hp
      have hne := h p (List.mem_of_getElem? hp)
      rw [← ih]
      unfold Secs.hit
      split
      · simp only [Secs.put, List.getD_eq_getElem?_getD, List.getElem?_set_ne hne]
      · split
        · simp only [List.getD_eq_getElem?_getD, List.getElem?_set_ne hne]
        · rfl

end Go.Proofs.YtmcobkcnpnfobaaGreat

namespace Go.Proofs.YtmcobkcnpnfobaaGreat
open Go.RowKit
set_option linter.unusedSimpArgs false
set_option linter.unusedVariables false
namespace Wal

theorem new_sec (n k : Nat) (hk : k < n) : (Dk.new n).sec k = some (List.replicate 64 0) := by
  have h := (Calm.new n).read rfl k (by simpa [Dk.new] using hk)
  have e : (Dk.new n).secs.getD k none = some (List.replicate 64 0) := by simp [Dk.new, List.getD, hk]
  rw [e] at h
  unfold Dk.sec
  rw [h.1, h.2]
  rfl

theorem hdOf_zero : hdOf (List.replicate 64 0) = Hd.zero := by
  simp only [hdOf, Hd.zero, Hd.mk.injEq]
  decide +kernel
theorem headIn_zero (half : Nat) : headIn half (some (List.replicate 64 0)) = none := by
  have h : ¬ (hdOf (List.replicate 64 0)).lay = List.replicate 64 0 := by rw [hdOf_zero]; decide +kernel
  unfold headIn
  simp only
  rw [if_neg (fun e => h e.2.2)]

theorem found_new (n : Nat) (h : 8 ≤ n) : found (Dk.new n) = (Hd.zero, 0) := by
  unfold found
  rw [new_sec n 0 (by omega), new_sec n 1 (by omega), headIn_zero]
  rfl
theorem unitsOf_new (n : Nat) : unitsOf (Dk.new n) Hd.zero = some [] := by
  unfold unitsOf
  simp [Hd.zero, readFrom, takeAll]
theorem half_new (n : Nat) : (Dk.new n).half = (n - 2) / 2 := by simp [Dk.half, Dk.new]

theorem hasU_lit2 {w : World} {g : Nat} {a b : Value} {u v : List UInt8} {P : Nat → Prop} {t : TypeId} {fr : Nat × Nat} (h : w.heap[g]? = some (.cells #[a, b] t fr)) (ha : Has w a u) (hb : Has w b v) (pa : ∀ k, blk a = some k → P k) (pb : ∀ k, blk b = some k → P k) (pg : P g) : HasU P w (.slice (some ⟨g, 0, none⟩) 2 2) [u, v] :=
  ⟨[a, b], hasV_lit (vs := [a, b]) h (by simp [maxLen]), ⟨ha, fun _ => pa, hb, fun _ => pb, trivial⟩, fun _ k hk => by simp only [blk, Option.map_some, Option.some.injEq] at hk; subst hk; exact pg⟩
theorem hasU_lit1 {w : World} {g : Nat} {a : Value} {u : List UInt8} {P : Nat → Prop} {t : TypeId} {fr : Nat × Nat} (h : w.heap[g]? = some (.cells #[a] t fr)) (ha : Has w a u) (pa : ∀ k, blk a = some k → P k) (pg : P g) : HasU P w (.slice (some ⟨g, 0, none⟩) 1 1) [u] :=
  ⟨[a], hasV_lit (vs := [a]) h (by simp [maxLen]), ⟨ha, fun _ => pa, trivial⟩, fun _ k hk => by simp only [blk, Option.map_some, Option.some.injEq] at hk; subst hk; exact pg⟩


def lg0 : Lg := ⟨Hd.zero, 0, false⟩

section
variable {w0 w w' : World} {F : Nat → Prop} {B L : Nat} {d : Dk} {l : Lg}

theorem Logs.newU (h : Logs w0 w F B L d l) {v : Value} {us : List (List UInt8)} (hv : HasU (fun j => w.heap.size ≤ j) w' v us) : HasU (fun j => ¬ F j ∧ j ≠ L) w' v us :=
  hv.mono (fun k _ hk => ⟨fun e => by have := h.dk.lt k e; omega, by have := h.lt; omega⟩)
theorem Logs.new1 (h : Logs w0 w F B L d l) {v : Value} {u : List UInt8} (hv : ∀ j, blk v = some j → w.heap.size ≤ j) : u ≠ [] → ∀ j, blk v = some j → ¬ F j ∧ j ≠ L :=
  fun _ k hk => by have := hv k hk; exact ⟨fun e => by have := h.dk.lt k e; omega, by have := h.lt; omega⟩
end


section
variable {w0 w w' : World} {F : Nat → Prop} {B L : Nat} {d : Dk} {l : Lg}

theorem open_new (n : Nat) (hn : 8 ≤ n) (h : Dks w0 w F B (Dk.new n)) : Calls Tryz.prog 46 #[.pointer (some ⟨B, 0, none⟩)] w fun e w' => ∃ L ao cap, e = .returned (.tuple #[.pointer (some ⟨L, 0, none⟩), .slice ao 0 cap, .int .i64 0]) ∧ Logs w0 w' F B L (Dk.new n) lg0 ∧ w.heap.size ≤ L ∧ Only (fun _ => False) w w' := by
  refine (open_any h (by simp [Dk.new]) rfl).mono ?_
  rintro e w' ⟨h1, ho⟩
  rw [found_new n hn, unitsOf_new] at h1
  obtain ⟨L, v, rfl, hv, hl, hL⟩ := h1
  obtain ⟨ao, cap, rfl, _⟩ := hv.hasU.shape
  rw [found_new n hn] at hl
  exact ⟨L, ao, cap, rfl, hl, hL, ho⟩

end

end Wal
end Go.Proofs.YtmcobkcnpnfobaaGreat

namespace Go.Proofs.YtmcobkcnpnfobaaGreat
open Go.RowKit
set_option linter.unusedSimpArgs false
set_option linter.unusedVariables false
namespace Wal

/-- unit i of raw sizes -/
def textAt (n : Int) (ss : List Int) (i : Nat) : List UInt8 := rawBytes ((ss.getD i 0) % 150).toNat (IntKind.i64.wrap (n + i))
def textsTo (n : Int) (ss : List Int) : Nat → List (List UInt8)
  | 0 => []
  | k + 1 => textsTo n ss k ++ [textAt n ss k]
def texts (s : St4) : List (List UInt8) := textsTo s.num s.ss (min s.ss.length 4)

theorem textsTo_length (n : Int) (ss : List Int) (k : Nat) : (textsTo n ss k).length = k := by induction k with
  | zero => rfl
  | succ k ih => simp [textsTo, ih]
theorem textAt_length (n : Int) (ss : List Int) (i : Nat) : (textAt n ss i).length ≤ 149 := by
  unfold textAt
  rw [rawBytes_length]
  have h1 := Int.emod_nonneg (ss.getD i 0) (by decide : (150 : Int) ≠ 0)
  have h2 := Int.emod_lt_of_pos (ss.getD i 0) (by decide : (0 : Int) < 150)
  omega
theorem textsTo_small (n : Int) (ss : List Int) (k : Nat) : ∀ u ∈ textsTo n ss k, u.length ≤ 149 := by induction k with
  | zero => intro u hu; cases hu
  | succ k ih =>
    intro u hu
    rcases List.mem_append.1 hu with hu | hu
    · exact ih u hu
    · rw [List.mem_singleton.1 hu]; exact textAt_length n ss k
theorem sizes_small (us : List (List UInt8)) (h : ∀ u ∈ us, u.length ≤ 149) : sizes us ≤ 3 * us.length := by
  unfold sizes
  induction us with
  | nil => simp
  | cons u r ih =>
    rw [List.map_cons, List.sum_cons, List.length_cons]
    have h1 := ih (fun v hv => h v (by simp [hv]))
    have h2 : size u ≤ 3 := by have := h u (by simp); unfold size secsOf; omega
    omega
theorem texts_length (s : St4) : (texts s).length ≤ 4 := by unfold texts; rw [textsTo_length]; omega
theorem texts_sizes (s : St4) : sizes (texts s) ≤ 12 := by
  have h1 := sizes_small (texts s) (textsTo_small _ _ _)
  have h2 := texts_length s
  omega

end Wal
end Go.Proofs.YtmcobkcnpnfobaaGreat

namespace Go.Proofs.YtmcobkcnpnfobaaGreat
open Go.RowKit
set_option linter.unusedSimpArgs false
set_option linter.unusedVariables false
namespace Wal

theorem take_eq_succ (us vs : List (List UInt8)) (k : Nat) (hu : k < us.length) (hv : k < vs.length) (h : us.take k = vs.take k) (e : us[k] = vs[k]) : us.take (k + 1) = vs.take (k + 1) := by
  rw [List.take_succ_eq_append_getElem hu, List.take_succ_eq_append_getElem hv, h, e]

end Wal
end Go.Proofs.YtmcobkcnpnfobaaGreat
