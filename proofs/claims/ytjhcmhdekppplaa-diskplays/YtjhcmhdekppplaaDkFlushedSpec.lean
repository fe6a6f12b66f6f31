/-
  DiskFlushed's road in plain rules; local arrays.
-/
import Derived.Test.YtjhcmhdekppplaaDkMore
import Derived.Test.YtjhcmhdekppplaaDkAt
import Derived.Test.YtjhcmhdekppplaaArgStep3
namespace Go.Proofs.Ytjhcmhdekppplaa
open Go.RowKit
set_option linter.unusedSimpArgs false
set_option linter.unusedVariables false

def one1 (s : St3) : Nat × List UInt8 := ((s.place % 12).toNat, S64 s.num)
def one2 (s : St3) : Nat × List UInt8 := ((s.num % 12).toNat, S64 s.place)
def w1P (X : Nat → St3) (i : Nat) : Pends := (List.range i).map (fun j => one1 (X j))
def w2P (X : Nat → St3) (i : Nat) : Pends := (List.range i).map (fun j => one2 (X j))
def z12 : Secs := (Dk.new 12).secs
def d1 (X : Nat → St3) (i : Nat) : Dk := { secs := z12, pend := w1P X i, fuse := -1, down := false, works := i }
def d2 (X : Nat → St3) (n j : Nat) : Dk := { secs := z12.putAll (w1P X n), pend := w2P X j, fuse := -1, down := false, works := n + 1 + j }
def z64 : List UInt8 := List.replicate 64 0

theorem w1P_succ (X i) : w1P X (i + 1) = w1P X i ++ [one1 (X i)] := by simp [w1P, List.range_succ]
theorem w2P_succ (X i) : w2P X (i + 1) = w2P X i ++ [one2 (X i)] := by simp [w2P, List.range_succ]
theorem z12_len : z12.length = 12 := rfl
theorem mod12 (n : Int) : (n % 12).toNat < 12 ∧ n % 12 = ((n % 12).toNat : Int) := by
  have h1 := Int.emod_nonneg n (show (12 : Int) ≠ 0 by decide)
  have h2 := Int.emod_lt_of_pos n (show (0 : Int) < 12 by decide)
  omega
theorem d1_calm (X i) : Calm (d1 X i) := ⟨rfl, rfl⟩
theorem d2_calm (X n j) : Calm (d2 X n j) := ⟨rfl, rfl⟩
theorem d2_len (X n j) : (d2 X n j).secs.length = 12 := (Secs.putAll_length _ _).trans z12_len

theorem d1_write (X : Nat → St3) (i : Nat) : (d1 X i).write ((X i).place % 12) (S64 (X i).num) = d1 X (i + 1) ∧ (d1 X i).writeE ((X i).place % 12) (S64 (X i).num) = 0 := by
  obtain ⟨h1, h2⟩ := mod12 (X i).place
  have h := (d1_calm X i).write ((X i).place % 12).toNat (by show _ < z12.length; rw [z12_len]; exact h1) (S64 (X i).num) (S64_length _)
  rw [← h2] at h
  refine ⟨h.1.trans ?_, h.2⟩
  unfold d1
  rw [w1P_succ]
  rfl
theorem d1_flush (X : Nat → St3) (i : Nat) : (d1 X i).flush = d2 X i 0 ∧ (d1 X i).flushE = 0 := by
  have h := (d1_calm X i).flush
  exact ⟨h.1.trans rfl, h.2⟩
theorem d2_write (X : Nat → St3) (n i : Nat) : (d2 X n i).write ((X i).num % 12) (S64 (X i).place) = d2 X n (i + 1) := by
  obtain ⟨h1, h2⟩ := mod12 (X i).num
  have h := (d2_calm X n i).write ((X i).num % 12).toNat (by rw [d2_len]; exact h1) (S64 (X i).place) (S64_length _)
  rw [← h2] at h
  refine h.1.trans ?_
  unfold d2
  rw [w2P_succ]
  rfl

/-- what each sector is to have -/
def wants (P : Pends) : List (List UInt8) := (List.range 12).map (fun k => (lastOf P k).getD z64)
/-- which were written to again -/
def agains (Q : Pends) : List Bool := (List.range 12).map (fun k => Q.any (fun p => p.1 == k))
theorem wants_len (P) : (wants P).length = 12 := by simp [wants]
theorem agains_len (Q) : (agains Q).length = 12 := by simp [agains]
theorem wants_push (P : Pends) (p : Nat × List UInt8) (hp : p.1 < 12) : wants (P ++ [p]) = (wants P).set p.1 p.2 := by
  apply List.ext_getElem?
  intro i
  rw [List.getElem?_set]
  by_cases hi : i < 12
  · simp only [wants, List.getElem?_map, List.getElem?_range hi, Option.map_some, List.length_map, List.length_range, hp, if_true]
    rw [lastOf_append]
    by_cases e : p.1 = i
    · simp [e]
    · simp [e]
  · have h1 : (wants (P ++ [p]))[i]? = none := List.getElem?_eq_none (by rw [wants_len]; omega)
    have h2 : (wants P)[i]? = none := List.getElem?_eq_none (by rw [wants_len]; omega)
    rw [h1, h2, if_neg (by omega)]
theorem agains_push (Q : Pends) (p : Nat × List UInt8) (hp : p.1 < 12) : agains (Q ++ [p]) = (agains Q).set p.1 true := by
  apply List.ext_getElem?
  intro i
  rw [List.getElem?_set]
  by_cases hi : i < 12
  · simp only [agains, List.getElem?_map, List.getElem?_range hi, Option.map_some, List.length_map, List.length_range, hp, if_true, List.any_append, List.any_cons, List.any_nil, Bool.or_false]
    by_cases e : p.1 = i
    · simp [e]
    · simp [e]
  · have h1 : (agains (Q ++ [p]))[i]? = none := List.getElem?_eq_none (by rw [agains_len]; omega)
    have h2 : (agains Q)[i]? = none := List.getElem?_eq_none (by rw [agains_len]; omega)
    rw [h1, h2, if_neg (by omega)]
theorem wants_nil : wants [] = List.replicate 12 z64 := by rfl
theorem agains_nil : agains [] = List.replicate 12 false := by rfl

/-- THE STAGE'S THEOREM, plainly -/
theorem flushed_read (X : Nat → St3) (n j : Nat) (fs : List Int) (k : Nat) (hk : k < 12) (ha : (agains (w2P X j))[k]? = some false) :
    ((d2 X n j).crash fs).readE k = 0 ∧ (wants (w1P X n))[k]? = some (((d2 X n j).crash fs).read k) := by
  have hlen : ((d2 X n j).crash fs).secs.length = 12 := (crashTo_length _ _ _ _).trans (d2_len X n j)
  have hno : ∀ p ∈ w2P X j, p.1 ≠ k := by
    simp only [agains, List.getElem?_map, List.getElem?_range hk, Option.map_some, Option.some.injEq] at ha
    intro p hp e
    rw [List.any_eq_false] at ha
    exact ha p hp (by simp [e])
  have hz : z12.getD k none = some z64 := by
    show (List.replicate 12 (some z64)).getD k none = some z64
    rw [List.getD_eq_getElem?_getD, List.getElem?_replicate, if_pos hk]
    rfl
  have hget : ((d2 X n j).crash fs).secs.getD k none = some ((lastOf (w1P X n) k).getD z64) := by
    show (crashTo fs (w2P X j) (z12.putAll (w1P X n)) (w2P X j).length).getD k none = _
    rw [crashTo_other _ _ _ _ _ hno, putAll_get]
    · cases lastOf (w1P X n) k with
      | none => exact hz
      | some b => rfl
    · intro p hp
      obtain ⟨i, _, rfl⟩ := List.mem_map.1 hp
      rw [z12_len]
      exact (mod12 (X i).place).1
  have hr := (Calm.crashed (d2 X n j) fs).read rfl k (by rw [hlen]; exact hk)
  rw [hget] at hr
  refine ⟨hr.2, ?_⟩
  rw [hr.1]
  simp [wants, hk]

/-- a local array -/
def Arr (w : World) (H : Nat) (t : TypeId) (vs : List Value) : Prop := w.heap[H]? = some (.cells vs.toArray t (0, 0))
theorem Arr.cell {w : World} {H : Nat} {t : TypeId} {vs : List Value} (h : Arr w H t vs) (k : Nat) (v : Value) (hk : vs[k]? = some v) : w.cell? ⟨H, k, none⟩ = some v ∧ w.frozen? ⟨H, k, none⟩ = false := by
  unfold Arr at h
  constructor
  · rw [cell_of_row w H k _ t (0, 0) h]
    simpa using hk
  · exact frozen_of_row w H k _ t h
theorem Arr.set {w : World} {H : Nat} {t : TypeId} {vs : List Value} (h : Arr w H t vs) (k : Nat) (u : Value) : Arr (w.setCell ⟨H, k, none⟩ u) H t (vs.set k u) := by
  unfold Arr
  rw [two_setCell h]
  simp
theorem Arr.only {S : Nat → Prop} {w w' : World} {H : Nat} {t : TypeId} {vs : List Value} (h : Arr w H t vs) (ho : Only S w w') (hS : ¬ S H) : Arr w' H t vs := ho.heap h hS
theorem Arr.lt {w : World} {H : Nat} {t : TypeId} {vs : List Value} (h : Arr w H t vs) : H < w.heap.size := lt_of_block h

theorem Dks.array {w0 w : World} {F : Nat → Prop} {b : Nat} {d : Dk} (h : Dks w0 w F b d) {H : Nat} (hF : ¬ F H) (hu : w0.heap.size ≤ H) (k : Nat) (u : Value) : Dks w0 (w.setCell ⟨H, k, none⟩ u) F b d :=
  h.later ((Only.refl (fun j => j = H) w).here k u) (fun j _ e => by subst e; exact ⟨hF, hu⟩)
theorem Went.arr {w0 w w' : World} {F F' : Nat → Prop} {b : Nat} {d' : Dk} (h : Went w0 w w' F F' b d') {H : Nat} {t : TypeId} {vs : List Value} (ha : Arr w H t vs) (hF : ¬ F H) : Arr w' H t vs ∧ ¬ F' H :=
  ⟨ha.only h.only hF, fun e => by
    rcases h.grew H e with e | e
    · exact hF e
    · have := ha.lt; omega⟩
theorem Dks.fresh_blk {w0 w : World} {F : Nat → Prop} {b : Nat} {d : Dk} (h : Dks w0 w F b d) : ¬ F w.heap.size := fun e => by have := h.lt _ e; omega

/-- strings as cells -/
def strV (bs : List UInt8) : Value := .string (str bs)
/-- the first k of twelve are zeros -/
def wz (k : Nat) : List (List UInt8) := List.replicate k z64 ++ List.replicate (12 - k) []
theorem wz_step (k : Nat) (hk : k < 12) : (wz k).set k z64 = wz (k + 1) := by
  unfold wz
  obtain ⟨m, hm⟩ : ∃ m, 12 - k = m + 1 := ⟨12 - k - 1, by omega⟩
  have e : 12 - (k + 1) = m := by omega
  rw [hm, e, List.set_append_right _ _ (by simp), List.length_replicate, Nat.sub_self, List.replicate_succ (n := m), List.set_cons_zero, List.replicate_succ' (n := k), List.append_assoc]
  rfl
theorem wz_len (k : Nat) (hk : k ≤ 12) : (wz k).length = 12 := by simp [wz]; omega
theorem wz_twelve : wz 12 = wants [] := by rfl

end Go.Proofs.Ytjhcmhdekppplaa
