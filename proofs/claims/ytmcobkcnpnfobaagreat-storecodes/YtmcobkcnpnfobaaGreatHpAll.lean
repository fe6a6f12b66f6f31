/-
  A heap of keys, the least at its front: plain.
  store's heap of keys as it lies in memory; the methods that container/heap asks for.
  container/heap over store's heap of keys.
-/
import Derived.Test.YtmcobkcnpnfobaaGreatBase
import Derived.Test.YtmcobkcnpnfobaaGreatRowV
import Derived.BigQuiet
import Derived.BigRegion
import Derived.Deep.QuietTactic
import Derived.Deep.RegionWith
import Derived.Sort.EncStr
namespace Go.Proofs.YtmcobkcnpnfobaaGreat
set_option linter.unusedSimpArgs false
set_option linter.unusedVariables false

namespace Hp

abbrev K := List UInt8

theorem le_refl (a : K) : a ≤ a := List.le_refl a
theorem le_trans {a b c : K} (h : a ≤ b) (k : b ≤ c) : a ≤ c := List.le_trans h k
theorem le_of_lt {a b : K} (h : a < b) : a ≤ b := List.le_of_lt h
theorem le_of_not_lt {a b : K} (h : ¬ a < b) : b ≤ a := List.not_lt.1 h
theorem not_lt_of_le {a b : K} (h : a ≤ b) : ¬ b < a := List.not_lt.2 h
theorem le_antisymm {a b : K} (h : a ≤ b) (k : b ≤ a) : a = b := List.le_antisymm h k

def g (xs : List K) (i : Nat) : K := xs.getD i []
def swp (xs : List K) (i j : Nat) : List K := (xs.set i (g xs j)).set j (g xs i)

theorem swp_length (xs : List K) (i j : Nat) : (swp xs i j).length = xs.length := by simp [swp]

theorem g_swp (xs : List K) (i j : Nat) (hi : i < xs.length) (hj : j < xs.length) (k : Nat) : g (swp xs i j) k = if k = j then g xs i else if k = i then g xs j else g xs k := by
  unfold swp g
  by_cases h1 : k = j
  · subst h1
    simp [List.getD, hj]
  · rw [if_neg h1]
    by_cases h2 : k = i
    · subst h2
      rw [if_pos rfl]
      simp [List.getD, List.getElem?_set, hi, Ne.symm h1]
    · rw [if_neg h2]
      simp [List.getD, List.getElem?_set, Ne.symm h1, Ne.symm h2]

theorem g_eq (xs : List K) (i : Nat) (h : i < xs.length) : g xs i = xs[i] := by simp [g, List.getD, h]

theorem swp_perm (xs : List K) (i j : Nat) (hi : i < xs.length) (hj : j < xs.length) : (swp xs i j).Perm xs := by
  unfold swp
  rw [g_eq xs i hi, g_eq xs j hj]
  exact List.set_set_perm hi hj

def par (i : Nat) : Nat := (i - 1) / 2

/-- each of the first n is no less than what stands above it -/
def Heap (xs : List K) (n : Nat) : Prop := ∀ i, 0 < i → i < n → g xs (par i) ≤ g xs i

structure UpInv (xs : List K) (n j : Nat) : Prop where
  rest : ∀ i, 0 < i → i < n → i ≠ j → g xs (par i) ≤ g xs i
  over : ∀ i, 0 < i → i < n → par i = j → 0 < j → g xs (par j) ≤ g xs i

theorem UpInv.stop {xs : List K} {n j : Nat} (h : UpInv xs n j) (hs : j = 0 ∨ ¬ g xs j < g xs (par j)) : Heap xs n := by
  intro i h0 hn
  by_cases e : i = j
  · subst e
    rcases hs with hs | hs
    · omega
    · exact le_of_not_lt hs
  · exact h.rest i h0 hn e

theorem UpInv.step {xs : List K} {n j : Nat} (h : UpInv xs n j) (h0 : 0 < j) (hj : j < n) (hn : n ≤ xs.length) (hl : g xs j < g xs (par j)) : UpInv (swp xs (par j) j) n (par j) := by
  have hp : par j < j := by unfold par; omega
  have hg := g_swp xs (par j) j (by omega) (by omega)
  generalize hpe : par j = p at *
  refine ⟨fun i i0 hi hne => ?_, fun i i0 hi hpi p0 => ?_⟩
  · by_cases e : i = j
    · subst e
      rw [hpe, hg, hg, if_neg (by omega), if_pos rfl, if_pos rfl]
      exact le_of_lt hl
    · rw [hg i, if_neg e, if_neg hne, hg]
      by_cases e1 : par i = j
      · rw [if_pos e1]
        have := h.over i i0 hi e1 h0
        rw [hpe] at this
        exact this
      · rw [if_neg e1]
        by_cases e2 : par i = p
        · rw [if_pos e2]
          have := h.rest i i0 hi e
          rw [e2] at this
          exact le_trans (le_of_lt hl) this
        · rw [if_neg e2]
          exact h.rest i i0 hi e
  · have hpp : par p < p := by unfold par; omega
    have hh := h.rest p p0 (by omega) (by omega)
    rw [hg (par p), if_neg (by omega), if_neg (by omega)]
    by_cases e : i = j
    · subst e
      rw [hg, if_pos rfl]
      exact hh
    · have hip : i ≠ p := by intro e2; subst e2; omega
      rw [hg, if_neg e, if_neg hip]
      have := h.rest i i0 hi e
      rw [hpi] at this
      exact le_trans hh this

theorem UpInv.push {xs : List K} (h : Heap xs xs.length) (x : K) : UpInv (xs ++ [x]) (xs ++ [x]).length xs.length := by
  have hg : ∀ i, i < xs.length → g (xs ++ [x]) i = g xs i := fun i hi => by simp [g, List.getD, List.getElem?_append_left hi]
  refine ⟨fun i i0 hi hne => ?_, fun i i0 hi hpi p0 => ?_⟩
  · simp at hi
    have hp : par i < i := by unfold par; omega
    rw [hg _ (by omega), hg _ (by omega)]
    exact h i i0 (by omega)
  · simp at hi
    have hp : par i < i := by unfold par; omega
    omega

structure DnInv (xs : List K) (n i : Nat) : Prop where
  rest : ∀ k, 0 < k → k < n → par k ≠ i → g xs (par k) ≤ g xs k
  over : ∀ k, 0 < k → k < n → par k = i → 0 < i → g xs (par i) ≤ g xs k

/-- j is the least of those below i -/
structure Least (xs : List K) (n i j : Nat) : Prop where
  lt : j < n
  pos : 0 < j
  par : par j = i
  least : ∀ k, 0 < k → k < n → Hp.par k = i → g xs j ≤ g xs k

theorem least_one (xs : List K) (n i : Nat) (h : 2 * i + 1 < n) (hs : ¬ 2 * i + 2 < n ∨ ¬ g xs (2 * i + 2) < g xs (2 * i + 1)) : Least xs n i (2 * i + 1) := by
  refine ⟨h, by omega, by unfold par; omega, fun k k0 hk hpk => ?_⟩
  have : k = 2 * i + 1 ∨ k = 2 * i + 2 := by unfold par at hpk; omega
  rcases this with rfl | rfl
  · exact le_refl _
  · rcases hs with hs | hs
    · omega
    · exact le_of_not_lt hs
theorem least_two (xs : List K) (n i : Nat) (h : 2 * i + 2 < n) (hs : g xs (2 * i + 2) < g xs (2 * i + 1)) : Least xs n i (2 * i + 2) := by
  refine ⟨h, by omega, by unfold par; omega, fun k k0 hk hpk => ?_⟩
  have : k = 2 * i + 1 ∨ k = 2 * i + 2 := by unfold par at hpk; omega
  rcases this with rfl | rfl
  · exact le_of_lt hs
  · exact le_refl _

theorem DnInv.end {xs : List K} {n i : Nat} (h : DnInv xs n i) (hs : ¬ 2 * i + 1 < n) : Heap xs n := by
  intro k k0 hk
  exact h.rest k k0 hk (by unfold par; omega)
theorem DnInv.stop {xs : List K} {n i j : Nat} (h : DnInv xs n i) (hL : Least xs n i j) (hs : ¬ g xs j < g xs i) : Heap xs n := by
  intro k k0 hk
  by_cases e : par k = i
  · rw [e]
    exact le_trans (le_of_not_lt hs) (hL.least k k0 hk e)
  · exact h.rest k k0 hk e

theorem DnInv.step {xs : List K} {n i j : Nat} (h : DnInv xs n i) (hL : Least xs n i j) (hn : n ≤ xs.length) (hl : g xs j < g xs i) : DnInv (swp xs i j) n j := by
  have hjn := hL.lt
  have hj0 := hL.pos
  have hij : i < j := by have := hL.par; unfold par at this; omega
  have hg := g_swp xs i j (by omega) (by omega)
  refine ⟨fun k k0 hk hne => ?_, fun k k0 hk hpk p0 => ?_⟩
  · have hpk : par k < k := by unfold par; omega
    by_cases e : k = j
    · subst e
      rw [hL.par, hg, hg, if_neg (by omega), if_pos rfl, if_pos rfl]
      exact le_of_lt hl
    · rw [hg k, if_neg e, hg (par k), if_neg hne]
      by_cases e2 : k = i
      · subst e2
        rw [if_pos rfl, if_neg (by omega)]
        exact h.over j hj0 hjn hL.par k0
      · rw [if_neg e2]
        by_cases e3 : par k = i
        · rw [if_pos e3]
          exact hL.least k k0 hk e3
        · rw [if_neg e3]
          exact h.rest k k0 hk e3
  · have hpk' : par k < k := by unfold par; omega
    rw [hL.par, hg, if_neg (by omega), if_pos rfl, hg, if_neg (by omega), if_neg (by omega)]
    have := h.rest k k0 hk (by omega)
    rw [hpk] at this
    exact this

theorem heap_min {xs : List K} {n : Nat} (h : Heap xs n) : ∀ i, i < n → g xs 0 ≤ g xs i := by
  intro i
  induction i using Nat.strongRecOn with
  | _ i ih =>
    intro hi
    by_cases e : i = 0
    · subst e; exact le_refl _
    · have hp : par i < i := by unfold par; omega
      exact le_trans (ih (par i) hp (by omega)) (h i (by omega) hi)

/-- the front and the last change places: all but the front is a heap -/
theorem DnInv.front {xs : List K} {m : Nat} (h : Heap xs (m + 1)) (hl : xs.length = m + 1) : DnInv (swp xs 0 m) m 0 := by
  have hg := g_swp xs 0 m (by omega) (by omega)
  refine ⟨fun k k0 hk hne => ?_, fun k k0 hk hpk p0 => by omega⟩
  have hp : par k < k := by unfold par; omega
  rw [hg, hg, if_neg (by omega), if_neg hne, if_neg (by omega), if_neg (by omega)]
  exact h k k0 (by omega)

/-- what is left when the last is taken -/
theorem heap_take {xs : List K} {m : Nat} (h : Heap xs m) (hl : m ≤ xs.length) : Heap (xs.take m) (xs.take m).length := by
  have hg : ∀ i, i < m → g (xs.take m) i = g xs i := fun i hi => by simp [g, List.getD, List.getElem?_take, hi]
  intro i i0 hi
  simp at hi
  have hp : par i < i := by unfold par; omega
  rw [hg _ (by omega), hg _ (by omega)]
  exact h i i0 (by omega)

theorem take_perm (xs : List K) (m : Nat) (hl : xs.length = m + 1) : xs.Perm (g xs m :: xs.take m) := by
  have e : xs = xs.take m ++ [g xs m] := by
    rw [g_eq xs m (by omega)]
    have := List.take_append_drop m xs
    conv => lhs; rw [← this]
    rw [List.drop_eq_getElem_cons (by omega), List.drop_eq_nil_of_le (by omega)]
  conv => lhs; rw [e]
  exact List.perm_append_singleton _ _

theorem bytesLess_lt : ∀ (x y : K), Op.bytesLess x y = decide (x < y)
  | x, [] => by cases x <;> simp [Op.bytesLess]
  | [], _ :: _ => by simp [Op.bytesLess]
  | a :: x, b :: y => by
    rw [Op.bytesLess, bytesLess_lt x y, Bool.eq_iff_iff]
    simp [List.cons_lt_cons_iff]

/-- two rising lists of the same keys are one -/
theorem sorted_unique {a b : List K} (hp : a.Perm b) (ha : a.Pairwise (· ≤ ·)) (hb : b.Pairwise (· ≤ ·)) : a = b :=
  List.Perm.eq_of_pairwise (fun x y _ _ h1 h2 => le_antisymm h1 h2) ha hb hp

end Hp
end Go.Proofs.YtmcobkcnpnfobaaGreat

namespace Go.Proofs.YtmcobkcnpnfobaaGreat
open Go.RowKit
set_option linter.unusedSimpArgs false
set_option linter.unusedVariables false

theorem meth_push (a : Value) (w : World) : Sem.run Tryz.prog (method 269 139 a "Push") w = .ok (120, a) w := by kernel_rfl
theorem meth_pop (a : Value) (w : World) : Sem.run Tryz.prog (method 269 139 a "Pop") w = .ok (119, a) w := by kernel_rfl
theorem wrapNilChk {P : Program} (ts : Array TypeId) (t : TypeId) (a : Addr) (x y : String) (w : World) : Sem.run P (Builtin.ssaWrapNilChk_ ts t #[.pointer (some a), strVal x, strVal y]) w = .ok (.pointer (some a)) w := rfl
theorem meth_len {b : Nat} {v : Value} {w : World} (hc : w.cell? ⟨b, 0, none⟩ = some v) : Sem.run Tryz.prog (method 269 139 (.pointer (some ⟨b, 0, none⟩)) "Len") w = .ok (87, v) w := by
  rw [show (269 : Nat) = (269 - 1) + 1 from rfl]
  have hf : (Array.find? (fun x => x.name == "Len") Tryz.t139.methods).map (fun m => (m.path, m.func)) = some (#[], some (87, false)) := by kernel_rfl
  unfold method
  simp [go_sem]
  generalize Array.find? (fun x => x.name == "Len") Tryz.t139.methods = om at hf
  cases om with
  | none => simp at hf
  | some m =>
    obtain ⟨nm, sg, pa, fn⟩ := m
    simp at hf
    obtain ⟨rfl, rfl⟩ := hf
    simp [follow, receiverAt, Place.get, wrapNilChk, go_sem, hc]
theorem meth_less {b : Nat} {v : Value} {w : World} (hc : w.cell? ⟨b, 0, none⟩ = some v) : Sem.run Tryz.prog (method 269 139 (.pointer (some ⟨b, 0, none⟩)) "Less") w = .ok (118, v) w := by
  rw [show (269 : Nat) = (269 - 1) + 1 from rfl]
  have hf : (Array.find? (fun x => x.name == "Less") Tryz.t139.methods).map (fun m => (m.path, m.func)) = some (#[], some (118, false)) := by kernel_rfl
  unfold method
  simp [go_sem]
  generalize Array.find? (fun x => x.name == "Less") Tryz.t139.methods = om at hf
  cases om with
  | none => simp at hf
  | some m =>
    obtain ⟨nm, sg, pa, fn⟩ := m
    simp at hf
    obtain ⟨rfl, rfl⟩ := hf
    simp [follow, receiverAt, Place.get, wrapNilChk, go_sem, hc]
theorem meth_swap {b : Nat} {v : Value} {w : World} (hc : w.cell? ⟨b, 0, none⟩ = some v) : Sem.run Tryz.prog (method 269 139 (.pointer (some ⟨b, 0, none⟩)) "Swap") w = .ok (121, v) w := by
  rw [show (269 : Nat) = (269 - 1) + 1 from rfl]
  have hf : (Array.find? (fun x => x.name == "Swap") Tryz.t139.methods).map (fun m => (m.path, m.func)) = some (#[], some (121, false)) := by kernel_rfl
  unfold method
  simp [go_sem]
  generalize Array.find? (fun x => x.name == "Swap") Tryz.t139.methods = om at hf
  cases om with
  | none => simp at hf
  | some m =>
    obtain ⟨nm, sg, pa, fn⟩ := m
    simp at hf
    obtain ⟨rfl, rfl⟩ := hf
    simp [follow, receiverAt, Place.get, wrapNilChk, go_sem, hc]

open Hp (K g swp)

/-- block b holds the slice v, which owns the keys xs -/
structure HpAt (w : World) (b : Nat) (v : Value) (xs : List K) : Prop where
  blk : w.heap[b]? = some (.cells #[v] 140 (0, 0))
  own : w.ownsRow 0 9 1 v xs.length (xs.map encStr)

theorem HpAt.ne {w : World} {b : Nat} {v : Value} {xs : List K} (h : HpAt w b v xs) : some b ≠ v.ownBlock := by
  intro e
  rcases h.own.2 with ⟨rfl, _⟩ | ⟨g, cap, cur, rfl, _, hg, _⟩
  · simp [Value.ownBlock] at e
  · simp only [Value.ownBlock, Option.some.injEq] at e
    subst e
    rw [h.blk] at hg
    simp at hg
theorem HpAt.only {w w' : World} {b : Nat} {v : Value} {xs : List K} {S : Nat → Prop} (h : HpAt w b v xs) (ho : Only S w w') (hb : ¬ S b) (hv : ∀ k, v.ownBlock = some k → ¬ S k) : HpAt w' b v xs :=
  ⟨ho.heap h.blk hb, ho.owns h.own hv⟩
theorem HpAt.same {w w' : World} {b : Nat} {v : Value} {xs : List K} (h : HpAt w b v xs) (ho : Only (fun _ => False) w w') : HpAt w' b v xs := h.only ho (fun h => h) (fun _ _ h => h)
theorem HpAt.drews {w : World} {b : Nat} {v : Value} {xs : List K} (h : HpAt w b v xs) (n : Nat) : HpAt (w.drewN n) b v xs := h.same ⟨rfl, rfl, rfl, Nat.le_refl _, fun _ _ _ => rfl⟩

/-- from (w, v) on the heap at b has come to (w', v'), with the keys xs -/
structure HpWent (w : World) (b : Nat) (v : Value) (w' : World) (v' : Value) (xs : List K) : Prop where
  now : HpAt w' b v' xs
  only : Only (fun k => k = b ∨ v.ownBlock = some k) w w'
  fresh : ∀ k, v'.ownBlock = some k → v.ownBlock = some k ∨ w.heap.size ≤ k
theorem HpAt.went {w : World} {b : Nat} {v : Value} {xs : List K} (h : HpAt w b v xs) : HpWent w b v w v xs := ⟨h, Only.refl _ _, fun _ hk => Or.inl hk⟩
theorem HpWent.trans {w w1 w2 : World} {b : Nat} {v v1 v2 : Value} {c1 c2 : List K} (h : HpWent w b v w1 v1 c1) (k : HpWent w1 b v1 w2 v2 c2) : HpWent w b v w2 v2 c2 :=
  ⟨k.now, h.only.trans k.only (fun i hi e => by
      rcases e with e | e
      · exact Or.inl e
      · rcases h.fresh i e with e | e
        · exact Or.inr e
        · omega),
   fun i hi => by
      rcases k.fresh i hi with e | e
      · exact h.fresh i e
      · exact Or.inr (Nat.le_trans h.only.size e)⟩
theorem HpWent.drews {w w1 : World} {b : Nat} {v v1 : Value} {c1 : List K} (h : HpWent w b v w1 v1 c1) (n : Nat) : HpWent w b v (w1.drewN n) v1 c1 :=
  ⟨h.now.drews n, ⟨h.only.os, h.only.tape, h.only.output, h.only.size, h.only.block⟩, h.fresh⟩

theorem HpAt.cell {w : World} {b : Nat} {v : Value} {xs : List K} (h : HpAt w b v xs) : w.cell? ⟨b, 0, none⟩ = some v ∧ w.frozen? ⟨b, 0, none⟩ = false := by simp [World.cell?, World.frozen?, h.blk]

/-- a key's cell -/
theorem HpAt.at {w : World} {b : Nat} {v : Value} {xs : List K} (h : HpAt w b v xs) (hp : 0 < xs.length) : ∃ q cap, v = .slice (some ⟨q, 0, none⟩) xs.length cap ∧ xs.length ≤ cap ∧ q ≠ b ∧ ∀ i, i < xs.length → w.cell? ⟨q, i, none⟩ = some (encStr (g xs i)) ∧ w.frozen? ⟨q, i, none⟩ = false := by
  have hne := h.ne
  have hown := h.own
  rcases h.own.2 with ⟨rfl, e⟩ | ⟨q, cap, cur, rfl, hb, hq, hc, hm, hcs, ht⟩
  · omega
  · refine ⟨q, cap, rfl, hc, fun e => hne (by rw [e]; rfl), fun i hi => ⟨?_, ?_⟩⟩
    · have := hown.cellAt i (by omega)
      rw [this]
      simp [hi, Hp.g_eq xs i hi]
    · exact hown.frozenAt i

theorem len_any0 {w : World} {b : Nat} {v : Value} {xs : List K} (h : HpAt w b v xs) : Calls Tryz.prog 87 #[v] w fun e w' => e = .returned (.int .i64 xs.length) ∧ w' = w := by
  obtain ⟨ao, cap, rfl⟩ := ownsRow_shape h.own
  go_enter Tryz.func87, Tryz.ntmps87
  go_wp2
  go_ret
  exact ⟨rfl, rfl⟩

theorem less_any {w : World} {b : Nat} {v : Value} {xs : List K} (h : HpAt w b v xs) (i j : Nat) (hi : i < xs.length) (hj : j < xs.length) :
    Calls Tryz.prog 118 #[v, .int .i64 i, .int .i64 j] w fun e w' => e = .returned (.bool (decide (g xs i < g xs j))) ∧ ∃ n, w' = w.drewN n := by
  obtain ⟨q, cap, rfl, hc, _, hq⟩ := h.at (by omega)
  obtain ⟨ci, _⟩ := hq i hi
  obtain ⟨cj, _⟩ := hq j hj
  have hi' : (i : Int) < xs.length := by omega
  have hj' : (j : Int) < xs.length := by omega
  clear hq h
  go_enter Tryz.func118, Tryz.ntmps118
  go_wp2
  go_region
  go_wp2
  go_ret
  refine ⟨?_, _, rfl⟩
  rw [← Hp.bytesLess_lt]
  rfl

theorem HpAt.swapped {w : World} {b q cap : Nat} {xs : List K} (h : HpAt w b (.slice (some ⟨q, 0, none⟩) xs.length cap) xs) (hqb : q ≠ b) (i j : Nat) (hi : i < xs.length) (hj : j < xs.length) :
    HpWent w b (.slice (some ⟨q, 0, none⟩) xs.length cap) (((w.setCell ⟨q, i, none⟩ (encStr (g xs j))).setCell ⟨q, j, none⟩ (encStr (g xs i))).drew) (.slice (some ⟨q, 0, none⟩) xs.length cap) (swp xs i j) := by
  have o1 := (h.own.stored i (encStr (g xs j))).1
  have o2 := (o1.stored j (encStr (g xs i))).1
  have ho : Only (fun k => k = q) w (((w.setCell ⟨q, i, none⟩ (encStr (g xs j))).setCell ⟨q, j, none⟩ (encStr (g xs i))).drew) := (((Only.refl _ w).here i _).here j _).drew
  refine ⟨⟨ho.heap h.blk (fun e => hqb e.symm), ?_⟩, ho.mono (fun k _ e => Or.inr (by rw [e]; rfl)), fun k hk => Or.inl hk⟩
  rw [Hp.swp_length]
  unfold Hp.swp
  rw [List.map_set, List.map_set]
  exact o2

set_option maxHeartbeats 1000000 in
theorem swap_any {w : World} {b : Nat} {v : Value} {xs : List K} (h : HpAt w b v xs) (i j : Nat) (hi : i < xs.length) (hj : j < xs.length) :
    Calls Tryz.prog 121 #[v, .int .i64 i, .int .i64 j] w fun e w' => e = .returned (.tuple #[]) ∧ HpWent w b v w' v (swp xs i j) := by
  have H := hide h
  obtain ⟨q, cap, rfl, hc, hqb, hq⟩ := h.at (by omega)
  obtain ⟨ci, fi⟩ := hq i hi
  obtain ⟨cj, fj⟩ := hq j hj
  have hi' : (i : Int) < xs.length := by omega
  have hj' : (j : Int) < xs.length := by omega
  clear hq h
  by_cases hij : i = j
  · subst hij
    clear cj fj hj hj'
    have c2 : ∀ u, (w.setCell ⟨q, i, none⟩ u).cell? ⟨q, i, none⟩ = some u := fun u => World.cell?_setCell_same w _ _ ci
    go_enter Tryz.func121, Tryz.ntmps121
    go_wp2
    go_region
    go_end0
    exact ⟨rfl, (unhide H).swapped hqb i i hi hi⟩
  · have c2 : ∀ u, (w.setCell ⟨q, i, none⟩ u).cell? ⟨q, j, none⟩ = some (encStr (g xs j)) := fun u => by rw [World.cell?_setCell_other]; exact cj; simp [hij]
    have c3 : ∀ u, (w.setCell ⟨q, j, none⟩ u).cell? ⟨q, i, none⟩ = some (encStr (g xs i)) := fun u => by rw [World.cell?_setCell_other]; exact ci; simp [Ne.symm hij]
    go_enter Tryz.func121, Tryz.ntmps121
    go_wp2
    go_region
    go_end0
    exact ⟨rfl, (unhide H).swapped hqb i j hi hj⟩

theorem Tryz.info9 : (Tryz.prog.info? 9).map (fun i => (i.zero, i.size, i.bytes)) = some (some (.string ByteArray.empty), 1, 16) := by kernel_rfl

theorem assert_str (xT : TypeId) (v : Value) (w : World) : Sem.run Tryz.prog (Instr.typeAssert (.iface 9 v) xT 9 false) w = .ok v w := by
  simp [Instr.typeAssert, run_underlying Tryz.underlying9, go_sem, Result.andThen]

/-- the field's append, as a step of the region -/
theorem step_hpush {ops : Array Oper} {o : Oper} {a : Act} {w : World} {K' : Act → World → Prop} {Q : Exit → Act → World → Prop} {E : Prop}
    (hg : o.guard = none) (s x : Operand) (hop : o.op = Op.call { callee := Callee.builtin Builtin.append, args := #[s, x], argTypes := #[140, 140] })
    (b : Nat) (v : Value) (ys : List K) (xv : Value) (y : K) (hs : a.eval s = v) (hx : a.eval x = xv)
    (hc : HasV w xv [encStr y]) (h : HpAt w b v ys) (hl : (ys.length + 1) * 16 ≤ 140737488355328)
    (hK : ∀ ao cap w', w'.cell? ⟨b, 0, none⟩ = some v → w'.frozen? ⟨b, 0, none⟩ = false → Hid (w'.heap[b]? = some (.cells #[v] 140 (0, 0))) → w'.ownsRow 0 9 1 (.slice ao (ys.length + 1) cap) (ys.length + 1) (ys.map encStr ++ [encStr y]) → w.grownBy w' v.ownBlock →
      (Value.ownBlock (.slice ao (ys.length + 1) cap) = v.ownBlock ∨ Value.ownBlock (.slice ao (ys.length + 1) cap) = some w.heap.size) → K' (a.put o.dst (.slice ao (ys.length + 1) cap)) w') :
    if Region.wanted o (yielded ops a.tmps) = true then Oper.wp Tryz.prog o a w K' Q else E := by
  obtain ⟨i0, hi, hz0, hz1, hz2⟩ := info_parts Tryz.info9
  refine step_append_hasV hg s x 140 hop 0 9 i0 _ 16 Tryz.underlying140 hi hz0 hz1 hz2 rfl v ys.length (ys.map encStr) hs h.own xv [encStr y] hx hc (by simp; rfl) (by unfold maxLen; simp; omega) (by simpa using hl) (Nat.zero_le _) ?_
  intro ao cap w' own gr hat
  have hblk : w'.heap[b]? = some (.cells #[v] 140 (0, 0)) := (gr.block b (Array.getElem?_eq_some_iff.1 h.blk).1 h.ne).trans h.blk
  exact hK ao cap w' (cell_of_one hblk) (free_of_one hblk) hblk own gr hat

theorem HpAt.push {w : World} {b : Nat} {v : Value} {xs : List K} (h : HpAt w b v xs) (o : Obj) : HpAt (w.alloc o) b v xs := h.same ((Only.refl _ _).alloc o)

theorem HpAt.stored {w1 w2 : World} {b : Nat} {v v2 : Value} {ys : List K} {y : K} (h : HpAt w1 b v ys) (hb2 : w2.heap[b]? = some (.cells #[v] 140 (0, 0)))
    (own : w2.ownsRow 0 9 1 v2 (ys.length + 1) (ys.map encStr ++ [encStr y])) (gr : w1.grownBy w2 v.ownBlock) (hat : v2.ownBlock = v.ownBlock ∨ v2.ownBlock = some w1.heap.size) :
    HpWent w1 b v (w2.setCell ⟨b, 0, none⟩ v2) v2 (ys ++ [y]) := by
  have hlt := (Array.getElem?_eq_some_iff.1 h.blk).1
  have hne : some b ≠ v2.ownBlock := by
    rcases hat with e | e
    · rw [e]; exact h.ne
    · rw [e]; intro c; simp at c; omega
  refine ⟨⟨one_setCell hb2, ?_⟩, ?_, ?_⟩
  · have e : (ys ++ [y]).map encStr = ys.map encStr ++ [encStr y] := by simp
    rw [e, List.length_append]
    exact ((Only.refl (fun k => k = b) w2).setCell (fun _ => rfl) _).owns own (fun k hk e => hne (by rw [hk, e]))
  · exact (((Only.refl (fun k => k = b ∨ v.ownBlock = some k) w1).grown gr (fun k hk _ => Or.inr hk)).setCell (fun _ => Or.inl rfl) _)
  · intro k hk
    rcases hat with e | e
    · exact Or.inl (by rw [← e]; exact hk)
    · rw [e] at hk; simp at hk; omega

theorem HpAt.laid {w : World} {b : Nat} {v : Value} {xs : List K} (h : HpAt w b v xs) (o : Obj) : HpWent w b v (w.alloc o) v xs := ⟨h.push o, (Only.refl _ _).alloc o, fun _ hk => Or.inl hk⟩
theorem HpWent.drew {w w1 : World} {b : Nat} {v v1 : Value} {c1 : List K} (h : HpWent w b v w1 v1 c1) : HpWent w b v w1.drew v1 c1 := h.drews 1

set_option maxHeartbeats 1000000 in
theorem push_any {w : World} {b : Nat} {v : Value} {xs : List K} (h : HpAt w b v xs) (x : K) (hl : (xs.length + 1) * 16 ≤ 140737488355328) :
    Calls Tryz.prog 120 #[.pointer (some ⟨b, 0, none⟩), .iface 9 (encStr x)] w fun e w' => e = .returned (.tuple #[]) ∧ ∃ v', HpWent w b v w' v' (xs ++ [x]) := by
  obtain ⟨hc, hf⟩ := h.cell
  have hca : ∀ o, (w.alloc o).cell? ⟨b, 0, none⟩ = some v := fun o => (h.push o).cell.1
  have hone := ownsRow_one h.own
  have hta := assert_str
  go_enter Tryz.func120, Tryz.ntmps120
  go_wp2
  go_region_law (refine step_hpush rfl (.tmp 7) (.tmp 10) rfl b v xs (.slice (some ⟨w.heap.size, 0, none⟩) 1 1) x (by simp [Act.eval, Act.put]) (by simp [Act.eval, Act.put]) (hasV_lit (vs := [encStr x]) (heap_alloc_new _ _) (by unfold maxLen; simp)) ((h.push _).drews 1) hl ?_; intro ao2 cap2 w2 hc2 hf2 hb2 own2 gr2 at2)
  all_goals
    go_end0
    exact ⟨rfl, _, (h.laid _).drew.trans (((h.push _).drews 1).stored hb2.out own2 gr2 at2)⟩

/-- the last key goes -/
theorem HpAt.popped {w : World} {b q cap m : Nat} {xs : List K} (h : HpAt w b (.slice (some ⟨q, 0, none⟩) xs.length cap) xs) (hm : m ≤ xs.length) :
    HpWent w b (.slice (some ⟨q, 0, none⟩) xs.length cap) (w.setCell ⟨b, 0, none⟩ (.slice (some ⟨q, 0, none⟩) m cap)) (.slice (some ⟨q, 0, none⟩) m cap) (xs.take m) := by
  have hne := h.ne
  have ho : Only (fun k => k = b) w (w.setCell ⟨b, 0, none⟩ (.slice (some ⟨q, 0, none⟩) m cap)) := (Only.refl _ w).here 0 _
  refine ⟨⟨one_setCell h.blk, ?_⟩, ho.mono (fun k _ e => Or.inl e), fun k hk => Or.inl hk⟩
  have e : (xs.take m).length = m := by simp; omega
  rw [e]
  have own' : w.ownsRow 0 9 1 (.slice (some ⟨q, 0, none⟩) m cap) m ((xs.take m).map encStr) := by
    rcases h.own.2 with ⟨h', _⟩ | ⟨q', cap', cur, h', hb, hq, hc, hmx, hcs, ht⟩
    · simp at h'
    · simp only [Value.slice.injEq, Option.some.injEq, Addr.mk.injEq, and_true, true_and] at h'
      obtain ⟨rfl, rfl⟩ := h'
      refine ⟨by simp; omega, Or.inr ⟨q, cap, cur, rfl, hb, hq, by omega, hmx, hcs, ?_⟩⟩
      rw [List.map_take, ← ht, List.take_take]
      congr 1
      omega
  exact ho.owns own' (fun k hk e => hne (by rw [← e, ← hk]; rfl))

theorem pop_any {w : World} {b : Nat} {v : Value} {xs : List K} (h : HpAt w b v xs) (m : Nat) (hm : xs.length = m + 1) (hmost : xs.length ≤ 140737488355328) :
    Calls Tryz.prog 119 #[.pointer (some ⟨b, 0, none⟩)] w fun e w' => e = .returned (.iface 9 (encStr (g xs m))) ∧ ∃ v', HpWent w b v w' v' (xs.take m) := by
  obtain ⟨hc, hf⟩ := h.cell
  obtain ⟨q, cap, rfl, hcap, _, hq⟩ := h.at (by omega)
  obtain ⟨cm, _⟩ := hq m (by omega)
  have H := hide (h.popped (m := m) (by omega))
  clear hq h
  rw [hm] at hc hcap H hmost ⊢
  have hmi : ((m : Int) + 1 - 1) = m := by omega
  go_enter Tryz.func119, Tryz.ntmps119
  go_wp2
  go_ret
  exact ⟨rfl, _, unhide H⟩
end Go.Proofs.YtmcobkcnpnfobaaGreat

namespace Go.Proofs.YtmcobkcnpnfobaaGreat
open Go.RowKit
open Hp (K g swp UpInv DnInv Heap Least par)
set_option linter.unusedSimpArgs false
set_option linter.unusedVariables false

/-- 'h' as an interface value -/
abbrev hpI (b : Nat) : Value := .iface 139 (.pointer (some ⟨b, 0, none⟩))

set_option maxHeartbeats 2000000 in
set_option maxRecDepth 100000 in
theorem up_any {w : World} {b : Nat} {v : Value} {xs : List K} (h : HpAt w b v xs) (j : Nat) (hj : j < xs.length) (hu : UpInv xs xs.length j) (hl : xs.length ≤ 140737488355328) :
    Calls Tryz.prog 90 #[hpI b, .int .i64 j] w fun e w' => e = .returned (.tuple #[]) ∧ ∃ ys, HpWent w b v w' v ys ∧ ys.Perm xs ∧ Heap ys ys.length := by
  have HH := hide h
  have HU := hide hu
  clear h hu
  unfold hpI
  go_enter Tryz.func90, Tryz.ntmps90
  go_wp2
  go_loopw [1] (fun vj wr => ∃ (j : Nat) (ys : List K), vj = .int .i64 j ∧ j < xs.length ∧ ys.length = xs.length ∧ HpWent w b v wr v ys ∧ ys.Perm xs ∧ UpInv ys xs.length j) (fun vj _ => (intOf vj).toNat)
  case atStart => exact ⟨j, xs, rfl, hj, rfl, (unhide HH).went, List.Perm.refl _, unhide HU⟩
  case round =>
    obtain ⟨j, ys, rfl, hj, hyl, hwt, hpm, hui⟩ := hrel
    have hcell := hwt.now.cell.1
    have mL0 : Sem.run Tryz.prog (method 269 139 (.pointer (some ⟨b, 0, none⟩)) "Less") wr = .ok (118, v) wr := meth_less hcell
    have HW := hide hwt
    have HP := hide hpm
    have HI := hide hui
    clear hwt hpm hui
    by_cases h0 : j = 0
    · subst h0
      go_wp2
      go_end0
      exact ⟨rfl, ys, unhide HW, unhide HP, by rw [hyl]; exact (unhide HI).stop (Or.inl rfl)⟩
    · have hq : ((j : Int) - 1) / 2 = (par j : Nat) := by unfold par; omega
      have hpj : par j < j := by unfold par; omega
      have hne : ((par j : Int) == j) = false := by simp; omega
      have HL := hide (less_any (unhide HW).now j (par j) (by omega) (by omega))
      generalize hpe : par j = p at *
      have HE := hide hpe
      clear hpe
      by_cases hlt : g ys j < g ys p
      · rw [decide_eq_true hlt] at HL
        go_wp2_with fail
        refine (unhide HL).mono ?_
        rintro e w1 ⟨rfl, nq, hw1⟩
        have hc1 : w1.cell? ⟨b, 0, none⟩ = some v := by rw [hw1]; exact hcell
        have HA := hide ((unhide HW).drews nq)
        rw [← hw1] at HA
        clear hw1
        have mS := meth_swap hc1
        have HS := hide (swap_any (unhide HA).now p j (by omega) (by omega))
        go_wp2_with fail
        refine (unhide HS).mono ?_
        rintro e w2 ⟨rfl, hw2⟩
        have HW2 := hide ((unhide HA).trans hw2)
        clear hw2
        go_wp2
        go_roundw
        case rel =>
          refine ⟨p, swp ys p j, rfl, by omega, by rw [Hp.swp_length]; exact hyl, unhide HW2, (Hp.swp_perm ys p j (by omega) (by omega)).trans (unhide HP), ?_⟩
          have := (unhide HI).step (by omega) hj (by omega) (by rw [unhide HE]; exact hlt)
          rwa [unhide HE] at this
        case measure => simp [intOf]; omega
      · rw [decide_eq_false hlt] at HL
        go_wp2_with fail
        refine (unhide HL).mono ?_
        rintro e w1 ⟨rfl, nq, hw1⟩
        have HA := hide ((unhide HW).drews nq)
        rw [← hw1] at HA
        clear hw1
        go_wp2
        go_end0
        exact ⟨rfl, ys, unhide HA, unhide HP, by rw [hyl]; exact (unhide HI).stop (Or.inr (by rw [unhide HE]; exact hlt))⟩

set_option maxHeartbeats 4000000 in
set_option maxRecDepth 100000 in
theorem down_any {w : World} {b : Nat} {v : Value} {xs : List K} (h : HpAt w b v xs) (n : Nat) (hn : n ≤ xs.length) (hu : DnInv xs n 0) (hl : xs.length ≤ 140737488355328) :
    Calls Tryz.prog 91 #[hpI b, .int .i64 0, .int .i64 n] w fun e w' => ∃ r ys, e = .returned (.bool r) ∧ HpWent w b v w' v ys ∧ ys.Perm xs ∧ Heap ys n ∧ ∀ k, n ≤ k → g ys k = g xs k := by
  have HH := hide h
  have HU := hide hu
  clear h hu
  unfold hpI
  go_enter Tryz.func91, Tryz.ntmps91
  go_wp2
  go_loopw [7] (fun vi wr => ∃ (i : Nat) (ys : List K), vi = .int .i64 i ∧ i ≤ n ∧ ys.length = xs.length ∧ HpWent w b v wr v ys ∧ ys.Perm xs ∧ DnInv ys n i ∧ ∀ k, n ≤ k → g ys k = g xs k) (fun vi _ => n - (intOf vi).toNat)
  case atStart => exact ⟨0, xs, rfl, by omega, rfl, (unhide HH).went, List.Perm.refl _, unhide HU, fun _ _ => rfl⟩
  case round =>
    obtain ⟨i, ys, rfl, hi, hyl, hwt, hpm, hui, hk⟩ := hrel
    have hcell := hwt.now.cell.1
    have mL0 := meth_less hcell
    have HW := hide hwt
    have HP := hide hpm
    have HI := hide hui
    have HK := hide hk
    clear hwt hpm hui hk
    by_cases h1 : 2 * i + 1 < n
    · have a1 : (2 * (i : Int) + 1) < n := by omega
      have a0 : ¬ (2 * (i : Int) + 1) < 0 := by omega
      have a2 : ¬ (n : Int) ≤ 2 * (i : Int) + 1 := by omega
      by_cases h2 : 2 * i + 2 < n
      · have b1 : (2 * (i : Int) + 1 + 1) < n := by omega
        have HL := hide (less_any (unhide HW).now (2 * i + 2) (2 * i + 1) (by omega) (by omega))
        rw [show ((2 * i + 2 : Nat) : Int) = 2 * (i : Int) + 1 + 1 by omega, show ((2 * i + 1 : Nat) : Int) = 2 * (i : Int) + 1 by omega] at HL
        by_cases hlt : g ys (2 * i + 2) < g ys (2 * i + 1)
        · rw [decide_eq_true hlt] at HL
          go_wp2_with fail
          refine (unhide HL).mono ?_
          rintro e w1 ⟨rfl, nq, hw1⟩
          have hc1 : w1.cell? ⟨b, 0, none⟩ = some v := by rw [hw1]; exact hcell
          have HA := hide ((unhide HW).drews nq)
          rw [← hw1] at HA
          clear hw1
          have HLe := hide (Hp.least_two ys n i h2 hlt)
          have HL2 := hide (less_any (unhide HA).now (2 * i + 2) i (by omega) (by omega))
          rw [show ((2 * i + 2 : Nat) : Int) = 2 * (i : Int) + 1 + 1 by omega] at HL2
          have mL1 := meth_less hc1
          by_cases hlt2 : g ys (2 * i + 2) < g ys i
          · rw [decide_eq_true hlt2] at HL2
            go_wp2_with fail
            refine (unhide HL2).mono ?_
            rintro e w2 ⟨rfl, nq2, hw2⟩
            have hc2 : w2.cell? ⟨b, 0, none⟩ = some v := by rw [hw2]; exact hc1
            have HA2 := hide ((unhide HA).drews nq2)
            rw [← hw2] at HA2
            clear hw2
            have mS := meth_swap hc2
            have HS := hide (swap_any (unhide HA2).now i (2 * i + 2) (by omega) (by omega))
            rw [show ((2 * i + 2 : Nat) : Int) = 2 * (i : Int) + 1 + 1 by omega] at HS
            go_wp2_with fail
            refine (unhide HS).mono ?_
            rintro e w3 ⟨rfl, hw3⟩
            have HW2 := hide ((unhide HA2).trans hw3)
            clear hw3
            go_wp2
            go_roundw
            case rel =>
              refine ⟨2 * i + 2, swp ys i (2 * i + 2), by rw [show ((2 * i + 2 : Nat) : Int) = 2 * (i : Int) + 1 + 1 by omega], by omega, by rw [Hp.swp_length]; exact hyl, unhide HW2, (Hp.swp_perm ys i (2 * i + 2) (by omega) (by omega)).trans (unhide HP), (unhide HI).step (unhide HLe) (by omega) hlt2, fun k hk => ?_⟩
              rw [Hp.g_swp ys i (2 * i + 2) (by omega) (by omega), if_neg (by omega), if_neg (by omega)]
              exact unhide HK k hk
            case measure => simp [intOf]; omega
          · rw [decide_eq_false hlt2] at HL2
            go_wp2_with fail
            refine (unhide HL2).mono ?_
            rintro e w2 ⟨rfl, nq2, hw2⟩
            have HA2 := hide ((unhide HA).drews nq2)
            rw [← hw2] at HA2
            clear hw2
            go_wp2
            go_ret
            exact ⟨_, ys, rfl, unhide HA2, unhide HP, (unhide HI).stop (unhide HLe) hlt2, unhide HK⟩
        · rw [decide_eq_false hlt] at HL
          go_wp2_with fail
          refine (unhide HL).mono ?_
          rintro e w1 ⟨rfl, nq, hw1⟩
          have hc1 : w1.cell? ⟨b, 0, none⟩ = some v := by rw [hw1]; exact hcell
          have HA := hide ((unhide HW).drews nq)
          rw [← hw1] at HA
          clear hw1
          have HLe := hide (Hp.least_one ys n i h1 (Or.inr hlt))
          have HL2 := hide (less_any (unhide HA).now (2 * i + 1) i (by omega) (by omega))
          rw [show ((2 * i + 1 : Nat) : Int) = 2 * (i : Int) + 1 by omega] at HL2
          have mL1 := meth_less hc1
          by_cases hlt2 : g ys (2 * i + 1) < g ys i
          · rw [decide_eq_true hlt2] at HL2
            go_wp2_with fail
            refine (unhide HL2).mono ?_
            rintro e w2 ⟨rfl, nq2, hw2⟩
            have hc2 : w2.cell? ⟨b, 0, none⟩ = some v := by rw [hw2]; exact hc1
            have HA2 := hide ((unhide HA).drews nq2)
            rw [← hw2] at HA2
            clear hw2
            have mS := meth_swap hc2
            have HS := hide (swap_any (unhide HA2).now i (2 * i + 1) (by omega) (by omega))
            rw [show ((2 * i + 1 : Nat) : Int) = 2 * (i : Int) + 1 by omega] at HS
            go_wp2_with fail
            refine (unhide HS).mono ?_
            rintro e w3 ⟨rfl, hw3⟩
            have HW2 := hide ((unhide HA2).trans hw3)
            clear hw3
            go_wp2
            go_roundw
            case rel =>
              refine ⟨2 * i + 1, swp ys i (2 * i + 1), by rw [show ((2 * i + 1 : Nat) : Int) = 2 * (i : Int) + 1 by omega], by omega, by rw [Hp.swp_length]; exact hyl, unhide HW2, (Hp.swp_perm ys i (2 * i + 1) (by omega) (by omega)).trans (unhide HP), (unhide HI).step (unhide HLe) (by omega) hlt2, fun k hk => ?_⟩
              rw [Hp.g_swp ys i (2 * i + 1) (by omega) (by omega), if_neg (by omega), if_neg (by omega)]
              exact unhide HK k hk
            case measure => simp [intOf]; omega
          · rw [decide_eq_false hlt2] at HL2
            go_wp2_with fail
            refine (unhide HL2).mono ?_
            rintro e w2 ⟨rfl, nq2, hw2⟩
            have HA2 := hide ((unhide HA).drews nq2)
            rw [← hw2] at HA2
            clear hw2
            go_wp2
            go_ret
            exact ⟨_, ys, rfl, unhide HA2, unhide HP, (unhide HI).stop (unhide HLe) hlt2, unhide HK⟩
      · have b1 : ¬ (2 * (i : Int) + 1 + 1) < n := by omega
        have hc1 := hcell
        have HA := HW
        have HLe := hide (Hp.least_one ys n i h1 (Or.inl h2))
        have HL2 := hide (less_any (unhide HA).now (2 * i + 1) i (by omega) (by omega))
        rw [show ((2 * i + 1 : Nat) : Int) = 2 * (i : Int) + 1 by omega] at HL2
        have mL1 := meth_less hc1
        by_cases hlt2 : g ys (2 * i + 1) < g ys i
        · rw [decide_eq_true hlt2] at HL2
          go_wp2_with fail
          refine (unhide HL2).mono ?_
          rintro e w2 ⟨rfl, nq2, hw2⟩
          have hc2 : w2.cell? ⟨b, 0, none⟩ = some v := by rw [hw2]; exact hc1
          have HA2 := hide ((unhide HA).drews nq2)
          rw [← hw2] at HA2
          clear hw2
          have mS := meth_swap hc2
          have HS := hide (swap_any (unhide HA2).now i (2 * i + 1) (by omega) (by omega))
          rw [show ((2 * i + 1 : Nat) : Int) = 2 * (i : Int) + 1 by omega] at HS
          go_wp2_with fail
          refine (unhide HS).mono ?_
          rintro e w3 ⟨rfl, hw3⟩
          have HW2 := hide ((unhide HA2).trans hw3)
          clear hw3
          go_wp2
          go_roundw
          case rel =>
            refine ⟨2 * i + 1, swp ys i (2 * i + 1), by rw [show ((2 * i + 1 : Nat) : Int) = 2 * (i : Int) + 1 by omega], by omega, by rw [Hp.swp_length]; exact hyl, unhide HW2, (Hp.swp_perm ys i (2 * i + 1) (by omega) (by omega)).trans (unhide HP), (unhide HI).step (unhide HLe) (by omega) hlt2, fun k hk => ?_⟩
            rw [Hp.g_swp ys i (2 * i + 1) (by omega) (by omega), if_neg (by omega), if_neg (by omega)]
            exact unhide HK k hk
          case measure => simp [intOf]; omega
        · rw [decide_eq_false hlt2] at HL2
          go_wp2_with fail
          refine (unhide HL2).mono ?_
          rintro e w2 ⟨rfl, nq2, hw2⟩
          have HA2 := hide ((unhide HA).drews nq2)
          rw [← hw2] at HA2
          clear hw2
          go_wp2
          go_ret
          exact ⟨_, ys, rfl, unhide HA2, unhide HP, (unhide HI).stop (unhide HLe) hlt2, unhide HK⟩
    · have a2 : (n : Int) ≤ 2 * (i : Int) + 1 := by omega
      go_wp2
      go_ret
      exact ⟨_, ys, rfl, unhide HW, unhide HP, (unhide HI).end h1, unhide HK⟩

set_option maxHeartbeats 1000000 in
set_option maxRecDepth 100000 in
theorem hpush_any {w : World} {b : Nat} {v : Value} {xs : List K} (h : HpAt w b v xs) (hh : Heap xs xs.length) (x : K) (hl : (xs.length + 1) * 16 ≤ 140737488355328) :
    Calls Tryz.prog 86 #[hpI b, .iface 9 (encStr x)] w fun e w' => e = .returned (.tuple #[]) ∧ ∃ v' ys, HpWent w b v w' v' ys ∧ ys.Perm (x :: xs) ∧ Heap ys ys.length := by
  have HC := hide (push_any h x hl)
  have HH := hide hh
  have mP := meth_push (.pointer (some ⟨b, 0, none⟩))
  clear h hh
  unfold hpI
  go_enter Tryz.func86, Tryz.ntmps86
  go_wp2_with fail
  refine (unhide HC).mono ?_
  rintro e w1 ⟨rfl, v1, hw1⟩
  have hc1 := hw1.now.cell.1
  have mL := meth_len hc1
  have HL := hide (len_any0 hw1.now)
  rw [show ((xs ++ [x]).length : Int) = (xs.length : Int) + 1 by simp] at HL
  have HU := hide (up_any hw1.now xs.length (by simp) (Hp.UpInv.push (unhide HH) x) (by simp; omega))
  have HW1 := hide hw1
  clear hw1 mP
  unfold hpI at HU
  go_wp2_with fail
  refine (unhide HL).mono ?_
  rintro e w2 ⟨rfl, rfl⟩
  go_wp2_with fail
  refine (unhide HU).mono ?_
  rintro e w3 ⟨rfl, ys, hw3, hp, hy⟩
  go_wp2
  go_end0
  exact ⟨rfl, v1, ys, (unhide HW1).trans hw3, hp.trans (List.perm_append_singleton _ _), hy⟩

set_option maxHeartbeats 1000000 in
set_option maxRecDepth 100000 in
theorem hpop_any {w : World} {b : Nat} {v : Value} {xs : List K} (h : HpAt w b v xs) (hh : Heap xs xs.length) (m : Nat) (hm : xs.length = m + 1) (hl : xs.length ≤ 140737488355328) :
    Calls Tryz.prog 88 #[hpI b] w fun e w' => ∃ x v' ys, e = .returned (.iface 9 (encStr x)) ∧ HpWent w b v w' v' ys ∧ xs.Perm (x :: ys) ∧ Heap ys ys.length ∧ ∀ y ∈ xs, x ≤ y := by
  have HH := hide hh
  have hc := h.cell.1
  have mL := meth_len hc
  have HL := hide (len_any0 h)
  have HS := hide (swap_any h 0 m (by omega) (by omega))
  have H := hide h
  clear h hh
  have hmi : ((m : Int) + 1 - 1) = m := by omega
  rw [show (xs.length : Int) = (m : Int) + 1 by omega] at HL
  unfold hpI
  go_enter Tryz.func88, Tryz.ntmps88
  go_wp2_with fail
  refine (unhide HL).mono ?_
  rintro e w1 ⟨rfl, rfl⟩
  have mS := meth_swap hc
  go_wp2_with fail
  refine (unhide HS).mono ?_
  rintro e w2 ⟨rfl, hw2⟩
  have hl2 : (swp xs 0 m).length = m + 1 := by rw [Hp.swp_length, hm]
  have HD := hide (down_any hw2.now m (by omega) (Hp.DnInv.front (by rw [← hm]; exact unhide HH) hm) (by omega))
  have HW2 := hide hw2
  clear hw2 mS mL hc
  unfold hpI at HD
  go_wp2_with fail
  refine (unhide HD).mono ?_
  rintro e w3 ⟨r, ys, rfl, hw3, hp, hy, hk⟩
  have hyl : ys.length = m + 1 := by rw [hp.length_eq]; exact hl2
  have HP := hide (pop_any hw3.now m hyl (by omega))
  have mP := meth_pop (.pointer (some ⟨b, 0, none⟩))
  have HW3 := hide ((unhide HW2).trans hw3)
  have HK := hide hk
  have HY := hide hy
  have HPE := hide hp
  clear hw3 hk hy hp
  go_wp2_with fail
  refine (unhide HP).mono ?_
  rintro e w4 ⟨rfl, v4, hw4⟩
  have HW4 := hide ((unhide HW3).trans hw4)
  clear hw4
  go_wp2
  go_ret
  have hgm : g ys m = g xs 0 := by rw [unhide HK m (Nat.le_refl _), Hp.g_swp xs 0 m (by omega) (by omega), if_pos rfl]
  refine ⟨g ys m, v4, ys.take m, rfl, unhide HW4, ?_, Hp.heap_take (unhide HY) (by omega), fun y hy => ?_⟩
  · exact ((Hp.swp_perm xs 0 m (by omega) (by omega)).symm.trans (unhide HPE).symm).trans (Hp.take_perm ys m hyl)
  · rw [hgm]
    obtain ⟨k, hk, rfl⟩ := List.mem_iff_getElem.1 hy
    rw [← Hp.g_eq xs k hk]
    exact Hp.heap_min (unhide HH) k hk
end Go.Proofs.YtmcobkcnpnfobaaGreat
