/-
  Rows whose elements have many cells; slices of any one-cell values that are read; for whatever seat.
-/
import Derived.Test.YtadpmninoghcjaaDoorMem
import Derived.Deep.MidRow
import Derived.Deep.WholeRow
namespace Go.Proofs.YtadpmninoghcjaaDoor
open Go.RowKit
set_option linter.unusedSimpArgs false
set_option linter.unusedVariables false

section
variable {α : Type}

theorem flat_length (f : α → List Value) (m : Nat) (xs : List α) (h : ∀ x ∈ xs, (f x).length = m) : (xs.flatMap f).length = xs.length * m := by
  induction xs with
  | nil => simp
  | cons x r ih =>
    rw [List.flatMap_cons, List.length_append, ih (fun y hy => h y (by simp [hy])), h x (by simp), List.length_cons, Nat.add_mul, Nat.one_mul, Nat.add_comm]

theorem flat_at (f : α → List Value) (m : Nat) (xs : List α) (h : ∀ x ∈ xs, (f x).length = m) (i j : Nat) (hj : j < m) (x : α) (hx : xs[i]? = some x) : (xs.flatMap f)[i * m + j]? = (f x)[j]? := by
  induction xs generalizing i with
  | nil => simp at hx
  | cons y r ih =>
    have hy := h y (by simp)
    cases i with
    | zero =>
      simp at hx
      subst hx
      rw [List.flatMap_cons, Nat.zero_mul, Nat.zero_add, List.getElem?_append_left (by omega)]
    | succ i =>
      rw [List.getElem?_cons_succ] at hx
      rw [List.flatMap_cons, List.getElem?_append_right (by rw [hy, Nat.add_mul]; omega), hy, show (i + 1) * m + j - m = i * m + j by rw [Nat.add_mul]; omega]
      exact ih (fun z hz => h z (by simp [hz])) i hx

theorem flat_set (f : α → List Value) (m : Nat) (xs : List α) (h : ∀ x ∈ xs, (f x).length = m) (i : Nat) (y : α) (hi : i < xs.length) (hy : (f y).length = m) :
    (xs.set i y).flatMap f = (xs.flatMap f).take (i * m) ++ (f y ++ (xs.flatMap f).drop (i * m + m)) := by
  induction xs generalizing i with
  | nil => simp at hi
  | cons x r ih =>
    have hx := h x (by simp)
    cases i with
    | zero => simp [List.flatMap_cons, ← hx]
    | succ i =>
      have e : (i + 1) * m = m + i * m := by rw [Nat.add_mul]; omega
      rw [List.set_cons_succ, List.flatMap_cons, List.flatMap_cons, ih (fun z hz => h z (by simp [hz])) i (by simpa using hi), e, ← hx, List.take_length_add_append, Nat.add_assoc, List.drop_length_add_append, List.append_assoc]
end

/-- cells set one by one -/
def setMany (xs : List Value) : Nat → List Value → List Value
  | _, [] => xs
  | o, v :: r => setMany (xs.set o v) (o + 1) r

theorem setMany_eq (vs xs : List Value) (o : Nat) (h : o + vs.length ≤ xs.length) : setMany xs o vs = xs.take o ++ (vs ++ xs.drop (o + vs.length)) := by
  induction vs generalizing xs o with
  | nil => simp [setMany]
  | cons v r ih =>
    simp only [List.length_cons] at h
    rw [setMany, ih _ _ (by simp; omega)]
    apply List.ext_getElem?
    intro i
    simp only [List.getElem?_append, List.length_take, List.length_set, List.getElem?_take, List.getElem?_set, List.getElem?_drop, List.length_cons, List.cons_append, List.getElem?_cons]
    have h1 : min (o + 1) xs.length = o + 1 := by omega
    have h2 : min o xs.length = o := by omega
    rw [h1, h2]
    rcases Nat.lt_trichotomy i o with hlt | heq | hgt
    · have a1 : i < o + 1 := by omega
      have a2 : ¬ o = i := by omega
      simp [hlt, a1, a2]
    · subst heq
      have a3 : i < xs.length := by omega
      simp [a3]
    · have a1 : ¬ i < o + 1 := by omega
      have a2 : ¬ i < o := by omega
      have a3 : ¬ i - o = 0 := by omega
      have a4 : i - (o + 1) = i - o - 1 := by omega
      simp only [a1, a2, a3, if_false, a4]
      split
      · rfl
      · have a5 : ¬ o = o + 1 + r.length + (i - o - 1 - r.length) := by omega
        rw [if_neg a5]
        congr 1
        omega

theorem ownsRow_setCells {base e size g n cap : Nat} (vs : List Value) : ∀ (w : World) (xs : List Value) (o : Nat), w.ownsRow base e size (.slice (some ⟨g, 0, none⟩) n cap) n xs →
    (w.setCells g o vs).ownsRow base e size (.slice (some ⟨g, 0, none⟩) n cap) n (setMany xs o vs) := by
  induction vs with
  | nil => intro w xs o h; exact h
  | cons v r ih => intro w xs o h; exact ih _ _ _ (h.stored o v).1

theorem Only.setCells {S : Nat → Prop} {a : World} {b : Nat} (hp : b < a.heap.size → S b) (vs : List Value) : ∀ (w : World) (o : Nat), Only S a w → Only S a (w.setCells b o vs) := by
  induction vs with
  | nil => intro w o h; exact h
  | cons v r ih => intro w o h; exact ih _ _ (h.setCell (p := ⟨b, o, none⟩) hp v)

section
variable {α : Type} {w : World} {base e m g n cap : Nat} {f : α → List Value} {xs : List α}

theorem row_range (own : w.ownsRow base e m (.slice (some ⟨g, 0, none⟩) n cap) n (xs.flatMap f)) (hm : ∀ x ∈ xs, (f x).length = m) (hn : xs.length = n) (i : Nat) (x : α) (hx : xs[i]? = some x) : w.rangeAt g (i * m) (f x) := by
  intro j v hv
  have hj : j < m := by rw [← hm x (List.mem_of_getElem? hx)]; exact (List.getElem?_eq_some_iff.1 hv).1
  have hi : i < n := by rw [← hn]; exact (List.getElem?_eq_some_iff.1 hx).1
  have hlt : i * m + j < n * m := by
    have : (i + 1) * m ≤ n * m := Nat.mul_le_mul_right m hi
    rw [Nat.add_mul] at this
    omega
  rw [own.cellAt _ hlt, flat_at f m xs hm i j hj x hx, hv]

theorem row_there (own : w.ownsRow base e m (.slice (some ⟨g, 0, none⟩) n cap) n (xs.flatMap f)) (i : Nat) (hi : i < n) : w.there g (i * m) m := by
  intro j hj
  have hlt : i * m + j < n * m := by
    have : (i + 1) * m ≤ n * m := Nat.mul_le_mul_right m hi
    rw [Nat.add_mul] at this
    omega
  have hl := own.1
  refine ⟨?_, own.frozenAt _⟩
  rw [own.cellAt _ hlt, List.getElem?_eq_getElem (by rw [hl]; exact hlt)]
  rfl

theorem row_set (own : w.ownsRow base e m (.slice (some ⟨g, 0, none⟩) n cap) n (xs.flatMap f)) (hm : ∀ x ∈ xs, (f x).length = m) (hn : xs.length = n) (i : Nat) (hi : i < n) (y : α) (hy : (f y).length = m) :
    (w.setCells g (i * m) (f y)).ownsRow base e m (.slice (some ⟨g, 0, none⟩) n cap) n ((xs.set i y).flatMap f) := by
  have h := ownsRow_setCells (f y) w _ (i * m) own
  rw [setMany_eq, hy] at h
  · rw [flat_set f m xs hm i y (by omega) hy]
    exact h
  · have hl := own.1
    have : (i + 1) * m ≤ n * m := Nat.mul_le_mul_right m hi
    rw [Nat.add_mul] at this
    rw [hl, hy]
    omega
end

/-- The slice value v holds just the values vs, one cell each, in w (read only; whatever memory). -/
def HasV (w : World) (v : Value) (vs : List Value) : Prop :=
  (v = .slice none 0 0 ∧ vs = []) ∨ ∃ a cap, v = .slice (some a) vs.length cap ∧ (0 < vs.length → a.spot = none) ∧ vs.length ≤ cap ∧ cap ≤ maxLen ∧ (0 < vs.length → a.block < w.heap.size) ∧ ∀ j (hj : j < vs.length), w.cell? ⟨a.block, a.off + j, none⟩ = some vs[j]

theorem HasV.only {S : Nat → Prop} {w w' : World} {v : Value} {vs : List Value} (h : HasV w v vs) (ho : Only S w w') (hS : vs ≠ [] → ∀ k, blk v = some k → ¬ S k) : HasV w' v vs := by
  rcases h with h | ⟨a, cap, rfl, hsp, hl, hm, hb, hc⟩
  · exact Or.inl h
  · refine Or.inr ⟨a, cap, rfl, hsp, hl, hm, fun h0 => Nat.lt_of_lt_of_le (hb h0) ho.size, fun j hj => ho.cell (hc j hj) (hS (fun e => by subst e; simp at hj) _ rfl)⟩

theorem HasV.shape {w : World} {v : Value} {vs : List Value} (h : HasV w v vs) : ∃ ao cap, v = .slice ao vs.length cap ∧ vs.length ≤ cap ∧ cap ≤ maxLen := by
  rcases h with ⟨rfl, rfl⟩ | ⟨a, cap, rfl, _, hl, hm, _⟩
  · exact ⟨none, 0, rfl, Nat.le_refl _, Nat.zero_le _⟩
  · exact ⟨some a, cap, rfl, hl, hm⟩

theorem HasV.at {w : World} {ao : Option Addr} {len cap : Nat} {vs : List Value} (h : HasV w (.slice ao len cap) vs) (h0 : 0 < len) : ∃ bb off, ao = some ⟨bb, off, none⟩ ∧ len = vs.length ∧ ∀ j (hj : j < vs.length), w.cell? ⟨bb, off + j, none⟩ = some vs[j] := by
  rcases h with ⟨e, rfl⟩ | ⟨a, c, e, hsp, hl, hm, hb, hc⟩
  · simp only [Value.slice.injEq] at e
    omega
  · simp only [Value.slice.injEq] at e
    obtain ⟨b, o, s⟩ := a
    have hs0 : s = none := hsp (by omega)
    subst hs0
    exact ⟨b, o, e.1, e.2.1, hc⟩

theorem HasV.blk_lt {w : World} {v : Value} {vs : List Value} (h : HasV w v vs) (hne : vs ≠ []) : ∀ k, blk v = some k → k < w.heap.size := by
  intro k hk
  rcases h with ⟨_, e⟩ | ⟨a, cap, rfl, _, _, _, hb, _⟩
  · exact absurd e hne
  · simp only [blk, Option.map_some, Option.some.injEq] at hk
    subst hk
    exact hb (by cases vs with | nil => exact absurd rfl hne | cons _ _ => simp)

theorem hasV_nil (w : World) : HasV w (.slice none 0 0) [] := Or.inl ⟨rfl, rfl⟩

theorem hasV_lit {w : World} {g : Nat} {vs : List Value} {t : TypeId} {fr : Nat × Nat} (h : w.heap[g]? = some (.cells vs.toArray t fr)) (hm : vs.length ≤ maxLen) : HasV w (.slice (some ⟨g, 0, none⟩) vs.length vs.length) vs := by
  refine Or.inr ⟨⟨g, 0, none⟩, vs.length, rfl, fun _ => rfl, Nat.le_refl _, hm, fun _ => lt_of_block h, fun j hj => ?_⟩
  simp [World.cell?, h, hj]

theorem HasV.ofOwns {w : World} {base e : Nat} {v : Value} {n : Nat} {vs : List Value} (h : w.ownsRow base e 1 v n vs) : HasV w v vs := by
  have hn : n = vs.length := by have := h.1; omega
  subst hn
  rcases h.2 with ⟨rfl, h0⟩ | ⟨g, cap, cur, rfl, hb, hg, hc, hm, hcs, ht⟩
  · exact Or.inl ⟨rfl, List.eq_nil_of_length_eq_zero h0⟩
  · refine Or.inr ⟨⟨g, 0, none⟩, cap, rfl, fun _ => rfl, hc, hm, fun _ => (Array.getElem?_eq_some_iff.1 hg).1, fun j hj => ?_⟩
    have := h.cells (g := g) rfl j vs[j] (by simp [hj])
    rwa [addr_add _ rfl] at this

theorem Has.toV {w : World} {v : Value} {bs : List UInt8} (h : Has w v bs) : HasV w v (bs.map bv) := by
  rcases h with ⟨rfl, rfl⟩ | ⟨a, cap, rfl, hsp, hl, hm, hb, hc⟩
  · exact Or.inl ⟨rfl, rfl⟩
  · exact Or.inr ⟨a, cap, by simp, by simpa using hsp, by simpa using hl, hm, by simpa using hb, fun j hj => by simpa using hc j (by simpa using hj)⟩

end Go.Proofs.YtadpmninoghcjaaDoor
