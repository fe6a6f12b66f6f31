/-
  locksmithhand.Object: an object under way, in memory; what its numbers keep.
-/
import Derived.Test.YtadpmninoghcjaaDoorHoIn
namespace Go.Proofs.YtadpmninoghcjaaDoor
open Go.RowKit
set_option linter.unusedSimpArgs false
set_option linter.unusedVariables false
namespace Ob

/-! ### one cell, or some, of an object's cells set anew -/
theorem ten_list {α : Type} (l : List α) (h : l.length = 10) : ∃ a0 a1 a2 a3 a4 a5 a6 a7 a8 a9, l = [a0, a1, a2, a3, a4, a5, a6, a7, a8, a9] := by
  match l, h with
  | [a0, a1, a2, a3, a4, a5, a6, a7, a8, a9], _ => exact ⟨_, _, _, _, _, _, _, _, _, _, rfl⟩
theorem set_date (o : Ob) (mv nv lv cv : Value) (hd : o.dates.length = 10) (i : Nat) (hi : i < 10) (b : Bool) (n : Int) : setMany (cells o mv nv lv cv) (7 + i * 2) [.bool b, .int .i64 n] = cells { o with dates := o.dates.set i (b, n) } mv nv lv cv := by
  obtain ⟨id, typ, alg, len, mask, mat, state, dates, reason, msg, names, links, custom, lh, lt, lc, lu, arch⟩ := o
  simp only at hd
  obtain ⟨a0, a1, a2, a3, a4, a5, a6, a7, a8, a9, rfl⟩ := ten_list dates hd
  match i, hi with
  | 0, _ => rfl
  | 1, _ => rfl
  | 2, _ => rfl
  | 3, _ => rfl
  | 4, _ => rfl
  | 5, _ => rfl
  | 6, _ => rfl
  | 7, _ => rfl
  | 8, _ => rfl
  | 9, _ => rfl
  | k + 10, h => exact absurd h (by omega)
theorem set_lim (o : Ob) (mv nv lv cv : Value) (hd : o.dates.length = 10) (b : Bool) (x y z : Int) : setMany (cells o mv nv lv cv) 32 [.bool b, .int .i64 x, .int .i64 y, .int .i64 z] = cells { o with lh := b, lt := x, lc := y, lu := z } mv nv lv cv := by
  obtain ⟨id, typ, alg, len, mask, mat, state, dates, reason, msg, names, links, custom, lh, lt, lc, lu, arch⟩ := o
  simp only at hd
  obtain ⟨a0, a1, a2, a3, a4, a5, a6, a7, a8, a9, rfl⟩ := ten_list dates hd
  rfl
section
variable (o : Ob) (mv nv lv cv : Value) (hd : o.dates.length = 10)
include hd
theorem set_mat (u : Value) (x : List UInt8) : (cells o mv nv lv cv).set 5 u = cells { o with mat := x } u nv lv cv := by
  obtain ⟨id, typ, alg, len, mask, mat, state, dates, reason, msg, names, links, custom, lh, lt, lc, lu, arch⟩ := o
  simp only at hd
  obtain ⟨a0, a1, a2, a3, a4, a5, a6, a7, a8, a9, rfl⟩ := ten_list dates hd
  rfl
theorem set_state (n : Int) : (cells o mv nv lv cv).set 6 (.int .i64 n) = cells { o with state := n } mv nv lv cv := by
  obtain ⟨id, typ, alg, len, mask, mat, state, dates, reason, msg, names, links, custom, lh, lt, lc, lu, arch⟩ := o
  simp only at hd
  obtain ⟨a0, a1, a2, a3, a4, a5, a6, a7, a8, a9, rfl⟩ := ten_list dates hd
  rfl
theorem set_reason (n : Int) : (cells o mv nv lv cv).set 27 (.int .i64 n) = cells { o with reason := n } mv nv lv cv := by
  obtain ⟨id, typ, alg, len, mask, mat, state, dates, reason, msg, names, links, custom, lh, lt, lc, lu, arch⟩ := o
  simp only at hd
  obtain ⟨a0, a1, a2, a3, a4, a5, a6, a7, a8, a9, rfl⟩ := ten_list dates hd
  rfl
theorem set_msg (s : List UInt8) : (cells o mv nv lv cv).set 28 (.string (str s)) = cells { o with msg := s } mv nv lv cv := by
  obtain ⟨id, typ, alg, len, mask, mat, state, dates, reason, msg, names, links, custom, lh, lt, lc, lu, arch⟩ := o
  simp only at hd
  obtain ⟨a0, a1, a2, a3, a4, a5, a6, a7, a8, a9, rfl⟩ := ten_list dates hd
  rfl
theorem set_names (u : Value) (x : List (List UInt8)) : (cells o mv nv lv cv).set 29 u = cells { o with names := x } mv u lv cv := by
  obtain ⟨id, typ, alg, len, mask, mat, state, dates, reason, msg, names, links, custom, lh, lt, lc, lu, arch⟩ := o
  simp only at hd
  obtain ⟨a0, a1, a2, a3, a4, a5, a6, a7, a8, a9, rfl⟩ := ten_list dates hd
  rfl
theorem set_links (u : Value) (x : List (Int × List UInt8)) : (cells o mv nv lv cv).set 30 u = cells { o with links := x } mv nv u cv := by
  obtain ⟨id, typ, alg, len, mask, mat, state, dates, reason, msg, names, links, custom, lh, lt, lc, lu, arch⟩ := o
  simp only at hd
  obtain ⟨a0, a1, a2, a3, a4, a5, a6, a7, a8, a9, rfl⟩ := ten_list dates hd
  rfl
theorem set_custom (u : Value) (x : List (List UInt8 × List UInt8)) : (cells o mv nv lv cv).set 31 u = cells { o with custom := x } mv nv lv u := by
  obtain ⟨id, typ, alg, len, mask, mat, state, dates, reason, msg, names, links, custom, lh, lt, lc, lu, arch⟩ := o
  simp only at hd
  obtain ⟨a0, a1, a2, a3, a4, a5, a6, a7, a8, a9, rfl⟩ := ten_list dates hd
  rfl
theorem set_arch (b : Bool) : (cells o mv nv lv cv).set 36 (.bool b) = cells { o with arch := b } mv nv lv cv := by
  obtain ⟨id, typ, alg, len, mask, mat, state, dates, reason, msg, names, links, custom, lh, lt, lc, lu, arch⟩ := o
  simp only at hd
  obtain ⟨a0, a1, a2, a3, a4, a5, a6, a7, a8, a9, rfl⟩ := ten_list dates hd
  rfl
theorem get_date (i : Nat) (hi : i < 10) : (cells o mv nv lv cv)[7 + i * 2]? = some (.bool (o.dates.getD i (false, 0)).1) ∧ (cells o mv nv lv cv)[7 + i * 2 + 1]? = some (.int .i64 (o.dates.getD i (false, 0)).2) := by
  obtain ⟨id, typ, alg, len, mask, mat, state, dates, reason, msg, names, links, custom, lh, lt, lc, lu, arch⟩ := o
  simp only at hd
  obtain ⟨a0, a1, a2, a3, a4, a5, a6, a7, a8, a9, rfl⟩ := ten_list dates hd
  match i, hi with
  | 0, _ => exact ⟨rfl, rfl⟩
  | 1, _ => exact ⟨rfl, rfl⟩
  | 2, _ => exact ⟨rfl, rfl⟩
  | 3, _ => exact ⟨rfl, rfl⟩
  | 4, _ => exact ⟨rfl, rfl⟩
  | 5, _ => exact ⟨rfl, rfl⟩
  | 6, _ => exact ⟨rfl, rfl⟩
  | 7, _ => exact ⟨rfl, rfl⟩
  | 8, _ => exact ⟨rfl, rfl⟩
  | 9, _ => exact ⟨rfl, rfl⟩
  | k + 10, h => exact absurd h (by omega)
end

/-! ### under way -/
/-- an object under way: in a block of its own, its lists in rows of their own, all new since w -/
structure Uw (w wr : World) (ka : Nat) (o : Ob) (mv nv lv cv : Value) : Prop where
  only : Only (fun _ => False) w wr
  box : Bx wr ka 32 (cells o mv nv lv cv)
  base : w.heap.size ≤ ka
  mat : Has wr mv o.mat
  nm : wr.ownsRow w.heap.size 9 1 nv o.names.length (o.names.flatMap scells)
  lk : wr.ownsRow w.heap.size 67 2 lv o.links.length (o.links.flatMap kcells)
  cu : wr.ownsRow w.heap.size 71 2 cv o.custom.length (o.custom.flatMap ccells)
  mb : ∀ j, blk mv = some j → w.heap.size ≤ j ∧ j ≠ ka ∧ j < wr.heap.size
  nb : ∀ j, blk nv = some j → j ≠ ka ∧ blk mv ≠ some j ∧ blk lv ≠ some j ∧ blk cv ≠ some j
  lb : ∀ j, blk lv = some j → j ≠ ka ∧ blk mv ≠ some j ∧ blk nv ≠ some j ∧ blk cv ≠ some j
  cb : ∀ j, blk cv = some j → j ≠ ka ∧ blk mv ≠ some j ∧ blk nv ≠ some j ∧ blk lv ≠ some j

theorem own_blk {w : World} {base e size n : Nat} {v : Value} {xs : List Value} (h : w.ownsRow base e size v n xs) : v.ownBlock = blk v := by
  obtain ⟨ao, cap, rfl⟩ := ownsRow_shape h
  exact (blk_own ao n cap).symm
theorem own_lt {w : World} {base e size n : Nat} {v : Value} {xs : List Value} (h : w.ownsRow base e size v n xs) : ∀ j, blk v = some j → base ≤ j ∧ j < w.heap.size := fun j hj => h.lt j (by rw [own_blk h]; exact hj)
section
variable {w wr wx : World} {ka : Nat} {o : Ob} {mv nv lv cv : Value}
theorem Uw.same (h : Uw w wr ka o mv nv lv cv) (q : Only (fun _ => False) wr wx) : Uw w wx ka o mv nv lv cv :=
  ⟨h.only.trans q (fun _ _ e => e), h.box.same q, h.base, h.mat.only q (fun _ _ _ e => e), q.owns h.nm (fun _ _ e => e), q.owns h.lk (fun _ _ e => e), q.owns h.cu (fun _ _ e => e), fun j hj => ⟨(h.mb j hj).1, (h.mb j hj).2.1, Nat.lt_of_lt_of_le (h.mb j hj).2.2 q.size⟩, h.nb, h.lb, h.cb⟩
/-- cells of the object's own block turned -/
theorem Uw.turned (h : Uw w wr ka o mv nv lv cv) (q : Only (fun j => j = ka) wr wx) (o' : Ob) (hb : Bx wx ka 32 (cells o' mv nv lv cv)) (h1 : o'.mat = o.mat) (h2 : o'.names = o.names) (h3 : o'.links = o.links) (h4 : o'.custom = o.custom) : Uw w wx ka o' mv nv lv cv := by
  refine ⟨h.only.trans q (fun j hj e => by have := h.base; omega), hb, h.base, ?_, ?_, ?_, ?_, fun j hj => ⟨(h.mb j hj).1, (h.mb j hj).2.1, Nat.lt_of_lt_of_le (h.mb j hj).2.2 q.size⟩, h.nb, h.lb, h.cb⟩
  · rw [h1]; exact h.mat.only q (fun _ j hj => (h.mb j hj).2.1)
  · rw [h2]; exact q.owns h.nm (fun j hj => (h.nb j (by rw [← own_blk h.nm]; exact hj)).1)
  · rw [h3]; exact q.owns h.lk (fun j hj => (h.lb j (by rw [← own_blk h.lk]; exact hj)).1)
  · rw [h4]; exact q.owns h.cu (fun j hj => (h.cb j (by rw [← own_blk h.cu]; exact hj)).1)
theorem Uw.sets (h : Uw w wr ka o mv nv lv cv) (i : Nat) (vs : List Value) (o' : Ob) (he : setMany (cells o mv nv lv cv) i vs = cells o' mv nv lv cv) (h1 : o'.mat = o.mat) (h2 : o'.names = o.names) (h3 : o'.links = o.links) (h4 : o'.custom = o.custom) : Uw w (wr.setCells ka i vs) ka o' mv nv lv cv :=
  h.turned (Only.setCells (S := fun j => j = ka) (fun _ => rfl) _ _ _ (Only.refl _ _)) o' (by rw [← he]; exact setCells_blk vs wr i _ h.box) h1 h2 h3 h4
theorem Uw.set (h : Uw w wr ka o mv nv lv cv) (i : Nat) (v : Value) (o' : Ob) (he : (cells o mv nv lv cv).set i v = cells o' mv nv lv cv) (h1 : o'.mat = o.mat) (h2 : o'.names = o.names) (h3 : o'.links = o.links) (h4 : o'.custom = o.custom) : Uw w (wr.setCell ⟨ka, i, none⟩ v) ka o' mv nv lv cv :=
  h.turned ((Only.refl _ _).here _ _) o' (by rw [← he]; exact h.box.set i v) h1 h2 h3 h4
theorem Uw.there (h : Uw w wr ka o mv nv lv cv) (hd : o.dates.length = 10) (i n : Nat) (hn : i + n ≤ 37) : wr.there ka i n := by
  intro j hj
  refine ⟨?_, h.box.free _⟩
  have hl := cells_len o mv nv lv cv hd
  rw [h.box.cell (i + j) _ (List.getElem?_eq_getElem (by omega))]
  rfl
/-- an element pushed to a list, the list stored again -/
theorem Uw.pushed (h : Uw w wr ka o mv nv lv cv) {row : Option Nat} {wy : World} (gr : wr.grownBy wy row) (hrow : ∀ j, row = some j → w.heap.size ≤ j) (hk : row ≠ some ka) : Only (fun j => row = some j) wr wy ∧ Bx wy ka 32 (cells o mv nv lv cv) ∧ Only (fun _ => False) w wy := by
  have q : Only (fun j => row = some j) wr wy := (Only.refl _ wr).grown gr (fun k hk _ => hk)
  exact ⟨q, h.box.only q hk, h.only.trans q (fun j hj e => by have := hrow j e; omega)⟩
theorem Uw.pushN (h : Uw w wr ka o mv nv lv cv) {wy : World} {u : Value} (s : List UInt8) (own : wy.ownsRow w.heap.size 9 1 u (o.names.length + 1) (o.names.flatMap scells ++ [s].flatMap scells)) (gr : wr.grownBy wy nv.ownBlock) (ht : u.ownBlock = nv.ownBlock ∨ u.ownBlock = some wr.heap.size) (hd : o.dates.length = 10) : Uw w (wy.setCell ⟨ka, 29, none⟩ u) ka { o with names := o.names ++ [s] } mv u lv cv := by
  have eV := own_blk h.nm
  have eU := own_blk own
  rw [eV] at gr
  rw [eV, eU] at ht
  have hkl := h.box.lt
  obtain ⟨q, hb, hO⟩ := h.pushed gr (fun j hj => (own_lt h.nm j hj).1) (fun e => (h.nb ka e).1 rfl)
  have q2 : Only (fun j => j = ka) wy (wy.setCell ⟨ka, 29, none⟩ u) := (Only.refl _ _).here _ _
  have hs := q.size
  have hs2 := q2.size
  have old : ∀ j v, blk u = some j → (∀ i, blk v = some i → i < wr.heap.size) → (∀ i, blk nv = some i → blk v ≠ some i) → blk v ≠ some j := fun j v hj hv hn e => by
    rcases ht with e2 | e2
    · rw [e2] at hj; exact hn j hj e
    · rw [e2] at hj; simp only [Option.some.injEq] at hj; have := hv j e; omega
  have uk : ∀ j, blk u = some j → j ≠ ka := fun j hj e => by
    rcases ht with e2 | e2
    · rw [e2] at hj; exact (h.nb j hj).1 e
    · rw [e2] at hj; simp only [Option.some.injEq] at hj; omega
  have om := fun j (hj : blk u = some j) => old j mv hj (fun i hi => (h.mb i hi).2.2) (fun i hi => (h.nb i hi).2.1)
  have o1 := fun j (hj : blk u = some j) => old j lv hj (fun i hi => (own_lt h.lk i hi).2) (fun i hi => (h.nb i hi).2.2.1)
  have o2 := fun j (hj : blk u = some j) => old j cv hj (fun i hi => (own_lt h.cu i hi).2) (fun i hi => (h.nb i hi).2.2.2)
  have r1 : (wy.setCell ⟨ka, 29, none⟩ u).ownsRow w.heap.size 67 2 lv o.links.length (o.links.flatMap kcells) := q2.owns (q.owns h.lk (fun j hj e => (h.nb j e).2.2.1 (by rw [← own_blk h.lk]; exact hj))) (fun j hj => (h.lb j (by rw [← own_blk h.lk]; exact hj)).1)
  have r2 : (wy.setCell ⟨ka, 29, none⟩ u).ownsRow w.heap.size 71 2 cv o.custom.length (o.custom.flatMap ccells) := q2.owns (q.owns h.cu (fun j hj e => (h.nb j e).2.2.2 (by rw [← own_blk h.cu]; exact hj))) (fun j hj => (h.cb j (by rw [← own_blk h.cu]; exact hj)).1)
  have r0 : (wy.setCell ⟨ka, 29, none⟩ u).ownsRow w.heap.size 9 1 u (o.names ++ [s]).length ((o.names ++ [s]).flatMap scells) := by
    rw [List.flatMap_append, List.length_append, List.length_singleton]
    exact q2.owns own (fun j hj => uk j (by rw [← eU]; exact hj))
  have mm : Has (wy.setCell ⟨ka, 29, none⟩ u) mv o.mat := (h.mat.only q (fun _ j hj e => (h.nb j e).2.1 hj)).only q2 (fun _ j hj => (h.mb j hj).2.1)
  refine ⟨hO.trans q2 (fun j hj e => by have := h.base; omega), ?_, h.base, mm, r0, r1, r2, fun j hj => ⟨(h.mb j hj).1, (h.mb j hj).2.1, by have := (h.mb j hj).2.2; omega⟩, fun j hj => ⟨uk j hj, om j hj, o1 j hj, o2 j hj⟩, fun j hj => ⟨(h.lb j hj).1, (h.lb j hj).2.1, fun e => o1 j e hj, (h.lb j hj).2.2.2⟩, fun j hj => ⟨(h.cb j hj).1, (h.cb j hj).2.1, fun e => o2 j e hj, (h.cb j hj).2.2.2⟩⟩
  rw [← set_names o mv nv lv cv hd u (o.names ++ [s])]
  exact hb.set 29 u
theorem Uw.pushK (h : Uw w wr ka o mv nv lv cv) {wy : World} {u : Value} (s : Int × List UInt8) (own : wy.ownsRow w.heap.size 67 2 u (o.links.length + 1) (o.links.flatMap kcells ++ [s].flatMap kcells)) (gr : wr.grownBy wy lv.ownBlock) (ht : u.ownBlock = lv.ownBlock ∨ u.ownBlock = some wr.heap.size) (hd : o.dates.length = 10) : Uw w (wy.setCell ⟨ka, 30, none⟩ u) ka { o with links := o.links ++ [s] } mv nv u cv := by
  have eV := own_blk h.lk
  have eU := own_blk own
  rw [eV] at gr
  rw [eV, eU] at ht
  have hkl := h.box.lt
  obtain ⟨q, hb, hO⟩ := h.pushed gr (fun j hj => (own_lt h.lk j hj).1) (fun e => (h.lb ka e).1 rfl)
  have q2 : Only (fun j => j = ka) wy (wy.setCell ⟨ka, 30, none⟩ u) := (Only.refl _ _).here _ _
  have hs := q.size
  have hs2 := q2.size
  have old : ∀ j v, blk u = some j → (∀ i, blk v = some i → i < wr.heap.size) → (∀ i, blk lv = some i → blk v ≠ some i) → blk v ≠ some j := fun j v hj hv hn e => by
    rcases ht with e2 | e2
    · rw [e2] at hj; exact hn j hj e
    · rw [e2] at hj; simp only [Option.some.injEq] at hj; have := hv j e; omega
  have uk : ∀ j, blk u = some j → j ≠ ka := fun j hj e => by
    rcases ht with e2 | e2
    · rw [e2] at hj; exact (h.lb j hj).1 e
    · rw [e2] at hj; simp only [Option.some.injEq] at hj; omega
  have om := fun j (hj : blk u = some j) => old j mv hj (fun i hi => (h.mb i hi).2.2) (fun i hi => (h.lb i hi).2.1)
  have o1 := fun j (hj : blk u = some j) => old j nv hj (fun i hi => (own_lt h.nm i hi).2) (fun i hi => (h.lb i hi).2.2.1)
  have o2 := fun j (hj : blk u = some j) => old j cv hj (fun i hi => (own_lt h.cu i hi).2) (fun i hi => (h.lb i hi).2.2.2)
  have r1 : (wy.setCell ⟨ka, 30, none⟩ u).ownsRow w.heap.size 9 1 nv o.names.length (o.names.flatMap scells) := q2.owns (q.owns h.nm (fun j hj e => (h.lb j e).2.2.1 (by rw [← own_blk h.nm]; exact hj))) (fun j hj => (h.nb j (by rw [← own_blk h.nm]; exact hj)).1)
  have r2 : (wy.setCell ⟨ka, 30, none⟩ u).ownsRow w.heap.size 71 2 cv o.custom.length (o.custom.flatMap ccells) := q2.owns (q.owns h.cu (fun j hj e => (h.lb j e).2.2.2 (by rw [← own_blk h.cu]; exact hj))) (fun j hj => (h.cb j (by rw [← own_blk h.cu]; exact hj)).1)
  have r0 : (wy.setCell ⟨ka, 30, none⟩ u).ownsRow w.heap.size 67 2 u (o.links ++ [s]).length ((o.links ++ [s]).flatMap kcells) := by
    rw [List.flatMap_append, List.length_append, List.length_singleton]
    exact q2.owns own (fun j hj => uk j (by rw [← eU]; exact hj))
  have mm : Has (wy.setCell ⟨ka, 30, none⟩ u) mv o.mat := (h.mat.only q (fun _ j hj e => (h.lb j e).2.1 hj)).only q2 (fun _ j hj => (h.mb j hj).2.1)
  refine ⟨hO.trans q2 (fun j hj e => by have := h.base; omega), ?_, h.base, mm, r1, r0, r2, fun j hj => ⟨(h.mb j hj).1, (h.mb j hj).2.1, by have := (h.mb j hj).2.2; omega⟩, fun j hj => ⟨(h.nb j hj).1, (h.nb j hj).2.1, fun e => o1 j e hj, (h.nb j hj).2.2.2⟩, fun j hj => ⟨uk j hj, om j hj, o1 j hj, o2 j hj⟩, fun j hj => ⟨(h.cb j hj).1, (h.cb j hj).2.1, (h.cb j hj).2.2.1, fun e => o2 j e hj⟩⟩
  rw [← set_links o mv nv lv cv hd u (o.links ++ [s])]
  exact hb.set 30 u
theorem Uw.pushC (h : Uw w wr ka o mv nv lv cv) {wy : World} {u : Value} (s : List UInt8 × List UInt8) (own : wy.ownsRow w.heap.size 71 2 u (o.custom.length + 1) (o.custom.flatMap ccells ++ [s].flatMap ccells)) (gr : wr.grownBy wy cv.ownBlock) (ht : u.ownBlock = cv.ownBlock ∨ u.ownBlock = some wr.heap.size) (hd : o.dates.length = 10) : Uw w (wy.setCell ⟨ka, 31, none⟩ u) ka { o with custom := o.custom ++ [s] } mv nv lv u := by
  have eV := own_blk h.cu
  have eU := own_blk own
  rw [eV] at gr
  rw [eV, eU] at ht
  have hkl := h.box.lt
  obtain ⟨q, hb, hO⟩ := h.pushed gr (fun j hj => (own_lt h.cu j hj).1) (fun e => (h.cb ka e).1 rfl)
  have q2 : Only (fun j => j = ka) wy (wy.setCell ⟨ka, 31, none⟩ u) := (Only.refl _ _).here _ _
  have hs := q.size
  have hs2 := q2.size
  have old : ∀ j v, blk u = some j → (∀ i, blk v = some i → i < wr.heap.size) → (∀ i, blk cv = some i → blk v ≠ some i) → blk v ≠ some j := fun j v hj hv hn e => by
    rcases ht with e2 | e2
    · rw [e2] at hj; exact hn j hj e
    · rw [e2] at hj; simp only [Option.some.injEq] at hj; have := hv j e; omega
  have uk : ∀ j, blk u = some j → j ≠ ka := fun j hj e => by
    rcases ht with e2 | e2
    · rw [e2] at hj; exact (h.cb j hj).1 e
    · rw [e2] at hj; simp only [Option.some.injEq] at hj; omega
  have om := fun j (hj : blk u = some j) => old j mv hj (fun i hi => (h.mb i hi).2.2) (fun i hi => (h.cb i hi).2.1)
  have o1 := fun j (hj : blk u = some j) => old j nv hj (fun i hi => (own_lt h.nm i hi).2) (fun i hi => (h.cb i hi).2.2.1)
  have o2 := fun j (hj : blk u = some j) => old j lv hj (fun i hi => (own_lt h.lk i hi).2) (fun i hi => (h.cb i hi).2.2.2)
  have r1 : (wy.setCell ⟨ka, 31, none⟩ u).ownsRow w.heap.size 9 1 nv o.names.length (o.names.flatMap scells) := q2.owns (q.owns h.nm (fun j hj e => (h.cb j e).2.2.1 (by rw [← own_blk h.nm]; exact hj))) (fun j hj => (h.nb j (by rw [← own_blk h.nm]; exact hj)).1)
  have r2 : (wy.setCell ⟨ka, 31, none⟩ u).ownsRow w.heap.size 67 2 lv o.links.length (o.links.flatMap kcells) := q2.owns (q.owns h.lk (fun j hj e => (h.cb j e).2.2.2 (by rw [← own_blk h.lk]; exact hj))) (fun j hj => (h.lb j (by rw [← own_blk h.lk]; exact hj)).1)
  have r0 : (wy.setCell ⟨ka, 31, none⟩ u).ownsRow w.heap.size 71 2 u (o.custom ++ [s]).length ((o.custom ++ [s]).flatMap ccells) := by
    rw [List.flatMap_append, List.length_append, List.length_singleton]
    exact q2.owns own (fun j hj => uk j (by rw [← eU]; exact hj))
  have mm : Has (wy.setCell ⟨ka, 31, none⟩ u) mv o.mat := (h.mat.only q (fun _ j hj e => (h.cb j e).2.1 hj)).only q2 (fun _ j hj => (h.mb j hj).2.1)
  refine ⟨hO.trans q2 (fun j hj e => by have := h.base; omega), ?_, h.base, mm, r1, r2, r0, fun j hj => ⟨(h.mb j hj).1, (h.mb j hj).2.1, by have := (h.mb j hj).2.2; omega⟩, fun j hj => ⟨(h.nb j hj).1, (h.nb j hj).2.1, (h.nb j hj).2.2.1, fun e => o1 j e hj⟩, fun j hj => ⟨(h.lb j hj).1, (h.lb j hj).2.1, (h.lb j hj).2.2.1, fun e => o2 j e hj⟩, fun j hj => ⟨uk j hj, om j hj, o1 j hj, o2 j hj⟩⟩
  rw [← set_custom o mv nv lv cv hd u (o.custom ++ [s])]
  exact hb.set 31 u
end

/-- a list with one element more, ahead of the store -/
theorem Uw.appN {w w3 : World} {ka : Nat} {o : Ob} {mv nv lv cv : Value} (U : Uw w w3 ka o mv nv lv cv) (hd : o.dates.length = 10) (hn : o.names.length ≤ 1000) (s : List UInt8) :
    ∃ x4 g uo uc x5, x4 = w3.alloc (.cells #[.string (str s)] 9) ∧ g = w3.heap.size ∧ (Builtin.append_ #[26, 26] 26 #[nv, .slice (some ⟨g, 0, none⟩) 1 1]).run Tryd.prog x4 = .ok (.slice uo (o.names.length + 1) uc) x5 ∧
      Bx x5 ka 32 (cells o mv nv lv cv) ∧ Uw w (x5.setCell ⟨ka, 29, none⟩ (.slice uo (o.names.length + 1) uc)) ka { o with names := o.names ++ [s] } mv (.slice uo (o.names.length + 1) uc) lv cv := by
  obtain ⟨i0, hi0, hz0, hz1, hz2⟩ := info_parts Tryd.infoGs
  obtain ⟨x4, g, e4, eg, hg, o4, hs4⟩ := boxed w3 #[.string (str s)] 9
  have U4 := U.same o4
  have hF : HasF x4 (.slice (some ⟨g, 0, none⟩) 1 1) 1 scells [s] := hasF_one (f := scells) (x := s) hg rfl
  have hone : ∀ z ∈ [s], ∀ u ∈ scells z, u.oneCell' = true := by
    intro y hy u hu
    unfold scells at hu
    simp only [List.mem_cons, List.not_mem_nil, or_false] at hu
    rcases hu with rfl <;> rfl
  have hsz := U4.only.size
  obtain ⟨u', x5, hrun, own5, gr5, at5⟩ := app_hasF (P := Tryd.prog) x4 w.heap.size 26 26 9 i0 _ 1 16 scells Tryd.underlying26 hi0 hz0 hz1 hz2 rfl (by decide) nv o.names.length (o.names.flatMap scells) U4.nm _ [s] (by simp) hF hone (by rw [List.length_singleton]; unfold maxLen; omega) (by rw [List.length_singleton]; omega) hsz
  have gr6 := gr5
  rw [own_blk U4.nm] at gr6
  obtain ⟨_, hbx, _⟩ := U4.pushed gr6 (fun j hj => (own_lt U4.nm j hj).1) (fun e => (U4.nb ka e).1 rfl)
  obtain ⟨uo, uc, eu⟩ := ownsRow_shape own5
  rw [List.length_singleton] at eu
  subst eu
  exact ⟨x4, g, uo, uc, x5, e4, eg, hrun, hbx, U4.pushN s own5 gr5 at5 hd⟩
/-- a list with one element more, ahead of the store -/
theorem Uw.appK {w w3 : World} {ka : Nat} {o : Ob} {mv nv lv cv : Value} (U : Uw w w3 ka o mv nv lv cv) (hd : o.dates.length = 10) (hn : o.links.length ≤ 1000) (s : Int × List UInt8) :
    ∃ x4 g uo uc x5, x4 = w3.alloc (.cells #[.int .i64 s.1, .string (str s.2)] 67) ∧ g = w3.heap.size ∧ (Builtin.append_ #[27, 27] 27 #[lv, .slice (some ⟨g, 0, none⟩) 1 1]).run Tryd.prog x4 = .ok (.slice uo (o.links.length + 1) uc) x5 ∧
      Bx x5 ka 32 (cells o mv nv lv cv) ∧ Uw w (x5.setCell ⟨ka, 30, none⟩ (.slice uo (o.links.length + 1) uc)) ka { o with links := o.links ++ [s] } mv nv (.slice uo (o.links.length + 1) uc) cv := by
  obtain ⟨i0, hi0, hz0, hz1, hz2⟩ := info_parts Tryd.infoGk
  obtain ⟨x4, g, e4, eg, hg, o4, hs4⟩ := boxed w3 #[.int .i64 s.1, .string (str s.2)] 67
  have U4 := U.same o4
  have hF : HasF x4 (.slice (some ⟨g, 0, none⟩) 1 1) 2 kcells [s] := hasF_one (f := kcells) (x := s) hg rfl
  have hone : ∀ z ∈ [s], ∀ u ∈ kcells z, u.oneCell' = true := by
    intro y hy u hu
    unfold kcells at hu
    simp only [List.mem_cons, List.not_mem_nil, or_false] at hu
    rcases hu with rfl | rfl <;> rfl
  have hsz := U4.only.size
  obtain ⟨u', x5, hrun, own5, gr5, at5⟩ := app_hasF (P := Tryd.prog) x4 w.heap.size 27 27 67 i0 _ 2 24 kcells Tryd.underlying27 hi0 hz0 hz1 hz2 rfl (by decide) lv o.links.length (o.links.flatMap kcells) U4.lk _ [s] (by simp) hF hone (by rw [List.length_singleton]; unfold maxLen; omega) (by rw [List.length_singleton]; omega) hsz
  have gr6 := gr5
  rw [own_blk U4.lk] at gr6
  obtain ⟨_, hbx, _⟩ := U4.pushed gr6 (fun j hj => (own_lt U4.lk j hj).1) (fun e => (U4.lb ka e).1 rfl)
  obtain ⟨uo, uc, eu⟩ := ownsRow_shape own5
  rw [List.length_singleton] at eu
  subst eu
  exact ⟨x4, g, uo, uc, x5, e4, eg, hrun, hbx, U4.pushK s own5 gr5 at5 hd⟩
/-- a list with one element more, ahead of the store -/
theorem Uw.appC {w w3 : World} {ka : Nat} {o : Ob} {mv nv lv cv : Value} (U : Uw w w3 ka o mv nv lv cv) (hd : o.dates.length = 10) (hn : o.custom.length ≤ 1000) (s : List UInt8 × List UInt8) :
    ∃ x4 g uo uc x5, x4 = w3.alloc (.cells #[.string (str s.1), .string (str s.2)] 71) ∧ g = w3.heap.size ∧ (Builtin.append_ #[28, 28] 28 #[cv, .slice (some ⟨g, 0, none⟩) 1 1]).run Tryd.prog x4 = .ok (.slice uo (o.custom.length + 1) uc) x5 ∧
      Bx x5 ka 32 (cells o mv nv lv cv) ∧ Uw w (x5.setCell ⟨ka, 31, none⟩ (.slice uo (o.custom.length + 1) uc)) ka { o with custom := o.custom ++ [s] } mv nv lv (.slice uo (o.custom.length + 1) uc) := by
  obtain ⟨i0, hi0, hz0, hz1, hz2⟩ := info_parts Tryd.infoGc
  obtain ⟨x4, g, e4, eg, hg, o4, hs4⟩ := boxed w3 #[.string (str s.1), .string (str s.2)] 71
  have U4 := U.same o4
  have hF : HasF x4 (.slice (some ⟨g, 0, none⟩) 1 1) 2 ccells [s] := hasF_one (f := ccells) (x := s) hg rfl
  have hone : ∀ z ∈ [s], ∀ u ∈ ccells z, u.oneCell' = true := by
    intro y hy u hu
    unfold ccells at hu
    simp only [List.mem_cons, List.not_mem_nil, or_false] at hu
    rcases hu with rfl | rfl <;> rfl
  have hsz := U4.only.size
  obtain ⟨u', x5, hrun, own5, gr5, at5⟩ := app_hasF (P := Tryd.prog) x4 w.heap.size 28 28 71 i0 _ 2 32 ccells Tryd.underlying28 hi0 hz0 hz1 hz2 rfl (by decide) cv o.custom.length (o.custom.flatMap ccells) U4.cu _ [s] (by simp) hF hone (by rw [List.length_singleton]; unfold maxLen; omega) (by rw [List.length_singleton]; omega) hsz
  have gr6 := gr5
  rw [own_blk U4.cu] at gr6
  obtain ⟨_, hbx, _⟩ := U4.pushed gr6 (fun j hj => (own_lt U4.cu j hj).1) (fun e => (U4.cb ka e).1 rfl)
  obtain ⟨uo, uc, eu⟩ := ownsRow_shape own5
  rw [List.length_singleton] at eu
  subst eu
  exact ⟨x4, g, uo, uc, x5, e4, eg, hrun, hbx, U4.pushC s own5 gr5 at5 hd⟩

theorem Uw.hasN {w wr : World} {ka : Nat} {o : Ob} {mv nv lv cv : Value} (U : Uw w wr ka o mv nv lv cv) : HasF wr nv 1 scells o.names := hasF_own U.nm (fun _ _ => rfl) rfl
theorem Uw.hasK {w wr : World} {ka : Nat} {o : Ob} {mv nv lv cv : Value} (U : Uw w wr ka o mv nv lv cv) : HasF wr lv 2 kcells o.links := hasF_own U.lk (fun _ _ => rfl) rfl
theorem Uw.hasC {w wr : World} {ka : Nat} {o : Ob} {mv nv lv cv : Value} (U : Uw w wr ka o mv nv lv cv) : HasF wr cv 2 ccells o.custom := hasF_own U.cu (fun _ _ => rfl) rfl
theorem cell_names (o : Ob) (mv nv lv cv : Value) (hd : o.dates.length = 10) : (cells o mv nv lv cv)[29]? = some nv := cells_back o mv nv lv cv hd 2
theorem cell_links (o : Ob) (mv nv lv cv : Value) (hd : o.dates.length = 10) : (cells o mv nv lv cv)[30]? = some lv := cells_back o mv nv lv cv hd 3
theorem cell_custom (o : Ob) (mv nv lv cv : Value) (hd : o.dates.length = 10) : (cells o mv nv lv cv)[31]? = some cv := cells_back o mv nv lv cv hd 4
theorem one2 (b : Bool) (n : Int) : (#[Value.bool b, .int .i64 n] : Array Value).all (·.oneCell') = true := all_oneCell_toArray (cs := [Value.bool b, .int .i64 n]) (by intro u hu; simp only [List.mem_cons, List.not_mem_nil, or_false] at hu; rcases hu with rfl | rfl <;> rfl)
theorem onek (n : Int) (s : ByteArray) : (#[Value.int .i64 n, .string s] : Array Value).all (·.oneCell') = true := all_oneCell_toArray (cs := [Value.int .i64 n, .string s]) (by intro u hu; simp only [List.mem_cons, List.not_mem_nil, or_false] at hu; rcases hu with rfl | rfl <;> rfl)
theorem onec (n s : ByteArray) : (#[Value.string n, .string s] : Array Value).all (·.oneCell') = true := all_oneCell_toArray (cs := [Value.string n, .string s]) (by intro u hu; simp only [List.mem_cons, List.not_mem_nil, or_false] at hu; rcases hu with rfl | rfl <;> rfl)
theorem one4 (b : Bool) (n m k : Int) : (#[Value.bool b, .int .i64 n, .int .i64 m, .int .i64 k] : Array Value).all (·.oneCell') = true := all_oneCell_toArray (cs := [Value.bool b, .int .i64 n, .int .i64 m, .int .i64 k]) (by intro u hu; simp only [List.mem_cons, List.not_mem_nil, or_false] at hu; rcases hu with rfl | rfl | rfl | rfl <;> rfl)
/-! ### what its numbers keep -/
structure Okay (n : Nat) (o : Ob) : Prop where
  ten : o.dates.length = 10
  ints : W64 o.typ ∧ W64 o.alg ∧ W64 o.len ∧ W64 o.mask ∧ W64 o.state ∧ W64 o.reason ∧ W64 o.lt ∧ W64 o.lc ∧ W64 o.lu
  dats : ∀ d ∈ o.dates, W64 d.2
  lks : ∀ k ∈ o.links, W64 k.1
  strs : o.id.length ≤ maxLen ∧ o.msg.length ≤ maxLen ∧ (∀ s ∈ o.names, s.length ≤ maxLen) ∧ (∀ k ∈ o.links, k.2.length ≤ maxLen) ∧ ∀ c ∈ o.custom, c.1.length ≤ maxLen ∧ c.2.length ≤ maxLen
  nn : o.names.length ≤ n
  kn : o.links.length ≤ n
  cn : o.custom.length ≤ n
  mn : o.mat.length ≤ 32
  st : 1 ≤ o.state ∧ o.state ≤ 6
theorem w64s {n : Int} (h0 : -1000000 ≤ n) (h1 : n ≤ 1000000) : W64 n := by unfold W64; omega
theorem at0_le (l : List (List UInt8)) (n : Int) (h : ∀ s ∈ l, s.length ≤ maxLen) : (at0 l [] n).length ≤ maxLen := by
  unfold at0
  rw [List.getD_eq_getElem?_getD]
  cases hx : l[n.toNat]? with
  | none => exact Nat.zero_le _
  | some s => exact h s (List.mem_of_getElem? hx)
theorem at0_num (l : List Int) (n : Int) (h : ∀ s ∈ l, -1000000 ≤ s ∧ s ≤ 1000000) : W64 (at0 l 0 n) := by
  unfold at0
  rw [List.getD_eq_getElem?_getD]
  cases hx : l[n.toNat]? with
  | none => exact w64s (by decide) (by decide)
  | some s => exact w64s (h s (List.mem_of_getElem? hx)).1 (h s (List.mem_of_getElem? hx)).2
theorem hId_le (n : Int) : (hId n).length ≤ maxLen := at0_le _ _ (by decide)
theorem at0_lens (n : Int) : (at0 hLens 0 (n % 5)).toNat ≤ 32 := by
  have h0 := Int.emod_nonneg n (show (5 : Int) ≠ 0 by decide)
  have h1 := Int.emod_lt_of_pos n (show (0 : Int) < 5 by decide)
  generalize n % 5 = j at *
  have : j = 0 ∨ j = 1 ∨ j = 2 ∨ j = 3 ∨ j = 4 := by omega
  rcases this with rfl | rfl | rfl | rfl | rfl <;> decide
theorem hStart_okay (x : RawH) : Okay 0 (hStart x) := by
  have z : W64 0 := ⟨by decide, by decide⟩
  refine ⟨rfl, ⟨at0_num _ _ (by decide), at0_num _ _ (by decide), (by show W64 128; exact ⟨by decide, by decide⟩), at0_num _ _ (by decide), w64s (by show _ ≤ 1 + _; omega) (by show 1 + _ ≤ _; omega), z, z, z, z⟩, fun d hd => ?_, (fun k hk => by cases hk), ⟨hId_le _, Nat.zero_le _, (fun s hs => by cases hs), (fun s hs => by cases hs), (fun s hs => by cases hs)⟩, Nat.le_refl _, Nat.le_refl _, Nat.le_refl _, ?_, ⟨by show 1 ≤ 1 + _; omega, by show 1 + _ ≤ _; omega⟩⟩
  · rcases List.mem_cons.1 hd with rfl | hd
    · exact w64s (by show _ ≤ _ % _; omega) (by show _ % _ ≤ _; omega)
    · have : d = (false, 0) := List.eq_of_mem_replicate hd
      rw [this]; exact z
  · show (rawBytes _ _).length ≤ 32
    rw [rawBytes_length]
    exact at0_lens _
theorem addN_len {α : Type} [DecidableEq α] (most : Nat) (l : List α) (x : α) (n : Nat) (h : l.length ≤ n) : (addN most l x).length ≤ n + 1 := by
  unfold addN
  split
  · omega
  · split
    · simp; omega
    · omega
theorem addN_mem {α : Type} [DecidableEq α] (most : Nat) (l : List α) (x y : α) (h : y ∈ addN most l x) : y ∈ l ∨ y = x := by
  unfold addN at h
  split at h
  · exact Or.inl h
  · split at h
    · simpa using h
    · exact Or.inl h
theorem hStep_okay {n : Nat} {o : Ob} (h : Okay n o) (y : RawH) : Okay (n + 1) (hStep o y) := by
  obtain ⟨ten, ints, dats, lks, ⟨s1, s2, s3, s4, s5⟩, nn, kn, cn, mn, st⟩ := h
  unfold hStep
  split
  all_goals first
    | exact ⟨by show (o.dates.set _ _).length = 10; rw [List.length_set]; exact ten, ints, fun d hd => (by
        rcases List.mem_or_eq_of_mem_set hd with hd | rfl
        · exact dats d hd
        · exact w64s (by show _ ≤ _ % _; omega) (by show _ % _ ≤ _; omega)), lks, ⟨s1, s2, s3, s4, s5⟩, Nat.le_succ_of_le nn, Nat.le_succ_of_le kn, Nat.le_succ_of_le cn, mn, st⟩
    | exact ⟨ten, ints, dats, lks, ⟨s1, s2, fun s hs => (by
        rcases addN_mem _ _ _ _ hs with hs | rfl
        · exact s3 s hs
        · exact at0_le _ _ (by decide)), s4, s5⟩, addN_len _ _ _ _ nn, Nat.le_succ_of_le kn, Nat.le_succ_of_le cn, mn, st⟩
    | exact ⟨ten, ints, dats, fun k hk => (by
        rcases addN_mem _ _ _ _ hk with hk | rfl
        · exact lks k hk
        · exact w64s (by show _ ≤ 101 + _; omega) (by show 101 + _ ≤ _; omega)), ⟨s1, s2, s3, fun k hk => (by
        rcases addN_mem _ _ _ _ hk with hk | rfl
        · exact s4 k hk
        · exact hId_le _), s5⟩, Nat.le_succ_of_le nn, addN_len _ _ _ _ kn, Nat.le_succ_of_le cn, mn, st⟩
    | exact ⟨ten, ⟨ints.1, ints.2.1, ints.2.2.1, ints.2.2.2.1, ints.2.2.2.2.1, ints.2.2.2.2.2.1, w64s (by show _ ≤ 1 + _; omega) (by show 1 + _ ≤ _; omega), (by
        have h0 := Int.emod_nonneg y.b (show (2 + y.a % 50) ≠ 0 by omega)
        have h1 := Int.emod_lt_of_pos y.b (show 0 < 2 + y.a % 50 by omega)
        have h2 := Int.emod_nonneg y.a (show (50 : Int) ≠ 0 by omega)
        have h3 := Int.emod_lt_of_pos y.a (show (0 : Int) < 50 by omega)
        show W64 (1 + y.a % 50 - y.b % (2 + y.a % 50))
        generalize y.b % (2 + y.a % 50) = q at *
        generalize y.a % 50 = r at *
        exact w64s (by omega) (by omega)), w64s (by show _ ≤ 1 + _; omega) (by show 1 + _ ≤ _; omega)⟩, dats, lks, ⟨s1, s2, s3, s4, s5⟩, Nat.le_succ_of_le nn, Nat.le_succ_of_le kn, Nat.le_succ_of_le cn, mn, st⟩
    | exact ⟨ten, ints, dats, lks, ⟨s1, s2, s3, s4, fun c hc => (by
        rcases addN_mem _ _ _ _ hc with hc | rfl
        · exact s5 c hc
        · exact ⟨at0_le _ _ (by decide), at0_le _ _ (by decide)⟩)⟩, Nat.le_succ_of_le nn, Nat.le_succ_of_le kn, addN_len _ _ _ _ cn, mn, st⟩
    | exact ⟨ten, ⟨ints.1, ints.2.1, ints.2.2.1, ints.2.2.2.1, ints.2.2.2.2.1, w64s (by show _ ≤ 1 + _; omega) (by show 1 + _ ≤ _; omega), ints.2.2.2.2.2.2⟩, dats, lks, ⟨s1, at0_le _ _ (by decide), s3, s4, s5⟩, Nat.le_succ_of_le nn, Nat.le_succ_of_le kn, Nat.le_succ_of_le cn, mn, st⟩
    | exact ⟨ten, ints, dats, lks, ⟨s1, s2, s3, s4, s5⟩, Nat.le_succ_of_le nn, Nat.le_succ_of_le kn, Nat.le_succ_of_le cn, mn, st⟩
theorem hGo_okay (x : RawH) (X : Nat → RawH) : ∀ k, Okay k (hGo (hStart x) X k)
  | 0 => hStart_okay x
  | k + 1 => hStep_okay (hGo_okay x X k) (X k)
theorem hO_okay (x : RawH) (m : Nat) (X : Nat → RawH) : Okay 10 (hO x m X) := by
  have h := hGo_okay x X (min m 10)
  have hm := Nat.min_le_right m 10
  exact ⟨h.ten, h.ints, h.dats, fun k hk => h.lks k (List.mem_of_mem_take hk), ⟨h.strs.1, h.strs.2.1, h.strs.2.2.1, fun k hk => h.strs.2.2.2.1 k (List.mem_of_mem_take hk), h.strs.2.2.2.2⟩, Nat.le_trans h.nn hm, (by show (List.take _ _).length ≤ 10; rw [List.length_take]; have := h.kn; omega), Nat.le_trans h.cn hm, h.mn, h.st⟩
theorem Uw.inn {w wr : World} {ka n : Nat} {o : Ob} {mv nv lv cv : Value} (U : Uw w wr ka o mv nv lv cv) (ok : Okay n o) : In wr o mv nv lv cv := ⟨U.mat, U.hasN, U.hasK, U.hasC, ok.ten, ok.ints, ok.dats, ok.lks, ok.strs⟩
theorem Uw.fresh {w wr : World} {ka : Nat} {o : Ob} {mv nv lv cv : Value} (U : Uw w wr ka o mv nv lv cv) : Fresh4 w.heap.size mv nv lv cv := by
  rintro j (h | h | h | h)
  · exact (U.mb j h).1
  · exact (own_lt U.nm j h).1
  · exact (own_lt U.lk j h).1
  · exact (own_lt U.cu j h).1
theorem Uw.off {w wr : World} {ka : Nat} {o : Ob} {mv nv lv cv : Value} (U : Uw w wr ka o mv nv lv cv) : ∀ j, (blk mv = some j ∨ blk nv = some j ∨ blk lv = some j ∨ blk cv = some j) → ¬ j = ka := by
  rintro j (h | h | h | h)
  · exact (U.mb j h).2.1
  · exact (U.nb j h).1
  · exact (U.lb j h).1
  · exact (U.cb j h).1
theorem In.one {w : World} {o : Ob} {mv nv lv cv : Value} (h : In w o mv nv lv cv) : (cells o mv nv lv cv).toArray.all (·.oneCell') = true := by
  obtain ⟨_, _, e1, _⟩ := h.mat.shape
  obtain ⟨_, _, e2, _⟩ := h.names.shape
  obtain ⟨_, _, e3, _⟩ := h.links.shape
  obtain ⟨_, _, e4, _⟩ := h.custom.shape
  apply all_oneCell_toArray
  exact cells_one _ _ _ _ _ (by rw [e1]; rfl) (by rw [e2]; rfl) (by rw [e3]; rfl) (by rw [e4]; rfl)
/-- an object's cells put into the result's cell -/
theorem fin37 {wS : World} {k2 : Nat} {o : Ob} {mv nv lv cv : Value} (I : In wS o mv nv lv cv) (hF : ∀ j, (blk mv = some j ∨ blk nv = some j ∨ blk lv = some j ∨ blk cv = some j) → ¬ j = k2) {cs0 : List Value} (hz : Bx wS k2 32 cs0) (hc0 : cs0.length = 37) :
    wS.there k2 0 (cells o mv nv lv cv).toArray.size ∧ Bx (wS.setCells k2 0 (cells o mv nv lv cv)) k2 32 (cells o mv nv lv cv) ∧ In (wS.setCells k2 0 (cells o mv nv lv cv)) o mv nv lv cv ∧ Only (fun j => j = k2) wS (wS.setCells k2 0 (cells o mv nv lv cv)) := by
  have hl := cells_len o mv nv lv cv I.ten
  have q : Only (fun j => j = k2) wS (wS.setCells k2 0 (cells o mv nv lv cv)) := Only.setCells (S := fun j => j = k2) (fun _ => rfl) _ _ _ (Only.refl _ _)
  exact ⟨bx_there hz _ (by rw [List.size_toArray, hl, hc0]), setCells_bx hz _ (by rw [hl, hc0]), I.off q hF, q⟩
end Ob
end Go.Proofs.YtadpmninoghcjaaDoor
