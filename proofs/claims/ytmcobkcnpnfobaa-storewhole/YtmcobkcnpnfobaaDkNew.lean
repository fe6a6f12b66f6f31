/-
  Contracts of disk's New and Copy.
-/
import Derived.Test.YtmcobkcnpnfobaaDkPend
namespace Go.Proofs.Ytmcobkcnpnfobaa
open Go.RowKit
set_option linter.unusedSimpArgs false
set_option linter.unusedVariables false

theorem flat_same {α : Type} (f : α → List Value) (x : α) (m : Nat) (hm : (f x).length = m) (h0 : 0 < m) (n : Nat) (C : Array Value) (hC : C.toList = f x) : (madeCells C (n * m)).toList = (List.replicate n x).flatMap f := by
  have hl := flat_length f m (List.replicate n x) (fun y hy => by rw [List.eq_of_mem_replicate hy]; exact hm)
  rw [List.length_replicate] at hl
  have hCs : C.size = m := by rw [← Array.length_toList, hC]; exact hm
  apply List.ext_getElem?
  intro i
  by_cases hi : i < n * m
  · have h1 : i = i / m * m + i % m := by rw [Nat.mul_comm]; exact (Nat.div_add_mod i m).symm
    have h2 : i % m < m := Nat.mod_lt _ h0
    have h3 : i / m < n := by rw [Nat.div_lt_iff_lt_mul h0]; exact hi
    have h4 := flat_at f m (List.replicate n x) (fun y hy => by rw [List.eq_of_mem_replicate hy]; exact hm) (i / m) (i % m) h2 x (by simp [h3])
    rw [← h1] at h4
    rw [h4, ← hC]
    have h5 : i % m < C.size := by omega
    simp [madeCells, hi, hCs]
    rw [getElem!_pos C (i % m) h5, Array.getElem?_eq_getElem h5]
  · rw [List.getElem?_eq_none (by simp [madeCells]; omega), List.getElem?_eq_none (by omega)]

/-- append([]T(nil), v...) of a row that is owned: a row of its own -/
theorem run_append_copy {P : Program} (w : World) (base : Nat) (t ty e : TypeId) (i : TypeInfo) (z : Value) (size bytes : Nat) (ht : P.underlying t = some (.slice e)) (hi : P.info? e = some i) (hz : i.zero = some z)
    (hsize : i.size = size) (hby : i.bytes = bytes) (hzs : z.cells.size = size) (hsz : 0 < size) (v : Value) (n : Nat) (xs : List Value) (hown : w.ownsRow base e size v n xs) (h1 : ∀ u ∈ xs, u.oneCell' = true) (h63 : n ≤ maxLen) (hbytes : n * bytes ≤ 140737488355328) :
    ∃ v' w', (Builtin.append_ #[t, t] ty #[.slice none 0 0, v]).run P w = .ok v' w' ∧ w'.ownsRow w.heap.size e size v' n xs ∧ w.grownBy w' none := by
  have hnil := World.ownsRow_nil w w.heap.size e size
  rcases hown.2 with ⟨rfl, rfl⟩ | ⟨g, cap, cur, rfl, _⟩
  · have hx : xs = [] := List.eq_nil_of_length_eq_zero (by have := hown.1; omega)
    subst hx
    exact ⟨_, w, run_append_owned_none (P := P) w w.heap.size t ty e i size ht hi _ 0 [] hnil, hnil, ⟨rfl, rfl, rfl, Nat.le_refl _, fun _ _ _ => rfl⟩⟩
  · obtain ⟨v', w', hr, h2, h3, _, _⟩ := run_append_own_at (P := P) w w.heap.size t ty e i z size bytes ht hi hz hsize hby hzs hsz (.slice none 0 0) 0 [] hnil ⟨g, 0, none⟩ n cap xs hown.1 (fun j u hu => hown.cells rfl j u hu) h1 (by omega) (by rw [Nat.zero_add]; exact hbytes) (Nat.le_refl _)
    refine ⟨v', w', hr, ?_, h3⟩
    rw [Nat.zero_add, List.nil_append] at h2
    exact h2

theorem wpList_append_copy {P : Program} {w : World} {ops : Array Oper} {rest : List Oper} {o : Oper} {a : Act} {Q : Exit → Act → World → Prop} (hgd : o.guard = none) (x : Operand) (t : TypeId)
    (ho : o.op = .call { callee := .builtin .append, args := #[.const (.slice none 0 0), x], argTypes := #[t, t] })
    (base : Nat) (e : TypeId) (i : TypeInfo) (z : Value) (size bytes : Nat) (ht : P.underlying t = some (.slice e)) (hi : P.info? e = some i) (hz : i.zero = some z)
    (hsize : i.size = size) (hby : i.bytes = bytes) (hzs : z.cells.size = size) (hsz : 0 < size) (v : Value) (n : Nat) (xs : List Value) (hx : a.eval x = v) (hown : w.ownsRow base e size v n xs) (h1 : ∀ u ∈ xs, u.oneCell' = true) (h63 : n ≤ maxLen) (hbytes : n * bytes ≤ 140737488355328)
    (h : ∀ v' w', w'.ownsRow w.heap.size e size v' n xs → w.grownBy w' none → wpList P ops Q rest (a.put o.dst v') w') : wpList P ops Q (o :: rest) a w :=
  wpList_plain hgd fun K hK => by
    obtain ⟨v', w', hr, h2, h3⟩ := run_append_copy (P := P) w base t o.type e i z size bytes ht hi hz hsize hby hzs hsz v n xs hown h1 h63 hbytes
    have hc : a.eval (.const (.slice none 0 0)) = .slice none 0 0 := rfl
    unfold Oper.wp execOp
    simp only [ho, resolve, invoke, builtin, Sem.run_bind, Sem.run_pure, Result.andThen_ok, List.map_toArray, List.map_cons, List.map_nil, hx, hc, hr]
    exact hK _ _ (h v' w' h2 h3)

theorem mem_flat {α : Type} {f : α → List Value} {xs : List α} (h : ∀ x, ∀ v ∈ f x, v.oneCell' = true) : ∀ v ∈ xs.flatMap f, v.oneCell' = true := by
  intro v hv
  obtain ⟨x, _, hx⟩ := List.mem_flatMap.1 hv
  exact h x v hx

section
variable {w : World} {b g cap : Nat} {pv : Value} {d : Dk}

theorem dkNew_bad (n : Int) (h : n < 8 ∨ 4096 < n) : Calls Try.prog 9 #[.int .i64 n] w fun e w' => e = .returned (.tuple #[.pointer none, .int .i64 1]) ∧ w' = w := by
  rcases h with h | h
  · go_enter Try.func9, Try.ntmps9
    go_wp2
    go_ret2
    exact ⟨rfl, rfl⟩
  · have h8 : ¬ n < 8 := by omega
    go_enter Try.func9, Try.ntmps9
    go_wp2
    go_ret2
    exact ⟨rfl, rfl⟩

set_option maxRecDepth 100000 in
theorem dkNew_any (n : Nat) (h1 : 8 ≤ n) (h2 : n ≤ 4096) : Calls Try.prog 9 #[.int .i64 n] w fun e w' => ∃ B G, e = .returned (.tuple #[.pointer (some ⟨B, 0, none⟩), .int .i64 0]) ∧ Lie w' B G n (.slice none 0 0) (Dk.new n) ∧ w.heap.size ≤ B ∧ w.heap.size ≤ G ∧ Only (fun _ => False) w w' := by
  obtain ⟨i0, hi, hz0, hz1, hz2⟩ := info_parts Try.infoSec
  have h1' : ¬ (n : Int) < 8 := by omega
  have h2' : ¬ (4096 : Int) < (n : Int) := by omega
  go_enter Try.func9, Try.ntmps9
  go_wp2_with (at_make; refine wpList_make_full _ rfl (.tmp 10) (.tmp 10) 70 rfl w.heap.size 101 i0 (.agg (sec (some zero64)).toArray) 65 Try.underlying70 hi hz0 hz1 .i64 .i64 n n n rfl rfl rfl rfl (by rw [hz2]; omega) (by unfold maxLen; omega) (Nat.le_refl _) ?_; intro w1 own1 gr1; have ho1 : Only (fun _ => False) w w1 := (Only.refl _ _).grown gr1 (fun k h => by cases h))
  go_ret2
  have hlt := (own1.lt w.heap.size rfl).2
  have hln : (Dk.new n).secs.length = n := by simp [Dk.new]
  refine ⟨w1.heap.size, rfl, w.heap.size, ⟨?_, ?_, World.ownsRow_nil _ _ _ _, by omega, by simp [Value.ownBlock], by simp [Value.ownBlock]⟩, ho1.size, Nat.le_refl _, ho1.alloc _⟩
  · rw [heap_alloc_new, hln]
    rfl
  · rw [hln]
    rw [flat_same sec (some zero64) 65 rfl (by decide) n (Value.agg (sec (some zero64)).toArray).cells rfl] at own1
    exact (ownsRow_base own1 (Nat.zero_le _)).alloc _

end

end Go.Proofs.Ytmcobkcnpnfobaa
