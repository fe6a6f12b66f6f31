/-
  A cipher's Seal and Open.
-/
import Derived.Test.YtdmcnblnoiahcaaAeCip
namespace Go.Proofs.Ytdmcnblnoiahcaa
open Go.RowKit
set_option linter.unusedSimpArgs false
set_option linter.unusedVariables false
namespace Ae

/-- loads and stores of 16 cells, kept whole -/
def loadB (v : Value) : Sem Value := Instr.loadAt 36 v
def loadS (v : Value) : Sem Value := Instr.loadAt 64 v
theorem execOp_loadB (ρ : Operand → Value) (dst : Option Tmp) (x : Operand) (ty : TypeId) (pos : String) (af : Array Edge) (gd : Option (Nat × Bool)) :
    execOp ρ { dst := dst, op := .load 36 x, type := ty, pos := pos, after := af, guard := gd } = (do pure (.value (← loadB (ρ x)))) := rfl
theorem execOp_loadS (ρ : Operand → Value) (dst : Option Tmp) (x : Operand) (ty : TypeId) (pos : String) (af : Array Edge) (gd : Option (Nat × Bool)) :
    execOp ρ { dst := dst, op := .load 64 x, type := ty, pos := pos, after := af, guard := gd } = (do pure (.value (← loadS (ρ x)))) := rfl
theorem loadB_run {w : World} {b o : Nat} {s : List UInt8} (h : w.rangeAt b o (s.map bv)) (hs : s.length = 16) : (loadB (.pointer (some ⟨b, o, none⟩))).run Try.prog w = .ok (.agg (s.map bv).toArray) w :=
  run_loadAt_mid (P := Try.prog) w b o 36 (s.map bv) _ h Try.under16 rfl (by rw [Try.size16]; simp [hs])
theorem loadS_run {w : World} {b : Nat} {t : TypeId} {s : List UInt8} (h : Arr w b t s) (hs : s.length = 16) : (loadS (.pointer (some ⟨b, 0, none⟩))).run Try.prog w = .ok (.agg (s.map bv).toArray) w :=
  run_loadAt_mid (P := Try.prog) w b 0 64 (s.map bv) _ h.range Try.underSt rfl (by rw [Try.sizeState]; simp [hs])
attribute [local go_sem ↓] execOp_loadB execOp_loadS

abbrev F (f : Nat) : Value := .func (.func f) #[] #[]

theorem hasV_of_own {w : World} {base e : Nat} {v : Value} {n : Nat} {xs : List Value} (h : w.ownsRow base e 1 v n xs) : HasV w v xs := by
  have hn : n = xs.length := by have := h.1; omega
  subst hn
  rcases h.2 with ⟨rfl, h0⟩ | ⟨g, cap, cur, rfl, hb, hg, hc, hm, hcs, ht⟩
  · exact Or.inl ⟨rfl, List.eq_nil_of_length_eq_zero h0⟩
  · refine Or.inr ⟨⟨g, 0, none⟩, cap, rfl, fun _ => rfl, hc, hm, fun _ => (Array.getElem?_eq_some_iff.1 hg).1, fun j hj => ?_⟩
    have := h.cells (g := g) rfl j xs[j] (by simp [hj])
    rwa [addr_add _ rfl] at this
theorem hasV_one {w : World} {b : Nat} {v : Value} (h : w.cell? ⟨b, 0, none⟩ = some v) : HasV w (.slice (some ⟨b, 0, none⟩) 1 1) [v] :=
  Or.inr ⟨⟨b, 0, none⟩, 1, rfl, fun _ => rfl, Nat.le_refl _, by unfold maxLen; omega, fun _ => World.block_lt_of_cell? w _ h, fun j hj => by
    have : j = 0 := by simpa using hj
    subst this
    exact h⟩

/-- the three lists of rounds, laid for Concat -/
theorem lists_laid (w6 : World) (g6 n : Nat) (f1 f2 f3 : Value) (base : Nat) (h1 : f1.oneCell' = true) (h2 : f2.oneCell' = true) (h3 : f3.oneCell' = true) (own : w6.ownsRow base 68 1 (.slice (some ⟨g6, 0, none⟩) n n) n (List.replicate n f2)) :
    ∀ k, k < 3 → ∃ ao ln cap l, [[f1], List.replicate n f2, [f3]][k]? = some l ∧ ln = l.length ∧
      (((w6.alloc (.cells #[f1] 68)).alloc (.cells #[f3] 68)).alloc (.cells #[.slice (some ⟨w6.heap.size, 0, none⟩) 1 1, .slice (some ⟨g6, 0, none⟩) n n, .slice (some ⟨w6.heap.size + 1, 0, none⟩) 1 1] 65)).cell? ⟨w6.heap.size + 1 + 1, k, none⟩ = some (.slice ao ln cap) ∧
      HasV (((w6.alloc (.cells #[f1] 68)).alloc (.cells #[f3] 68)).alloc (.cells #[.slice (some ⟨w6.heap.size, 0, none⟩) 1 1, .slice (some ⟨g6, 0, none⟩) n n, .slice (some ⟨w6.heap.size + 1, 0, none⟩) 1 1] 65)) (.slice ao ln cap) l ∧ ∀ u ∈ l, u.oneCell' = true := by
  have b1 := ((Boxed.new w6 68 f1).alloc (.cells #[f3] 68)).alloc (.cells #[.slice (some ⟨w6.heap.size, 0, none⟩) 1 1, .slice (some ⟨g6, 0, none⟩) n n, .slice (some ⟨w6.heap.size + 1, 0, none⟩) 1 1] 65)
  have b3 := (Boxed.new (w6.alloc (.cells #[f1] 68)) 68 f3).alloc (.cells #[.slice (some ⟨w6.heap.size, 0, none⟩) 1 1, .slice (some ⟨g6, 0, none⟩) n n, .slice (some ⟨w6.heap.size + 1, 0, none⟩) 1 1] 65)
  have hh := heap_alloc_last ((w6.alloc (.cells #[f1] 68)).alloc (.cells #[f3] 68)) (.cells #[.slice (some ⟨w6.heap.size, 0, none⟩) 1 1, .slice (some ⟨g6, 0, none⟩) n n, .slice (some ⟨w6.heap.size + 1, 0, none⟩) 1 1] 65)
  rw [World.size_alloc] at b3
  rw [World.size_alloc, World.size_alloc] at hh
  have own3 := ((own.alloc (.cells #[f1] 68)).alloc (.cells #[f3] 68)).alloc (.cells #[.slice (some ⟨w6.heap.size, 0, none⟩) 1 1, .slice (some ⟨g6, 0, none⟩) n n, .slice (some ⟨w6.heap.size + 1, 0, none⟩) 1 1] 65)
  intro k hk
  rcases (show k = 0 ∨ k = 1 ∨ k = 2 by omega) with rfl | rfl | rfl
  · exact ⟨_, 1, 1, _, rfl, rfl, cell_of_row _ _ 0 _ _ _ hh, hasV_one b1.cell, fun u hu => by simp at hu; subst hu; exact h1⟩
  · exact ⟨_, n, n, _, rfl, by simp, cell_of_row _ _ 1 _ _ _ hh, hasV_of_own own3, fun u hu => by rw [List.eq_of_mem_replicate hu]; exact h2⟩
  · exact ⟨_, 1, 1, _, rfl, rfl, cell_of_row _ _ 2 _ _ _ hh, hasV_one b3.cell, fun u hu => by simp at hu; subst hu; exact h3⟩

def rnds (n : Nat) (f1 f2 f3 : Value) : List Value := [[f1], List.replicate n f2, [f3]].flatten
theorem rnds_length (n : Nat) (f1 f2 f3 : Value) : (rnds n f1 f2 f3).length = n + 2 := by simp [rnds]
theorem rnds_at (n : Nat) (f1 f2 f3 : Value) (k : Nat) (hk : k < n + 2) : (rnds n f1 f2 f3)[k]? = some (if k = 0 then f1 else if k = n + 1 then f3 else f2) := by
  unfold rnds
  simp only [List.flatten_cons, List.flatten_nil, List.append_nil, List.singleton_append]
  by_cases h0 : k = 0
  · subst h0; rfl
  · obtain ⟨j, rfl⟩ : ∃ j, k = j + 1 := ⟨k - 1, by omega⟩
    rw [List.getElem?_cons_succ, if_neg h0]
    by_cases h1 : j < n
    · rw [List.getElem?_append_left (by simpa using h1), List.getElem?_replicate, if_pos h1, if_neg (by omega)]
    · obtain rfl : j = n := by omega
      rw [List.getElem?_append_right (by simp), if_pos rfl]
      simp


end Ae
end Go.Proofs.Ytdmcnblnoiahcaa
