/-
  the reference's names: words, ops, Name, Tag, OpName, Ops.
-/
import Derived.Test.YtdgkjdjmgndiiaaTgSpec
import Derived.Test.YtdgkjdjmgndiiaaRow
namespace Go.Proofs.Ytdgkjdjmgndiiaa
open Go.RowKit
set_option linter.unusedSimpArgs false
set_option linter.unusedVariables false
namespace Tg

/-- a word's cells -/
def wc (p : Nat × List UInt8) : List Value := [.int .i64 p.1, .string (str p.2)]

/-- a slice value that holds these words, in a new block -/
structure Words (w w' : World) (v : Value) (l : List (Nat × List UInt8)) : Prop where
  only : Only (fun _ => False) w w'
  there : ∃ g, v = .slice (some ⟨g, 0, none⟩) l.length l.length ∧ ∀ k p, l[k]? = some p → w'.cell? ⟨g, k * 2, none⟩ = some (.int .i64 p.1) ∧ w'.cell? ⟨g, k * 2 + 1, none⟩ = some (.string (str p.2))

theorem words_of {w w' : World} {g : Nat} {l : List (Nat × List UInt8)} {t : TypeId} {fr : Nat × Nat} {c : Array Value} (ho : Only (fun _ => False) w w') (h : w'.heap[g]? = some (.cells c t fr)) (hc : c = (l.flatMap wc).toArray) : Words w w' (.slice (some ⟨g, 0, none⟩) l.length l.length) l := by
  refine ⟨ho, g, rfl, fun k p hk => ?_⟩
  subst hc
  have e0 := flat_at wc 2 l (fun _ _ => rfl) k 0 (by omega) p hk
  have e1 := flat_at wc 2 l (fun _ _ => rfl) k 1 (by omega) p hk
  constructor
  · simp only [World.cell?, h, List.getElem?_toArray]
    simpa [wc] using e0
  · simp only [World.cell?, h, List.getElem?_toArray]
    simpa [wc] using e1

set_option maxHeartbeats 8000000 in
set_option maxRecDepth 100000 in
theorem ops_any (w : World) : Calls Try.prog 22 #[] w fun e w' => ∃ v, e = .returned v ∧ Words w w' v ops := by
  go_enter Try.func22, Try.ntmps22
  go_wp2
  go_ret
  exact ⟨_, rfl, words_of (l := ops) ((Only.refl _ _).alloc _) (heap_alloc_new _ _) rfl⟩

set_option maxHeartbeats 8000000 in
set_option maxRecDepth 100000 in
theorem words_any (w : World) : Calls Try.prog 21 #[] w fun e w' => ∃ v, e = .returned v ∧ Words w w' v words := by
  go_enter Try.func21, Try.ntmps21
  go_wp2
  go_ret
  exact ⟨_, rfl, words_of (l := words) ((Only.refl _ _).alloc _) (heap_alloc_new _ _) rfl⟩

end Tg
end Go.Proofs.Ytdgkjdjmgndiiaa
