/-
  A key spread into the rounds' keys: plain; bytes cloned.
-/
import Derived.Test.YtdmcnblnoiahcaaAeSt
import Derived.Test.YtdmcnblnoiahcaaAeF
import Derived.Deep.AppendLies
namespace Go.Proofs.Ytdmcnblnoiahcaa
open Go.RowKit
set_option linter.unusedSimpArgs false
set_option linter.unusedVariables false
namespace Ae

def word (L : Nat) (ws : List UInt8) (mk : UInt8) : List UInt8 :=
  if ws.length % L = 0 then [box (gt ws (ws.length - 4 + 1)) ^^^ mk, box (gt ws (ws.length - 4 + 2)), box (gt ws (ws.length - 4 + 3)), box (gt ws (ws.length - 4))]
  else if L = 32 ∧ ws.length % L = 16 then [box (gt ws (ws.length - 4)), box (gt ws (ws.length - 4 + 1)), box (gt ws (ws.length - 4 + 2)), box (gt ws (ws.length - 4 + 3))]
  else [gt ws (ws.length - 4), gt ws (ws.length - 4 + 1), gt ws (ws.length - 4 + 2), gt ws (ws.length - 4 + 3)]
/-- the next j bytes -/
def next (L : Nat) (ws W : List UInt8) (j : Nat) : List UInt8 := (List.range j).map fun i => gt ws (ws.length - L + i) ^^^ gt W i
def stepK (L : Nat) (s : List UInt8 × UInt8) : List UInt8 × UInt8 := (s.1 ++ next L s.1 (word L s.1 s.2) 4, if s.1.length % L = 0 then mul s.2 2 else s.2)
def expd (L : Nat) (key : List UInt8) : Nat → List UInt8 × UInt8
  | 0 => (key, 1)
  | k + 1 => stepK L (expd L key k)

theorem next_length (L : Nat) (ws W : List UInt8) (j : Nat) : (next L ws W j).length = j := by simp [next]
theorem next_succ (L : Nat) (ws W : List UInt8) (j : Nat) : next L ws W (j + 1) = next L ws W j ++ [gt ws (ws.length - L + j) ^^^ gt W j] := by simp [next, List.range_succ]
theorem expd_length (L : Nat) (key : List UInt8) (h : key.length = L) (k : Nat) : (expd L key k).1.length = L + 4 * k := by
  induction k with
  | zero => exact h
  | succ k ih =>
    show ((expd L key k).1 ++ next L _ _ 4).length = _
    rw [List.length_append, ih, next_length]
    omega
theorem word_length (L : Nat) (ws : List UInt8) (mk : UInt8) : (word L ws mk).length = 4 := by
  unfold word
  split
  · rfl
  · split <;> rfl

set_option maxRecDepth 100000 in
set_option maxHeartbeats 1000000 in
/-- bytes cloned: the same bytes in a new block -/
theorem cloneB_any (a : Addr) (cap : Nat) (us : List UInt8) (w : World) (hx : Has w (.slice (some a) us.length cap) us) (hl : us.length ≤ 1000000) :
    Calls Try.prog 52 #[.slice (some a) us.length cap] w fun e w' => ∃ u, e = .returned u ∧ Owns w.heap.size w' u us ∧ Only (fun _ => False) w w' := by
  obtain ⟨i0, hi, hz0, hz1, hz2⟩ := info_parts Try.info5
  have hown : (w.alloc (.cells #[] 5)).ownsRow w.heap.size 5 1 (.slice (some ⟨w.heap.size, 0, none⟩) 0 0) 0 [] := World.ownsRow_lit w #[] 0 (Nat.le_refl _) (Nat.zero_le _) rfl
  have HX := hide (hx.only ((Only.refl (fun _ => False) w).alloc (.cells #[] 5)) (fun _ _ _ h => h))
  clear hx
  have hnil : ∀ W, (binOp .eql 22 (.slice (some a) us.length cap) (.slice none 0 0)).run Try.prog W = .ok (.bool false) W := fun W => by kernel_rfl
  go_enter Try.func52, Try.ntmps52
  go_wp2_with (at_builtin; refine wpList_append_has rfl (.tmp 5) (.tmp 6) 22 rfl w.heap.size 5 i0 Try.underlying22 hi hz0 hz1 hz2 _ 0 [] rfl hown _ us rfl (unhide HX) (by omega) (by simp) ?_; intro ao2 cap2 w2 own2 gr2 at2)
  go_ret
  refine ⟨_, rfl, ?_, ((Only.refl _ _).alloc _).grown gr2 (fun k hk hl => by have hk2 : some w.heap.size = some k := hk; simp at hk2; omega)⟩
  unfold Owns
  simpa using own2

end Ae
end Go.Proofs.Ytdmcnblnoiahcaa
