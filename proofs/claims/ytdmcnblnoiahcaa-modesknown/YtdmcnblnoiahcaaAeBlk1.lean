/-
  slices.Chunk of bytes: what it hands back.
-/
import Derived.Test.YtdmcnblnoiahcaaAeBlk
import Derived.RangeFuncBound
namespace Go.Proofs.Ytdmcnblnoiahcaa
open Go.RowKit Go.Shelf
set_option linter.unusedSimpArgs false
set_option linter.unusedVariables false
attribute [local go_sem] Oper.semAt_some
namespace Ae

set_option maxRecDepth 100000 in
set_option maxHeartbeats 1000000 in
theorem chunk_in (F : Fence) (n : Nat) (h5 : F.fn 42) (hro : F.round = none) (a : Option Addr) (len cap : Nat) (w : World) :
    CallsIn F n Try.prog 42 #[.slice a len cap, .int .i64 16] w fun e w' => e = .returned (.func (.func 62) #[] #[.pointer (some ⟨w.heap.size, 0, none⟩), .pointer (some ⟨w.heap.size + 1, 0, none⟩)]) ∧
      w' = (w.alloc (.cells #[.slice a len cap] 22)).alloc (.cells #[.int .i64 16] 3) := by
  refine callsIn_of_wp Try.func42 rfl h5 ?_ hro
  simp only [Try.ntmps42, List.size_toArray, List.length_cons, List.length_nil, Nat.reduceAdd, Nat.reduceSub, Array.replicate_succ, Array.replicate_zero, List.push_toArray, List.append_toArray, List.nil_append, List.cons_append]
  gi_wp2
  go_ret
  exact ⟨rfl, rfl⟩

theorem chunk_stops (F : Fence) (n : Nat) (h7 : F.fn 62) (hro : F.round = none) (hn : 1 ≤ n) (Bs Bn b off m cap : Nat) (hm : m ≤ 100) (hcap : 16 * m ≤ cap) (w : World) (hBs : Bs < w.heap.size) (hBn : Bn < w.heap.size)
    (hc1 : w.cell? ⟨Bs, 0, none⟩ = some (.slice (some ⟨b, off, none⟩) (16 * m) cap)) (hc2 : w.cell? ⟨Bn, 0, none⟩ = some (.int .i64 16)) :
    SeqStopsK F n Try.prog 62 #[.pointer (some ⟨Bs, 0, none⟩), .pointer (some ⟨Bn, 0, none⟩)] (fun x : Fin m => #[part b off x.val]) (Kp2 Bs Bn) (fun ys => ys.map (·.val) = upto m) (fun pre => ∃ k, k ≤ m ∧ pre.map (·.val) = upto k) m w := fun l J Jx W hW hJ hJx hY h0 => by
  refine (chunk1_in F n h7 hro hn l Bs Bn b off m cap hm hcap (fun ks W => ∃ ys : List (Fin m), ys.map (·.val) = ks ∧ J ys W) (fun ks W => ∃ ys : List (Fin m), ys.map (·.val) = ks ∧ Jx ys W) ?_ W ((hW.cell (p := ⟨Bs, 0, none⟩) hBs).trans hc1) ((hW.cell (p := ⟨Bn, 0, none⟩) hBn).trans hc2) ?_ ⟨[], rfl, h0⟩).mono ?_
  · rintro pre x V hx ⟨ys, hys, hV⟩ hl
    have hq : ys.length < m := by rw [← hys] at hl; simpa using hl
    refine YieldAt.mono (hY ys ⟨x, hx⟩ V hV hq) ?_
    rintro e V' (⟨he, hj, hk⟩ | ⟨he, hj⟩)
    · exact Or.inl ⟨he, ⟨_, by simp [hys], hj⟩, hk⟩
    · exact Or.inr ⟨he, ⟨_, by simp [hys], hj⟩⟩
  · rintro pre V ⟨ys, hys, hV⟩
    exact ⟨ys, hys, hJ _ V V.drew none hV ⟨rfl, rfl, rfl, Nat.le_refl _, fun _ _ _ => rfl⟩ (fun r e => by cases e)⟩
  · rintro e V' ⟨he, ⟨ys, rfl, zs, hz, hj⟩ | ⟨pre, ⟨k, hk, rfl⟩, zs, hz, hj⟩⟩
    · exact ⟨he, Or.inl ⟨zs, hz, hj⟩⟩
    · exact ⟨he, Or.inr ⟨zs, ⟨k, hk, hz⟩, hj⟩⟩

end Ae
end Go.Proofs.Ytdmcnblnoiahcaa
