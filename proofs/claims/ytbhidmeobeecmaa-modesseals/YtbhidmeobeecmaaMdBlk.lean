/-
  slices.Chunk of bytes of any length, 16 at a time.
-/
import Derived.Test.YtbhidmeobeecmaaAeBlk1
import Derived.RangeFuncBound
namespace Go.Proofs.Ytbhidmeobeecmaa
open Go.RowKit Go.Shelf
set_option linter.unusedSimpArgs false
set_option linter.unusedVariables false
attribute [local go_sem] Oper.semAt_some
namespace Md
open Ae (upto upto_succ upto_length Kp2)

set_option maxRecDepth 100000 in
set_option maxHeartbeats 2000000 in
theorem chunk1_in (F : Fence) (n : Nat) (h7 : F.fn 72) (hro : F.round = none) (hn : 1 ≤ n) (l Bs Bn b off m cap : Nat) (ao : Option Addr) (hao : 0 < m → ao = some ⟨b, off, none⟩) (hm : m ≤ 8796093022208) (hcap : 16 * m ≤ cap) (J Jx : List Nat → World → Prop)
    (hY : ∀ pre x W, x < m → J pre W → pre.length < m → YieldAt F (n - 1) Try.prog l #[Ae.part b off x] W fun e W' =>
      (e = .returned (.bool true) ∧ J (pre ++ [x]) W' ∧ Kp2 Bs Bn W W') ∨ (e = .returned (.bool false) ∧ Jx (pre ++ [x]) W'))
    (W : World) (hBs : W.cell? ⟨Bs, 0, none⟩ = some (.slice ao (16 * m) cap)) (hBn : W.cell? ⟨Bn, 0, none⟩ = some (.int .i64 16)) (hJd : ∀ pre W, J pre W → J pre W.drew) (h0 : J [] W) :
    CallsIn F n Try.prog 72 #[.func (.yield l) #[] #[], .pointer (some ⟨Bs, 0, none⟩), .pointer (some ⟨Bn, 0, none⟩)] W fun e W' => (∃ v, e = .returned v) ∧
      ((∃ ys, ys = upto m ∧ J ys W') ∨ (∃ pre, (∃ k, k ≤ m ∧ pre = upto k) ∧ Jx pre W')) := by
  refine callsIn_of_wp Try.func72 rfl h7 ?_ hro
  simp only [Try.ntmps72, List.size_toArray, List.length_cons, List.length_nil, Nat.reduceAdd, Nat.reduceSub, Array.replicate_succ, Array.replicate_zero, List.push_toArray, List.append_toArray, List.nil_append, List.cons_append]
  gi_wp2
  gi_loopw [4, 5] (fun i _ wr => ∃ k : Nat, k ≤ m ∧ i = .int .i64 (16 * (k : Int)) ∧ J (upto k) wr ∧ Kp2 Bs Bn W wr)
    (fun i _ _ => 16 * m - (intOf i).toNat)
  case atStart => exact ⟨0, Nat.zero_le _, rfl, h0, Kp2.refl _ _ _⟩
  case round =>
    obtain ⟨k, hk, rfl, hJs, hnx⟩ := hrel
    have hc1 : wr.cell? ⟨Bs, 0, none⟩ = some (.slice ao (16 * m) cap) := hnx.one hBs
    have hc2 : wr.cell? ⟨Bn, 0, none⟩ = some (.int .i64 16) := hnx.two hBn
    by_cases hlt : k < m
    · have hao2 := hao (by omega)
      rw [hao2] at hc1 hBs
      clear hao
      obtain ⟨fn, tmps, assign, body, hy, hR⟩ := hY _ k wr.drew hlt (hJd _ _ hJs) (by rw [upto_length]; exact hlt)
      unfold Ae.part at hy
      have hkm : 16 * (k : Int) < 16 * (m : Int) := by omega
      have hck : ¬ cap = 16 * k := by omega
      have hmin : ¬ (((16 * m - 16 * k : Nat) : Int) < 16) := by omega
      have hmin2 : (16 : Int) ≤ ((16 * m - 16 * k : Nat) : Int) := by omega
      have HR := hide hR
      have HNX := hide hnx
      clear hR hnx
      gi_wp2
      gi_region
      all_goals gi_wp2
      all_goals (refine (unhide HR).mono ?_)
      all_goals (rintro e W3 (⟨rfl, hJ3, hk3⟩ | ⟨rfl, hJx3⟩))
      all_goals first
        | (have HJ3 := hide hJ3; have HK3 := hide hk3; have hc3 : W3.cell? ⟨Bn, 0, none⟩ = some (.int .i64 16) := hk3.two (show wr.drew.cell? _ = _ from hc2); clear hJ3 hk3; gi_wp2; go_roundw)
        | (have HJX := hide hJx3; clear hJx3; gi_wp2; refine bodyPost_ret (results_none rfl _ _ _) rfl ?_; exact ⟨⟨_, rfl⟩, .inr ⟨_, ⟨k + 1, by omega, (upto_succ _).symm⟩, unhide HJX⟩⟩)
      all_goals first
        | exact ⟨k + 1, by omega, by simp; omega, by rw [upto_succ]; exact unhide HJ3, (unhide HNX).trans ((Kp2.drew Bs Bn wr).trans (unhide HK3))⟩
        | (simp [intOf]; omega)
    · obtain rfl : k = m := by omega
      gi_wp2
      go_end0
      exact ⟨⟨_, rfl⟩, .inl ⟨_, rfl, hJs⟩⟩

theorem chunk_stops (F : Fence) (n : Nat) (h7 : F.fn 72) (hro : F.round = none) (hn : 1 ≤ n) (Bs Bn b off m cap : Nat) (ao : Option Addr) (hao : 0 < m → ao = some ⟨b, off, none⟩) (hm : m ≤ 8796093022208) (hcap : 16 * m ≤ cap) (w : World) (hBs : Bs < w.heap.size) (hBn : Bn < w.heap.size)
    (hc1 : w.cell? ⟨Bs, 0, none⟩ = some (.slice ao (16 * m) cap)) (hc2 : w.cell? ⟨Bn, 0, none⟩ = some (.int .i64 16)) :
    SeqStopsK F n Try.prog 72 #[.pointer (some ⟨Bs, 0, none⟩), .pointer (some ⟨Bn, 0, none⟩)] (fun x : Fin m => #[Ae.part b off x.val]) (Kp2 Bs Bn) (fun ys => ys.map (·.val) = upto m) (fun pre => ∃ k, k ≤ m ∧ pre.map (·.val) = upto k) m w := fun l J Jx W hW hJ hJx hY h0 => by
  refine (chunk1_in F n h7 hro hn l Bs Bn b off m cap ao hao hm hcap (fun ks W => ∃ ys : List (Fin m), ys.map (·.val) = ks ∧ J ys W) (fun ks W => ∃ ys : List (Fin m), ys.map (·.val) = ks ∧ Jx ys W) ?_ W ((hW.cell (p := ⟨Bs, 0, none⟩) hBs).trans hc1) ((hW.cell (p := ⟨Bn, 0, none⟩) hBn).trans hc2) ?_ ⟨[], rfl, h0⟩).mono ?_
  · rintro pre x V hx ⟨ys, hys, hV⟩ hl
    have hq : ys.length < m := by rw [← hys] at hl; simpa using hl
    refine YieldAt.mono (hY ys ⟨x, hx⟩ V hV hq) ?_
    rintro e V' (⟨he, hj, hk⟩ | ⟨he, hj⟩)
    · exact Or.inl ⟨he, ⟨_, by simp [hys], hj⟩, hk⟩
    · exact Or.inr ⟨he, ⟨_, by simp [hys], hj⟩⟩
  · rintro pre V ⟨ys, hys, hV⟩
    exact ⟨ys, hys, hJ _ V V.drew none hV ⟨rfl, rfl, rfl, Nat.le_refl _, fun _ _ _ => rfl⟩ (fun r e => by cases e)⟩
  · rintro e V' ⟨he, ⟨ys, rfl, zs, hz, hj⟩ | ⟨pre, ⟨k, hk, rfl⟩, zs, hz, hj⟩⟩
    · exact ⟨he, Or.inl ⟨zs, hz, hj⟩⟩
    · exact ⟨he, Or.inr ⟨zs, ⟨k, hk, hz⟩, hj⟩⟩

end Md
end Go.Proofs.Ytbhidmeobeecmaa
