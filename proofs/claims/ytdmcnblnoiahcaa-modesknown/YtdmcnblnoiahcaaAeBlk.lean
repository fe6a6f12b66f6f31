/-
  slices.Chunk of bytes, 16 at a time: the iterator.
-/
import Derived.Test.YtdmcnblnoiahcaaAeSt
import Derived.RangeFuncBox
import Derived.RangeFuncNested
import Derived.RangeFuncLeaves
import Derived.Shelf.Abstract
import Derived.WalkKit
import Derived.OwnWalkIn
import Derived.TacticsInMore
import Derived.RegionIn
import Derived.LoopNIn
import Derived.LoopIn
import Derived.Maps.AppendAt
namespace Go.Proofs.Ytdmcnblnoiahcaa
open Go.RowKit Go.Shelf
set_option linter.unusedSimpArgs false
set_option linter.unusedVariables false
attribute [local go_sem] Oper.semAt_some
namespace Ae

def upto (k : Nat) : List Nat := List.range k
theorem upto_succ (k : Nat) : upto (k + 1) = upto k ++ [k] := List.range_succ
theorem upto_length (k : Nat) : (upto k).length = k := List.length_range

/-- two blocks are as they were -/
def Kp2 (x y : Nat) (A B : World) : Prop := B.heap[x]? = A.heap[x]? ∧ B.heap[y]? = A.heap[y]?
theorem Kp2.refl (x y : Nat) (A : World) : Kp2 x y A A := ⟨rfl, rfl⟩
theorem Kp2.drew (x y : Nat) (A : World) : Kp2 x y A A.drew := ⟨rfl, rfl⟩
theorem Kp2.trans {x y : Nat} {A B C : World} (h : Kp2 x y A B) (k : Kp2 x y B C) : Kp2 x y A C := ⟨k.1.trans h.1, k.2.trans h.2⟩
theorem Kp2.one {x y : Nat} {A B : World} (h : Kp2 x y A B) {v : Value} (hc : A.cell? ⟨x, 0, none⟩ = some v) : B.cell? ⟨x, 0, none⟩ = some v := (World.cell?_of_block h.1).trans hc
theorem Kp2.two {x y : Nat} {A B : World} (h : Kp2 x y A B) {v : Value} (hc : A.cell? ⟨y, 0, none⟩ = some v) : B.cell? ⟨y, 0, none⟩ = some v := (World.cell?_of_block h.2).trans hc
theorem Kp2.below {x y n : Nat} {A B : World} (h : Below n A B) (hx : x < n) (hy : y < n) : Kp2 x y A B := ⟨h.block x hx, h.block y hy⟩

def part (b off k : Nat) : Value := .slice (some ⟨b, off + 16 * k, none⟩) 16 16

set_option maxRecDepth 100000 in
set_option maxHeartbeats 2000000 in
theorem chunk1_in (F : Fence) (n : Nat) (h7 : F.fn 62) (hro : F.round = none) (hn : 1 ≤ n) (l Bs Bn b off m cap : Nat) (hm : m ≤ 100) (hcap : 16 * m ≤ cap) (J Jx : List Nat → World → Prop)
    (hY : ∀ pre x W, x < m → J pre W → pre.length < m → YieldAt F (n - 1) Try.prog l #[part b off x] W fun e W' =>
      (e = .returned (.bool true) ∧ J (pre ++ [x]) W' ∧ Kp2 Bs Bn W W') ∨ (e = .returned (.bool false) ∧ Jx (pre ++ [x]) W'))
    (W : World) (hBs : W.cell? ⟨Bs, 0, none⟩ = some (.slice (some ⟨b, off, none⟩) (16 * m) cap)) (hBn : W.cell? ⟨Bn, 0, none⟩ = some (.int .i64 16)) (hJd : ∀ pre W, J pre W → J pre W.drew) (h0 : J [] W) :
    CallsIn F n Try.prog 62 #[.func (.yield l) #[] #[], .pointer (some ⟨Bs, 0, none⟩), .pointer (some ⟨Bn, 0, none⟩)] W fun e W' => (∃ v, e = .returned v) ∧
      ((∃ ys, ys = upto m ∧ J ys W') ∨ (∃ pre, (∃ k, k ≤ m ∧ pre = upto k) ∧ Jx pre W')) := by
  refine callsIn_of_wp Try.func62 rfl h7 ?_ hro
  simp only [Try.ntmps62, List.size_toArray, List.length_cons, List.length_nil, Nat.reduceAdd, Nat.reduceSub, Array.replicate_succ, Array.replicate_zero, List.push_toArray, List.append_toArray, List.nil_append, List.cons_append]
  gi_wp2
  gi_loopw [4, 5] (fun i _ wr => ∃ k : Nat, k ≤ m ∧ i = .int .i64 (16 * (k : Int)) ∧ J (upto k) wr ∧ Kp2 Bs Bn W wr)
    (fun i _ _ => 16 * m - (intOf i).toNat)
  case atStart => exact ⟨0, Nat.zero_le _, rfl, h0, Kp2.refl _ _ _⟩
  case round =>
    obtain ⟨k, hk, rfl, hJs, hnx⟩ := hrel
    have hc1 : wr.cell? ⟨Bs, 0, none⟩ = some (.slice (some ⟨b, off, none⟩) (16 * m) cap) := hnx.one hBs
    have hc2 : wr.cell? ⟨Bn, 0, none⟩ = some (.int .i64 16) := hnx.two hBn
    by_cases hlt : k < m
    · obtain ⟨fn, tmps, assign, body, hy, hR⟩ := hY _ k wr.drew hlt (hJd _ _ hJs) (by rw [upto_length]; exact hlt)
      unfold part at hy
      have hkm : 16 * (k : Int) < 16 * (m : Int) := by omega
      have hck : ¬ cap = 16 * k := by omega
      have hmin : ¬ (((16 * m - 16 * k : Nat) : Int) < 16) := by omega
      have hmin2 : (16 : Int) ≤ ((16 * m - 16 * k : Nat) : Int) := by omega
      have HR := hide hR
      have HNX := hide hnx
      clear hR hnx
      gi_wp2
      gi_region
      all_goals gi_wp2
      all_goals (refine (unhide HR).mono ?_)
      all_goals (rintro e W3 (⟨rfl, hJ3, hk3⟩ | ⟨rfl, hJx3⟩))
      all_goals first
        | (have HJ3 := hide hJ3; have HK3 := hide hk3; have hc3 : W3.cell? ⟨Bn, 0, none⟩ = some (.int .i64 16) := hk3.two (show wr.drew.cell? _ = _ from hc2); clear hJ3 hk3; gi_wp2; go_roundw)
        | (have HJX := hide hJx3; clear hJx3; gi_wp2; refine bodyPost_ret (results_none rfl _ _ _) rfl ?_; exact ⟨⟨_, rfl⟩, .inr ⟨_, ⟨k + 1, by omega, (upto_succ _).symm⟩, unhide HJX⟩⟩)
      all_goals first
        | exact ⟨k + 1, by omega, by simp; omega, by rw [upto_succ]; exact unhide HJ3, (unhide HNX).trans ((Kp2.drew Bs Bn wr).trans (unhide HK3))⟩
        | (simp [intOf]; omega)
    · obtain rfl : k = m := by omega
      gi_wp2
      go_end0
      exact ⟨⟨_, rfl⟩, .inl ⟨_, rfl, hJs⟩⟩

end Ae
end Go.Proofs.Ytdmcnblnoiahcaa
