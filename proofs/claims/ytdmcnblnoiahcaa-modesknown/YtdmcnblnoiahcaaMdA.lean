/-
  bits.Mul of 1 and of 1 to 16.
  bytes.Repeat of one byte.
  slices.Grow, slices.Concat of bytes; bytes.Equal, HasSuffix, Clone.
  modes' padding, Pad, fillsBlocks, Unpad.
  modes.Unpad.
  The reference's Pad and Unpad.
  Pad and Unpad, there and back; locksmithlaw9.known.
-/
import Derived.Test.YtdmcnblnoiahcaaAeRep
import Derived.Lib.MakeNoZero
import Derived.Test.YtdmcnblnoiahcaaStr
import Derived.Test.YtdmcnblnoiahcaaTtZero
import Derived.Test.YtdmcnblnoiahcaaAeSt
namespace Go.Proofs.Ytdmcnblnoiahcaa
open Go.RowKit
set_option linter.unusedSimpArgs false
set_option linter.unusedVariables false
namespace Md

set_option maxRecDepth 100000 in
theorem mul64_1 (w : World) : Calls Try.prog 72 #[.int .u64 1, .int .u64 1] w fun e w' => e = .returned (.tuple #[.int .u64 0, .int .u64 1]) ∧ w' = w := by
  have h1 : bits .and .u64 1 4294967295 = 1 := by kernel_rfl
  have h2 : bits .and .u64 1 4294967295 = 1 := by kernel_rfl
  have h3 : bits .and .u64 0 4294967295 = 0 := by kernel_rfl
  go_enter Try.func72, Try.ntmps72
  go_wp2
  go_ret2
  exact ⟨rfl, rfl⟩
set_option maxRecDepth 100000 in
theorem mul_1 : Ae.MulAs 1 := by
  intro w
  go_enter Try.func56, Try.ntmps56
  go_wp2_with (go_at_call 72; refine (mul64_1 _).mono ?_; rintro e w1 ⟨rfl, rfl⟩)
  go_ret2
  exact ⟨rfl, rfl⟩

set_option maxRecDepth 100000 in
theorem mul64_2 (w : World) : Calls Try.prog 72 #[.int .u64 1, .int .u64 2] w fun e w' => e = .returned (.tuple #[.int .u64 0, .int .u64 2]) ∧ w' = w := by
  have h1 : bits .and .u64 1 4294967295 = 1 := by kernel_rfl
  have h2 : bits .and .u64 2 4294967295 = 2 := by kernel_rfl
  have h3 : bits .and .u64 0 4294967295 = 0 := by kernel_rfl
  go_enter Try.func72, Try.ntmps72
  go_wp2
  go_ret2
  exact ⟨rfl, rfl⟩
set_option maxRecDepth 100000 in
theorem mul_2 : Ae.MulAs 2 := by
  intro w
  go_enter Try.func56, Try.ntmps56
  go_wp2_with (go_at_call 72; refine (mul64_2 _).mono ?_; rintro e w1 ⟨rfl, rfl⟩)
  go_ret2
  exact ⟨rfl, rfl⟩

set_option maxRecDepth 100000 in
theorem mul64_3 (w : World) : Calls Try.prog 72 #[.int .u64 1, .int .u64 3] w fun e w' => e = .returned (.tuple #[.int .u64 0, .int .u64 3]) ∧ w' = w := by
  have h1 : bits .and .u64 1 4294967295 = 1 := by kernel_rfl
  have h2 : bits .and .u64 3 4294967295 = 3 := by kernel_rfl
  have h3 : bits .and .u64 0 4294967295 = 0 := by kernel_rfl
  go_enter Try.func72, Try.ntmps72
  go_wp2
  go_ret2
  exact ⟨rfl, rfl⟩
set_option maxRecDepth 100000 in
theorem mul_3 : Ae.MulAs 3 := by
  intro w
  go_enter Try.func56, Try.ntmps56
  go_wp2_with (go_at_call 72; refine (mul64_3 _).mono ?_; rintro e w1 ⟨rfl, rfl⟩)
  go_ret2
  exact ⟨rfl, rfl⟩

set_option maxRecDepth 100000 in
theorem mul64_4 (w : World) : Calls Try.prog 72 #[.int .u64 1, .int .u64 4] w fun e w' => e = .returned (.tuple #[.int .u64 0, .int .u64 4]) ∧ w' = w := by
  have h1 : bits .and .u64 1 4294967295 = 1 := by kernel_rfl
  have h2 : bits .and .u64 4 4294967295 = 4 := by kernel_rfl
  have h3 : bits .and .u64 0 4294967295 = 0 := by kernel_rfl
  go_enter Try.func72, Try.ntmps72
  go_wp2
  go_ret2
  exact ⟨rfl, rfl⟩
set_option maxRecDepth 100000 in
theorem mul_4 : Ae.MulAs 4 := by
  intro w
  go_enter Try.func56, Try.ntmps56
  go_wp2_with (go_at_call 72; refine (mul64_4 _).mono ?_; rintro e w1 ⟨rfl, rfl⟩)
  go_ret2
  exact ⟨rfl, rfl⟩

set_option maxRecDepth 100000 in
theorem mul64_5 (w : World) : Calls Try.prog 72 #[.int .u64 1, .int .u64 5] w fun e w' => e = .returned (.tuple #[.int .u64 0, .int .u64 5]) ∧ w' = w := by
  have h1 : bits .and .u64 1 4294967295 = 1 := by kernel_rfl
  have h2 : bits .and .u64 5 4294967295 = 5 := by kernel_rfl
  have h3 : bits .and .u64 0 4294967295 = 0 := by kernel_rfl
  go_enter Try.func72, Try.ntmps72
  go_wp2
  go_ret2
  exact ⟨rfl, rfl⟩
set_option maxRecDepth 100000 in
theorem mul_5 : Ae.MulAs 5 := by
  intro w
  go_enter Try.func56, Try.ntmps56
  go_wp2_with (go_at_call 72; refine (mul64_5 _).mono ?_; rintro e w1 ⟨rfl, rfl⟩)
  go_ret2
  exact ⟨rfl, rfl⟩

set_option maxRecDepth 100000 in
theorem mul64_6 (w : World) : Calls Try.prog 72 #[.int .u64 1, .int .u64 6] w fun e w' => e = .returned (.tuple #[.int .u64 0, .int .u64 6]) ∧ w' = w := by
  have h1 : bits .and .u64 1 4294967295 = 1 := by kernel_rfl
  have h2 : bits .and .u64 6 4294967295 = 6 := by kernel_rfl
  have h3 : bits .and .u64 0 4294967295 = 0 := by kernel_rfl
  go_enter Try.func72, Try.ntmps72
  go_wp2
  go_ret2
  exact ⟨rfl, rfl⟩
set_option maxRecDepth 100000 in
theorem mul_6 : Ae.MulAs 6 := by
  intro w
  go_enter Try.func56, Try.ntmps56
  go_wp2_with (go_at_call 72; refine (mul64_6 _).mono ?_; rintro e w1 ⟨rfl, rfl⟩)
  go_ret2
  exact ⟨rfl, rfl⟩

set_option maxRecDepth 100000 in
theorem mul64_7 (w : World) : Calls Try.prog 72 #[.int .u64 1, .int .u64 7] w fun e w' => e = .returned (.tuple #[.int .u64 0, .int .u64 7]) ∧ w' = w := by
  have h1 : bits .and .u64 1 4294967295 = 1 := by kernel_rfl
  have h2 : bits .and .u64 7 4294967295 = 7 := by kernel_rfl
  have h3 : bits .and .u64 0 4294967295 = 0 := by kernel_rfl
  go_enter Try.func72, Try.ntmps72
  go_wp2
  go_ret2
  exact ⟨rfl, rfl⟩
set_option maxRecDepth 100000 in
theorem mul_7 : Ae.MulAs 7 := by
  intro w
  go_enter Try.func56, Try.ntmps56
  go_wp2_with (go_at_call 72; refine (mul64_7 _).mono ?_; rintro e w1 ⟨rfl, rfl⟩)
  go_ret2
  exact ⟨rfl, rfl⟩

set_option maxRecDepth 100000 in
theorem mul64_8 (w : World) : Calls Try.prog 72 #[.int .u64 1, .int .u64 8] w fun e w' => e = .returned (.tuple #[.int .u64 0, .int .u64 8]) ∧ w' = w := by
  have h1 : bits .and .u64 1 4294967295 = 1 := by kernel_rfl
  have h2 : bits .and .u64 8 4294967295 = 8 := by kernel_rfl
  have h3 : bits .and .u64 0 4294967295 = 0 := by kernel_rfl
  go_enter Try.func72, Try.ntmps72
  go_wp2
  go_ret2
  exact ⟨rfl, rfl⟩
set_option maxRecDepth 100000 in
theorem mul_8 : Ae.MulAs 8 := by
  intro w
  go_enter Try.func56, Try.ntmps56
  go_wp2_with (go_at_call 72; refine (mul64_8 _).mono ?_; rintro e w1 ⟨rfl, rfl⟩)
  go_ret2
  exact ⟨rfl, rfl⟩

set_option maxRecDepth 100000 in
theorem mul64_10 (w : World) : Calls Try.prog 72 #[.int .u64 1, .int .u64 10] w fun e w' => e = .returned (.tuple #[.int .u64 0, .int .u64 10]) ∧ w' = w := by
  have h1 : bits .and .u64 1 4294967295 = 1 := by kernel_rfl
  have h2 : bits .and .u64 10 4294967295 = 10 := by kernel_rfl
  have h3 : bits .and .u64 0 4294967295 = 0 := by kernel_rfl
  go_enter Try.func72, Try.ntmps72
  go_wp2
  go_ret2
  exact ⟨rfl, rfl⟩
set_option maxRecDepth 100000 in
theorem mul_10 : Ae.MulAs 10 := by
  intro w
  go_enter Try.func56, Try.ntmps56
  go_wp2_with (go_at_call 72; refine (mul64_10 _).mono ?_; rintro e w1 ⟨rfl, rfl⟩)
  go_ret2
  exact ⟨rfl, rfl⟩

set_option maxRecDepth 100000 in
theorem mul64_12 (w : World) : Calls Try.prog 72 #[.int .u64 1, .int .u64 12] w fun e w' => e = .returned (.tuple #[.int .u64 0, .int .u64 12]) ∧ w' = w := by
  have h1 : bits .and .u64 1 4294967295 = 1 := by kernel_rfl
  have h2 : bits .and .u64 12 4294967295 = 12 := by kernel_rfl
  have h3 : bits .and .u64 0 4294967295 = 0 := by kernel_rfl
  go_enter Try.func72, Try.ntmps72
  go_wp2
  go_ret2
  exact ⟨rfl, rfl⟩
set_option maxRecDepth 100000 in
theorem mul_12 : Ae.MulAs 12 := by
  intro w
  go_enter Try.func56, Try.ntmps56
  go_wp2_with (go_at_call 72; refine (mul64_12 _).mono ?_; rintro e w1 ⟨rfl, rfl⟩)
  go_ret2
  exact ⟨rfl, rfl⟩

set_option maxRecDepth 100000 in
theorem mul64_14 (w : World) : Calls Try.prog 72 #[.int .u64 1, .int .u64 14] w fun e w' => e = .returned (.tuple #[.int .u64 0, .int .u64 14]) ∧ w' = w := by
  have h1 : bits .and .u64 1 4294967295 = 1 := by kernel_rfl
  have h2 : bits .and .u64 14 4294967295 = 14 := by kernel_rfl
  have h3 : bits .and .u64 0 4294967295 = 0 := by kernel_rfl
  go_enter Try.func72, Try.ntmps72
  go_wp2
  go_ret2
  exact ⟨rfl, rfl⟩
set_option maxRecDepth 100000 in
theorem mul_14 : Ae.MulAs 14 := by
  intro w
  go_enter Try.func56, Try.ntmps56
  go_wp2_with (go_at_call 72; refine (mul64_14 _).mono ?_; rintro e w1 ⟨rfl, rfl⟩)
  go_ret2
  exact ⟨rfl, rfl⟩

set_option maxRecDepth 100000 in
theorem mul64_15 (w : World) : Calls Try.prog 72 #[.int .u64 1, .int .u64 15] w fun e w' => e = .returned (.tuple #[.int .u64 0, .int .u64 15]) ∧ w' = w := by
  have h1 : bits .and .u64 1 4294967295 = 1 := by kernel_rfl
  have h2 : bits .and .u64 15 4294967295 = 15 := by kernel_rfl
  have h3 : bits .and .u64 0 4294967295 = 0 := by kernel_rfl
  go_enter Try.func72, Try.ntmps72
  go_wp2
  go_ret2
  exact ⟨rfl, rfl⟩
set_option maxRecDepth 100000 in
theorem mul_15 : Ae.MulAs 15 := by
  intro w
  go_enter Try.func56, Try.ntmps56
  go_wp2_with (go_at_call 72; refine (mul64_15 _).mono ?_; rintro e w1 ⟨rfl, rfl⟩)
  go_ret2
  exact ⟨rfl, rfl⟩

set_option maxRecDepth 100000 in
theorem mul64_16 (w : World) : Calls Try.prog 72 #[.int .u64 1, .int .u64 16] w fun e w' => e = .returned (.tuple #[.int .u64 0, .int .u64 16]) ∧ w' = w := by
  have h1 : bits .and .u64 1 4294967295 = 1 := by kernel_rfl
  have h2 : bits .and .u64 16 4294967295 = 16 := by kernel_rfl
  have h3 : bits .and .u64 0 4294967295 = 0 := by kernel_rfl
  go_enter Try.func72, Try.ntmps72
  go_wp2
  go_ret2
  exact ⟨rfl, rfl⟩
set_option maxRecDepth 100000 in
theorem mul_16 : Ae.MulAs 16 := by
  intro w
  go_enter Try.func56, Try.ntmps56
  go_wp2_with (go_at_call 72; refine (mul64_16 _).mono ?_; rintro e w1 ⟨rfl, rfl⟩)
  go_ret2
  exact ⟨rfl, rfl⟩

theorem mul_le (n : Nat) (h1 : 1 ≤ n) (h2 : n ≤ 16) : Ae.MulAs n := by
  rcases (show n = 1 ∨ n = 2 ∨ n = 3 ∨ n = 4 ∨ n = 5 ∨ n = 6 ∨ n = 7 ∨ n = 8 ∨ n = 9 ∨ n = 10 ∨ n = 11 ∨ n = 12 ∨ n = 13 ∨ n = 14 ∨ n = 15 ∨ n = 16 by omega) with rfl | rfl | rfl | rfl | rfl | rfl | rfl | rfl | rfl | rfl | rfl | rfl | rfl | rfl | rfl | rfl
  · exact mul_1
  · exact mul_2
  · exact mul_3
  · exact mul_4
  · exact mul_5
  · exact mul_6
  · exact mul_7
  · exact mul_8
  · exact Ae.mul_9
  · exact mul_10
  · exact Ae.mul_11
  · exact mul_12
  · exact Ae.mul_13
  · exact mul_14
  · exact mul_15
  · exact mul_16

end Md
end Go.Proofs.Ytdmcnblnoiahcaa

namespace Go.Proofs.Ytdmcnblnoiahcaa
open Go.RowKit
set_option linter.unusedSimpArgs false
set_option linter.unusedVariables false
namespace Md
open Ae (MulAs)

theorem nz_run (n : Nat) (hn : n ≤ 16) (w : World) : ∃ cs : Array Value, (callFunc 67 #[.int .i64 (n : Int)]).run Try.prog w = .ok (.value (.slice (some ⟨w.heap.size, 0, none⟩) n cs.size)) ((w.alloc (.cells cs 5)).drewN 2) ∧ n ≤ cs.size ∧ cs.size ≤ maxLen := by
  obtain ⟨cs, hr, hle, hmax⟩ := Lib.run_makeNoZero (P := Try.prog) w #[3] 22 5 Try.underlying22 n (by omega)
  refine ⟨cs, ?_, hle, hmax (by unfold maxLen; omega)⟩
  have hf : Try.prog.funcs[(67 : Nat)]? = some Try.f67 := by kernel_rfl
  rw [run_callFunc_extern hf (by kernel_rfl) (by kernel_rfl) (by kernel_rfl) (e := Extern.BytealgMakeNoZero.makeNoZero #[3] #[22]) (by kernel_rfl), hr]
  rfl

/-- the first k cells are fv, the others as they were -/
def rj (fv : Value) (cs : List Value) (k : Nat) : List Value := List.replicate k fv ++ cs.drop k
theorem rj_length (fv : Value) (cs : List Value) (k : Nat) (h : k ≤ cs.length) : (rj fv cs k).length = cs.length := by simp [rj]; omega
theorem rj_splice (fv : Value) (cs : List Value) (k m : Nat) (h : k + m ≤ cs.length) : splice (rj fv cs k) k (List.replicate m fv) = rj fv cs (k + m) := by
  unfold splice rj
  rw [List.take_left' (by simp), List.length_replicate, show k + m = (List.replicate k fv).length + m by simp, List.drop_append]
  simp only [List.length_replicate, List.drop_replicate, Nat.add_sub_cancel_left, List.drop_drop]
  rw [show k - (k + m) = 0 by omega, List.replicate_zero, List.nil_append, ← List.append_assoc, List.replicate_append_replicate]
theorem rj_at (fv : Value) (cs : List Value) (k j : Nat) (h : j < k) : (rj fv cs k)[j]? = some fv := by
  unfold rj
  rw [List.getElem?_append_left (by simpa using h), List.getElem?_replicate, if_pos h]

theorem copy_src {w : World} {g : Nat} {t : TypeId} {fr : Nat × Nat} {fv : Value} {cs : List Value} {k m : Nat} (h : w.heap[g]? = some (.cells (rj fv cs k).toArray t fr)) (hm : m ≤ k) : ∀ j v, (List.replicate m fv)[j]? = some v → w.cell? ((⟨g, 0, none⟩ : Addr).add j) = some v := by
  intro j v hv
  have hj : j < m := by have := (List.getElem?_eq_some_iff.1 hv).1; simpa using this
  rw [List.getElem?_replicate, if_pos hj, Option.some.injEq] at hv
  subst hv
  rw [addr_add _ rfl, Nat.zero_add, cell_of_row w g j _ t fr h]
  simpa using rj_at fv cs k j (by omega)

/-- copy(r[k:], src) of m cells that all are fv -/
theorem copy_rj {w : World} {g n k m : Nat} {fv : Value} {cs : List Value} (hfv : fv.oneCell' = true) (hg : w.heap[g]? = some (.cells (rj fv cs k).toArray 5 (0, 0))) (hn : n ≤ cs.length) (hkm : k + m ≤ n) (ad : Addr) (sLen sCap : Nat)
    (hm : m = min sLen (n - k)) (hsrc : ∀ j v, (List.replicate m fv)[j]? = some v → w.cell? (ad.add j) = some v) :
    ∃ w', (Builtin.copy_ #[22, 22] 3 #[.slice (some ⟨g, k, none⟩) (n - k) (n - k), .slice (some ad) sLen sCap]).run Try.prog w = .ok (.int .i64 (m : Int)) w' ∧
      w'.heap[g]? = some (.cells (rj fv cs (k + m)).toArray 5 (0, 0)) ∧ Only (fun j => j = g) w w' := by
  have hr := run_copy_row (P := Try.prog) w 22 22 3 5 g k (n - k) (n - k) ad sLen sCap (rj fv cs k).toArray 5 (List.replicate m fv) Try.underlying22 Try.size5 hg
    (by show _ = min _ _; rw [List.length_replicate, hm]) hsrc (by rw [List.size_toArray, rj_length fv cs k (by omega), List.length_replicate]; omega) (fun v hv => by rw [List.eq_of_mem_replicate hv]; exact hfv)
  rw [List.length_replicate] at hr
  refine ⟨_, hr, ?_, ⟨rfl, rfl, rfl, by simp [World.setRow], fun j _ hj => setRow_other w g j _ hj⟩⟩
  rw [setRow_heap w g _ _ _ _ hg]
  have h2 := rj_splice fv cs k m (by omega)
  unfold splice at h2
  rw [List.length_replicate] at h2
  rw [← h2]
  simp

set_option maxRecDepth 100000 in
set_option maxHeartbeats 1000000 in
theorem repeat_any (n : Nat) (h1 : 1 ≤ n) (h2 : n ≤ 16) (u : UInt8) (xb : Nat) (w : World) (hx : w.cell? ⟨xb, 0, none⟩ = some (bv u)) :
    Calls Try.prog 47 #[.slice (some ⟨xb, 0, none⟩) 1 1, .int .i64 n] w fun e w' => ∃ v, e = .returned v ∧ Has w' v (List.replicate n u) ∧ Only (fun _ => False) w w' := by
  have HM : Hid (MulAs n) := mul_le n h1 h2
  obtain ⟨cs, hnz, hcs, hcm⟩ := nz_run n h2 w
  have hxl := World.block_lt_of_cell? w _ hx
  have HN : ((w.alloc (.cells cs 5)).drewN 2).heap[w.heap.size]? = some (.cells (rj (bv u) cs.toList 0).toArray 5 (0, 0)) := by
    show (w.alloc (.cells cs 5)).heap[w.heap.size]? = _
    rw [heap_alloc_new w (.cells cs 5)]
    simp [rj]
  have HC : ((w.alloc (.cells cs 5)).drewN 2).cell? ⟨xb, 0, none⟩ = some (bv u) := by
    show (w.alloc (.cells cs 5)).cell? ⟨xb, 0, none⟩ = some (bv u)
    rw [World.cell?_alloc_lt _ _ _ hxl]
    exact hx
  have oA : Only (fun _ => False) w ((w.alloc (.cells cs 5)).drewN 2) := ⟨rfl, rfl, rfl, by show _ ≤ (w.alloc (.cells cs 5)).heap.size; simp, fun j hj _ => ((Only.refl (fun _ => False) w).alloc (.cells cs 5)).block j hj (fun e => e)⟩
  have hcl : cs.toList.length = cs.size := by simp
  generalize (w.alloc (.cells cs 5)).drewN 2 = wn at *
  obtain ⟨w2, hcp, hw2, o2⟩ := copy_rj (w := wn) (fv := bv u) rfl HN (n := n) (k := 0) (m := 1) (by omega) (by omega) ⟨xb, 0, none⟩ 1 1 (by omega) (fun j v hv => by
    have hj : j = 0 := by have := (List.getElem?_eq_some_iff.1 hv).1; simpa using this
    subst hj
    rw [show v = bv u by simpa using hv.symm]
    exact HC)
  rw [Nat.sub_zero] at hcp
  have H2 := hide hw2
  have OG : Hid (Only (fun j => j = w.heap.size) w w2) := (oA.mono (fun _ _ e => e.elim)).trans o2 (fun _ _ e => e)
  have hcs' : (n : Int) ≤ (cs.size : Int) := by omega
  have HCL := hide hcl
  clear HN HC hxl hx hw2 o2 oA hcl
  go_enter Try.func47, Try.ntmps47
  go_wp2_with fail
  refine (unhide HM _).mono ?_
  rintro e w1 ⟨rfl, hw1⟩
  rw [hw1]
  clear hw1 w1
  go_wp2_with fail
  clear hcp hnz
  obtain ⟨g, hgw⟩ : ∃ g, g = w.heap.size := ⟨_, rfl⟩
  rw [← hgw] at H2 OG ⊢
  have HG := hide hgw
  clear hgw
  have HCS := hide hcs
  clear hcs hcs'
  go_loopw [10, 11] (fun p _ wr => ∃ k : Nat, 1 ≤ k ∧ k ≤ n ∧ p = .int .i64 k ∧ Hid (wr.heap[g]? = some (.cells (rj (bv u) cs.toList k).toArray 5 (0, 0))) ∧ Hid (Only (fun j => j = g) w wr)) (fun p _ _ => n - (intOf p).toNat)
  case atStart => exact ⟨1, by omega, by omega, by simp, H2, OG⟩
  case round =>
    obtain ⟨k, hk1, hkn, rfl, hkr, hkb⟩ := hrel
    by_cases hlt : k < n
    · obtain ⟨m, hm⟩ : ∃ m, m = min k (n - k) := ⟨_, rfl⟩
      obtain ⟨w3, hcp, hw3, o3⟩ := copy_rj (w := wr.drew) (fv := bv u) rfl (unhide hkr) (n := n) (by rw [unhide HCL]; exact unhide HCS) (k := k) (m := m) (by omega) ⟨g, 0, none⟩ k n hm (copy_src (w := wr.drew) (unhide hkr) (by omega))
      have H3 := hide hw3
      have O3 : Hid (Only (fun j => j = g) w w3) := ((unhide hkb).drew).trans o3 (fun _ _ e => e)
      have hm1 : 1 ≤ m := by omega
      have hmn : k + m ≤ n := by omega
      have hw64 : IntKind.i64.wrap ((k : Int) + (m : Int)) = ((k + m : Nat) : Int) := by rw [wrap_small _ (by omega) (by omega)]; omega
      clear hm hw3 o3 hkr hkb
      have hkn' : (k : Int) < (n : Int) := by omega
      have hkn3 : (k : Int) ≤ (n : Int) := by omega
      have hnk : ¬ n = k := by omega
      go_wp2_with fail
      refine wp_region_held_drew (S := (fun _ => True)) (by kernel_rfl) (trivial) (fun hHeld => ?_)
      refine wpAnyH_take (i := 0) (v := ?v1) rfl (by kernel_rfl) (by kernel_rfl) (by kernel_rfl) (fun _ _ _ h => h) (Or.inl ⟨by rfl, ?hy1⟩) (by assumption) ?rest1
      case hy1 =>
        intro w hSw
        go_simp
        try with_reducible rfl
      try simp only [Act.put, List.setIfInBounds_toArray, List.set_cons_zero, List.set_cons_succ, List.getElem_toArray, List.getElem_cons_succ, List.getElem_cons_zero]
      refine wpAnyH_take (i := 1) (v := ?v2) rfl (by kernel_rfl) (by kernel_rfl) (by kernel_rfl) (fun _ _ _ h => h) (Or.inl ⟨by rfl, ?hy2⟩) (by assumption) ?rest2
      case hy2 =>
        intro w hSw
        go_simp
        try with_reducible rfl
      try simp only [Act.put, List.setIfInBounds_toArray, List.set_cons_zero, List.set_cons_succ, List.getElem_toArray, List.getElem_cons_succ, List.getElem_cons_zero]
      refine wpAnyH_take (i := 2) (v := ?v3) rfl (by kernel_rfl) (by kernel_rfl) (by kernel_rfl) (fun _ _ _ h => h) (Or.inl ⟨by rfl, ?hy3⟩) (by assumption) ?rest3
      case hy3 =>
        intro w hSw
        go_simp
        try with_reducible rfl
      try simp only [Act.put, List.setIfInBounds_toArray, List.set_cons_zero, List.set_cons_succ, List.getElem_toArray, List.getElem_cons_succ, List.getElem_cons_zero]
      refine wpAnyH_take (i := 3) (v := ?v4) rfl (by kernel_rfl) (by kernel_rfl) (by kernel_rfl) (fun _ _ _ h => h) (Or.inl ⟨by rfl, ?hy4⟩) (by assumption) ?rest4
      case hy4 =>
        intro w hSw
        go_simp
        try with_reducible rfl
      try simp only [Act.put, List.setIfInBounds_toArray, List.set_cons_zero, List.set_cons_succ, List.getElem_toArray, List.getElem_cons_succ, List.getElem_cons_zero]
      refine wpAnyH_take (i := 4) (v := ?v5) rfl (by kernel_rfl) (by kernel_rfl) (by kernel_rfl) (fun _ _ _ h => h) (Or.inl ⟨by rfl, ?hy5⟩) (by assumption) ?rest5
      case hy5 =>
        intro w hSw
        go_simp
        try with_reducible rfl
      try simp only [Act.put, List.setIfInBounds_toArray, List.set_cons_zero, List.set_cons_succ, List.getElem_toArray, List.getElem_cons_succ, List.getElem_cons_zero]
      refine wpAnyH_take (i := 5) (v := ?v6) rfl (by kernel_rfl) (by kernel_rfl) (by kernel_rfl) (fun _ _ _ h => h) (Or.inl ⟨by rfl, ?hy6⟩) (by assumption) ?rest6
      case hy6 =>
        intro w hSw
        go_simp
        try with_reducible rfl
      try simp only [Act.put, List.setIfInBounds_toArray, List.set_cons_zero, List.set_cons_succ, List.getElem_toArray, List.getElem_cons_succ, List.getElem_cons_zero]
      refine wpAnyH_take (i := 6) (v := ?v7) rfl (by kernel_rfl) (by kernel_rfl) (by kernel_rfl) (fun _ _ _ h => h) (Or.inl ⟨by rfl, ?hy7⟩) (by assumption) ?rest7
      case hy7 =>
        intro w hSw
        go_simp
        try with_reducible rfl
      try simp only [Act.put, List.setIfInBounds_toArray, List.set_cons_zero, List.set_cons_succ, List.getElem_toArray, List.getElem_cons_succ, List.getElem_cons_zero]
      refine wpAnyH_ready (rs := [7]) (by kernel_rfl) (by simp) ?_
      refine AllReadyH.cons rfl (fun K hK => ?_) AllReadyH.nil
      go_simp
      refine hK.out _ _ (trivial) (fun hHeld => ?_)
      clear hK K
      try simp only [Act.put, List.setIfInBounds_toArray, List.set_cons_zero, List.set_cons_succ, List.getElem_toArray, List.getElem_cons_succ, List.getElem_cons_zero]
      refine wpAnyH_take (i := 8) (v := ?v8) rfl (by kernel_rfl) (by kernel_rfl) (by kernel_rfl) (fun _ _ _ h => h) (Or.inl ⟨by rfl, ?hy8⟩) (by assumption) ?rest8
      case hy8 =>
        intro w hSw
        go_simp
        try with_reducible rfl
      try simp only [Act.put, List.setIfInBounds_toArray, List.set_cons_zero, List.set_cons_succ, List.getElem_toArray, List.getElem_cons_succ, List.getElem_cons_zero]
      refine wpAnyH_take (i := 9) (v := ?v9) rfl (by kernel_rfl) (by kernel_rfl) (by kernel_rfl) (fun _ _ _ h => h) (Or.inl ⟨by rfl, ?hy9⟩) (by assumption) ?rest9
      case hy9 =>
        intro w hSw
        go_simp
        try with_reducible rfl
      try simp only [Act.put, List.setIfInBounds_toArray, List.set_cons_zero, List.set_cons_succ, List.getElem_toArray, List.getElem_cons_succ, List.getElem_cons_zero]
      refine wpAnyH_done (by kernel_rfl) ?_ _
      go_wp2
      go_roundw
      case rel => exact ⟨k + m, by omega, by omega, rfl, H3, O3⟩
      case measure => simp [intOf]; omega
    · obtain rfl : k = n := by omega
      have hkr2 := unhide hkr
      have HKR := hide hkr2
      clear hkr hkr2
      go_wp2
      go_ret
      refine ⟨.slice (some ⟨g, 0, none⟩) k k, rfl, ?_, ?_⟩
      · have h := unhide HKR
        refine Or.inr ⟨⟨g, 0, none⟩, k, by simp, fun _ => rfl, by simp, by unfold maxLen; omega, fun _ => lt_of_block h, fun j hj => ?_⟩
        have hjk : j < k := by simpa using hj
        rw [Nat.zero_add, cell_of_row wr g j _ _ _ h]
        simpa using rj_at (bv u) cs.toList k j hjk
      · exact (unhide hkb).mono (fun i hi e => by have := unhide HG; omega)
end Md
end Go.Proofs.Ytdmcnblnoiahcaa

namespace Go.Proofs.Ytdmcnblnoiahcaa
open Go.RowKit
set_option linter.unusedSimpArgs false
set_option linter.unusedVariables false
namespace Md

theorem grown_owns (w : World) (n : Nat) (hn : n ≤ 140737488355328) : (w.alloc (.cells (Builtin.zeroCells #[Value.int .u8 0] n ++ Builtin.zeroCells #[Value.int .u8 0] (grownCap w n 0 5 - n)) 5)).drew.ownsRow w.heap.size 5 1 (.slice (some ⟨w.heap.size, 0, none⟩) 0 (grownCap w n 0 5)) 0 [] := by
  have hge := grownCap_ge w n 0 5
  refine ⟨by simp, Or.inr ⟨w.heap.size, _, _, rfl, Nat.le_refl _, heap_alloc_new w _, Nat.zero_le _, grownCap_le_maxLen w n 0 _ (by unfold maxLen; omega), ?_, by simp⟩⟩
  rw [Array.size_append, size_zeroCells, size_zeroCells]
  show n * 1 + (grownCap w n 0 5 - n) * 1 = _
  omega

set_option maxRecDepth 100000 in
set_option maxHeartbeats 1000000 in
theorem growB_any (n : Nat) (h0 : 0 < n) (hn : n ≤ 140737488355328) (w : World) : Calls Try.prog 63 #[.slice none 0 0, .int .i64 (n : Int)] w fun e w' => ∃ v, e = .returned v ∧ w'.ownsRow w.heap.size 5 1 v 0 [] ∧ Only (fun _ => False) w w' := by
  obtain ⟨i, hi, hz, hsize, hby⟩ := info_parts Try.info5
  have hnc : Builtin.nextslicecap n 0 = n := by unfold Builtin.nextslicecap; rw [if_pos (by omega)]
  have h48' : ¬ (281474976710656 < n) := by omega
  have hge : (n : Int) ≤ ((grownCap w n 0 5 : Nat) : Int) := by have := grownCap_ge w n 0 5; omega
  have hown := hide (grown_owns w n hn)
  have hn0 : n ≠ 0 := by omega
  have hn63 : (n : Int) ≤ 140737488355328 := by omega
  have hnp : (0 : Int) < (n : Int) := by omega
  have hgp : ¬ (281474976710656 < Builtin.nextslicecap n 0 * Try.t5.bytes) := by rw [hnc, show Try.t5.bytes = 1 from rfl]; omega
  have hmk : ¬ (281474976710656 < (n : Int) * (Try.t5.bytes : Int)) := by rw [show Try.t5.bytes = 1 from rfl]; omega
  go_enter Try.func63, Try.ntmps63
  go_wp2
  go_ret
  exact ⟨_, rfl, unhide hown, ((Only.refl _ w).alloc _).drew⟩

theorem bequal_any (xv yv : Value) (xs ys : List UInt8) (w : World) (hx : Has w xv xs) (hy : Has w yv ys) : Calls Try.prog 46 #[xv, yv] w fun e w' => e = .returned (.bool (decide (xs = ys))) ∧ w' = w := by
  obtain ⟨xa, xc, hxs, _⟩ := hx.shape
  obtain ⟨ya, yc, hys, _⟩ := hy.shape
  subst hxs
  subst hys
  have h1 := str_conv hx
  have h2 := str_conv hy
  have HB := hide (str_beq xs ys)
  generalize str xs = X at *
  generalize str ys = Y at *
  generalize xs.length = xl at *
  generalize ys.length = yl at *
  clear hx hy
  go_enter Try.func46, Try.ntmps46
  go_wp2
  go_ret
  rw [← unhide HB]
  exact ⟨rfl, rfl⟩

/-- does it end so? -/
def endsB (us vs : List UInt8) : Bool := decide (vs.length ≤ us.length) && decide (us.drop (us.length - vs.length) = vs)

set_option maxRecDepth 100000 in
set_option maxHeartbeats 1000000 in
theorem suffix_any (xv yv : Value) (us vs : List UInt8) (w : World) (hx : Has w xv us) (hy : Has w yv vs) (h0 : 0 < vs.length) : Calls Try.prog 24 #[xv, yv] w fun e w' => e = .returned (.bool (endsB us vs)) ∧ w' = w := by
  obtain ⟨xa, xc, hxs, hlc, hm⟩ := hx.shape
  obtain ⟨ya, yc, hys, _⟩ := hy.shape
  subst hxs
  subst hys
  have hlm : us.length ≤ 9223372036854775807 := by unfold maxLen at hm; omega
  by_cases hle : vs.length ≤ us.length
  · have hE : endsB us vs = decide (us.drop (us.length - vs.length) = vs) := by unfold endsB; simp [hle]
    rw [hE]
    have hb := hx.back (n := us.length - vs.length) (by omega)
    have hEq := bequal_any _ _ _ vs w hb hy
    rw [show us.length - (us.length - vs.length) = vs.length by omega] at hEq
    have HEq := hide hEq
    clear hEq
    have hne : ¬ xc = us.length - vs.length := by omega
    have hne2 : ¬ us.length - vs.length = xc := by omega
    have hle' : (vs.length : Int) ≤ (us.length : Int) := by omega
    have hsub : (us.length : Int) - (vs.length : Int) = ((us.length - vs.length : Nat) : Int) := by omega
    have hlc' : ((us.length - vs.length : Nat) : Int) ≤ (us.length : Int) := by omega
    have hds : us.length - (us.length - vs.length) = vs.length := by omega
    clear hb hx hy hE
    go_enter Try.func24, Try.ntmps24
    go_wp2_with fail
    refine (unhide HEq).mono ?_
    rintro e w1 ⟨rfl, rfl⟩
    go_wp2
    go_ret
    exact ⟨rfl, rfl⟩
  · have hE : endsB us vs = false := by unfold endsB; simp [hle]
    rw [hE]
    have hle' : ¬ (vs.length : Int) ≤ (us.length : Int) := by omega
    have hle2 : (us.length : Int) < (vs.length : Int) := by omega
    clear hx hy hE
    go_enter Try.func24, Try.ntmps24
    go_wp2_with fail
    go_ret
    exact ⟨rfl, rfl⟩

set_option maxRecDepth 100000 in
set_option maxHeartbeats 1000000 in
/-- bytes cloned: the same bytes in a new block -/
theorem bclone_any (xv : Value) (us : List UInt8) (w : World) (hx : Has w xv us) (hl : us.length ≤ 140737488355328) :
    Calls Try.prog 26 #[xv] w fun e w' => ∃ u, e = .returned u ∧ Owns w.heap.size w' u us ∧ Only (fun _ => False) w w' := by
  obtain ⟨i0, hi, hz0, hz1, hz2⟩ := info_parts Try.info5
  rcases hx with ⟨rfl, rfl⟩ | ⟨a, cap, rfl, hrest⟩
  · have hnil : ∀ W, (binOp .eql 22 (.slice none 0 0) (.slice none 0 0)).run Try.prog W = .ok (.bool true) W := fun W => by kernel_rfl
    go_enter Try.func26, Try.ntmps26
    go_wp2
    go_ret
    exact ⟨_, rfl, World.ownsRow_nil _ _ _ _, Only.refl _ _⟩
  · have hx : Has w (.slice (some a) us.length cap) us := Or.inr ⟨a, cap, rfl, hrest⟩
    have hown : (w.alloc (.cells #[] 5)).ownsRow w.heap.size 5 1 (.slice (some ⟨w.heap.size, 0, none⟩) 0 0) 0 [] := World.ownsRow_lit w #[] 0 (Nat.le_refl _) (Nat.zero_le _) rfl
    have HX := hide (hx.only ((Only.refl (fun _ => False) w).alloc (.cells #[] 5)) (fun _ _ _ h => h))
    clear hrest hx
    have hnil : ∀ W, (binOp .eql 22 (.slice (some a) us.length cap) (.slice none 0 0)).run Try.prog W = .ok (.bool false) W := fun W => by kernel_rfl
    go_enter Try.func26, Try.ntmps26
    go_wp2_with (at_builtin; refine wpList_append_has rfl (.tmp 5) (.tmp 6) 22 rfl w.heap.size 5 i0 Try.underlying22 hi hz0 hz1 hz2 _ 0 [] rfl hown _ us rfl (unhide HX) (by omega) (by simp) ?_; intro ao2 cap2 w2 own2 gr2 at2)
    go_ret
    refine ⟨_, rfl, ?_, ((Only.refl _ _).alloc _).grown gr2 (fun k hk hl => by have hk2 : some w.heap.size = some k := hk; simp at hk2; omega)⟩
    unfold Owns
    simpa using own2

def tot (ls : List (List UInt8)) (k : Nat) : Nat := (ls.take k).flatten.length
theorem tot_succ (ls : List (List UInt8)) (k : Nat) (l : List UInt8) (h : ls[k]? = some l) : tot ls (k + 1) = tot ls k + l.length := by
  unfold tot
  rw [List.take_add_one, h]
  simp
theorem tot_le (ls : List (List UInt8)) (k : Nat) : tot ls k ≤ ls.flatten.length := by
  unfold tot
  conv => rhs; rw [← List.take_append_drop k ls]
  rw [List.flatten_append, List.length_append]
  omega
theorem flat_succ (ls : List (List UInt8)) (k : Nat) (l : List UInt8) (h : ls[k]? = some l) : (ls.take (k + 1)).flatten = (ls.take k).flatten ++ l := by
  rw [List.take_add_one, h]
  simp

set_option maxRecDepth 100000 in
set_option maxHeartbeats 1000000 in
theorem concatB_any (sb : Nat) (ls : List (List UInt8)) (n : Nat) (w : World) (hn0 : 0 < n) (hn : n ≤ 140737488355328) (hll : ls.length = 2) (htot : ls.flatten.length = n)
    (hc : ∀ k, k < 2 → ∃ ao ln cap l, ls[k]? = some l ∧ ln = l.length ∧ w.cell? ⟨sb, k, none⟩ = some (.slice ao ln cap) ∧ Has w (.slice ao ln cap) l) :
    Calls Try.prog 43 #[.slice (some ⟨sb, 0, none⟩) 2 2] w fun e w' => ∃ v, e = .returned v ∧ Owns w.heap.size w' v ls.flatten ∧ Only (fun _ => False) w w' := by
  have HC := hide hc
  have HT := hide htot
  have HG : Hid (∀ w : World, Calls Try.prog 63 #[.slice none 0 0, .int .i64 (n : Int)] w fun e w' => ∃ v, e = .returned v ∧ w'.ownsRow w.heap.size 5 1 v 0 [] ∧ Only (fun _ => False) w w') := fun w => growB_any n hn0 hn w
  clear hc htot
  go_enter Try.func43, Try.ntmps43
  go_wp2
  go_loop [3, 5, 11] (fun s _ i => ∃ k : Nat, k ≤ 2 ∧ i = .int .i64 k ∧ s = .int .i64 (tot ls k)) (fun _ _ i => 2 - (intOf i).toNat)
  case atStart => exact ⟨0, Nat.zero_le _, rfl, rfl⟩
  case round =>
    obtain ⟨k, hk, rfl, rfl⟩ := hrel
    by_cases hlt : k < 2
    · obtain ⟨ao, ln, cap, l, hl, hln, hcell, hv⟩ := unhide HC k hlt
      have ht := tot_succ ls k l hl
      have hle := tot_le ls (k + 1)
      rw [unhide HT, ht, ← hln] at hle
      rw [← hln] at ht
      have hwr : IntKind.i64.wrap ((tot ls k : Int) + (ln : Int)) = ((tot ls k + ln : Nat) : Int) := by rw [wrap_small _ (by omega) (by omega)]; omega
      have HT1 := hide ht
      clear ht hl hln hv
      generalize tot ls k = t at *
      have hk3 : (k : Int) < 2 := by omega
      go_wp2
      go_round
      case rel => exact ⟨k + 1, by omega, by go_num, by rw [unhide HT1]; first | rfl | go_num⟩
      case measure => simp [intOf]; omega
    · obtain rfl : k = 2 := by omega
      have ht3 : tot ls 2 = n := by unfold tot; rw [List.take_of_length_le (by omega)]; exact unhide HT
      rw [ht3]
      clear ht3
      go_wp2_with fail
      refine (unhide HG _).mono ?_
      rintro e w1 ⟨v, rfl, hown, ho⟩
      have HOWN := hide hown
      have HO := hide ho
      clear hown ho
      go_wp2
      go_loopw [6, 8, 27] (fun s _ i wr => ∃ k : Nat, k ≤ 2 ∧ i = .int .i64 k ∧ Hid (wr.ownsRow w.heap.size 5 1 s (tot ls k) ((ls.take k).flatten.map bv)) ∧ Hid (Only (fun _ => False) w wr)) (fun _ _ i _ => 2 - (intOf i).toNat)
      case atStart => exact ⟨0, Nat.zero_le _, rfl, HOWN, HO⟩
      case round =>
        obtain ⟨k, hk, rfl, hown, hor⟩ := hrel
        by_cases hlt : k < 2
        · obtain ⟨ao, ln, cap, l, hl, hln, hcell, hv⟩ := unhide HC k hlt
          subst hln
          have hcell2 := (unhide hor).cell hcell (fun e => e)
          have HV := hide (hv.only (unhide hor) (fun _ _ _ e => e))
          have hle := tot_le ls (k + 1)
          rw [unhide HT, tot_succ ls k l hl] at hle
          have HS : Hid (tot ls (k + 1) = tot ls k + l.length) := tot_succ ls k l hl
          have HF : Hid ((ls.take (k + 1)).flatten = (ls.take k).flatten ++ l) := flat_succ ls k l hl
          have h63 : tot ls k + l.length ≤ 140737488355328 := by omega
          have hbase : w.heap.size ≤ wr.heap.size := (unhide hor).size
          have HLE := hide hle
          clear hv hcell hl hle
          obtain ⟨i0, hi, hz0, hz1, hz2⟩ := info_parts Try.info5
          have hk3 : (k : Int) < 2 := by omega
          generalize tot ls k = t at *
          go_wp2_with (at_builtin; refine wpList_append_has rfl (.tmp 31) (.tmp 32) 22 rfl w.heap.size 5 i0 Try.underlying22 hi hz0 hz1 hz2 _ t _ rfl (unhide hown) _ l rfl (unhide HV) h63 hbase ?_; intro ao2 cap2 w2 own2 gr2 at2)
          go_roundw
          case rel =>
            refine ⟨k + 1, by omega, by go_num, ?_, ?_⟩
            · show _ ; rw [unhide HS, unhide HF, List.map_append]; exact own2
            · exact (unhide hor).grown gr2 (fun j hj hlt => by have := ((unhide hown).lt j hj).1; omega)
          case measure => simp [intOf]; omega
        · obtain rfl : k = 2 := by omega
          have h := unhide hown
          have ht3 : tot ls 2 = n := by unfold tot; rw [List.take_of_length_le (by omega)]; exact unhide HT
          rw [ht3, List.take_of_length_le (by omega)] at h
          have HH := hide h
          clear h ht3 hown
          go_wp2
          go_ret
          refine ⟨_, rfl, ?_, unhide hor⟩
          unfold Owns
          rw [unhide HT]
          exact unhide HH

end Md
end Go.Proofs.Ytdmcnblnoiahcaa

namespace Go.Proofs.Ytdmcnblnoiahcaa
open Go.RowKit
set_option linter.unusedSimpArgs false
set_option linter.unusedVariables false
namespace Md
open Ae (gt gt_some)

/-- how many bytes fill it -/
def pd (l : Nat) : Nat := 16 - l % 16
def padT (t : List UInt8) : List UInt8 := t ++ List.replicate (pd t.length) (UInt8.ofNat (pd t.length))
theorem pd_pos (l : Nat) : 1 ≤ pd l ∧ pd l ≤ 16 := by unfold pd; omega
theorem padT_length (t : List UInt8) : (padT t).length = 16 * (t.length / 16 + 1) := by
  unfold padT pd
  rw [List.length_append, List.length_replicate]
  omega

/-- is it filled? by how many bytes? -/
def lastN (b : List UInt8) : Nat := (gt b (b.length - 1)).toNat
def okB (b : List UInt8) : Bool := decide (0 < b.length) && decide (b.length % 16 = 0) && decide (1 ≤ lastN b) && decide (lastN b ≤ 16) && endsB b (List.replicate (lastN b) (gt b (b.length - 1)))
def unpadU (b : List UInt8) : List UInt8 := if okB b then b.take (b.length - lastN b) else []
def unpadE (b : List UInt8) : Int := if okB b then 0 else 11

theorem bv_ofNat (n : Nat) (h : n ≤ 16) : bv (UInt8.ofNat n) = .int .u8 (n : Int) := by
  unfold bv
  rw [show (UInt8.ofNat n).toNat = n by rw [UInt8.toNat_ofNat']; omega]

set_option maxRecDepth 100000 in
set_option maxHeartbeats 1000000 in
theorem padding_any (n : Nat) (h1 : 1 ≤ n) (h2 : n ≤ 16) (w : World) :
    Calls Try.prog 25 #[.int .i64 n] w fun e w' => ∃ v, e = .returned v ∧ Has w' v (List.replicate n (UInt8.ofNat n)) ∧ Only (fun _ => False) w w' := by
  have hw8 : IntKind.u8.wrap (n : Int) = (n : Int) := by rw [IntKind.wrap_u8]; omega
  have hw8' : (n : Int) % 256 = (n : Int) := by omega
  have hc : (w.alloc (.cells #[.int .u8 (n : Int)] 5)).cell? ⟨w.heap.size, 0, none⟩ = some (bv (UInt8.ofNat n)) := by
    rw [bv_ofNat n h2]
    exact cell_of_row _ _ 0 _ _ _ (heap_alloc_last w (.cells #[.int .u8 (n : Int)] 5))
  have HR := hide (repeat_any n h1 h2 (UInt8.ofNat n) w.heap.size _ hc)
  clear hc
  go_enter Try.func25, Try.ntmps25
  go_wp2_with fail
  refine (unhide HR).mono ?_
  rintro e w1 ⟨v, rfl, hh, ho⟩
  have HH := hide hh
  have HO := hide (((Only.refl (fun _ => False) w).alloc (.cells #[.int .u8 (n : Int)] 5)).trans ho (fun _ _ e => e))
  clear hh ho hw8 hw8'
  go_wp2
  go_ret
  exact ⟨v, rfl, unhide HH, unhide HO⟩

set_option maxRecDepth 100000 in
set_option maxHeartbeats 1000000 in
theorem pad_any (xv : Value) (us : List UInt8) (w : World) (hx : Has w xv us) (hl : us.length ≤ 140737488351232) :
    Calls Try.prog 20 #[xv] w fun e w' => ∃ v, e = .returned v ∧ Owns w.heap.size w' v (padT us) ∧ Only (fun _ => False) w w' := by
  obtain ⟨xa, xc, hxs, hlc, hm⟩ := hx.shape
  subst hxs
  have hp := pd_pos us.length
  have hm1 : (us.length : Int).tmod 16 = ((us.length % 16 : Nat) : Int) := by rw [Int.tmod_eq_emod_of_nonneg (by omega)]; omega
  have hm2 : (us.length : Int) % 16 = ((us.length % 16 : Nat) : Int) := by omega
  have hpd : (16 : Int) - ((us.length % 16 : Nat) : Int) = (pd us.length : Int) := by unfold pd; omega
  have hr : us.length % 16 < 16 := Nat.mod_lt _ (by decide)
  have HPT : Hid (padT us = [us, List.replicate (pd us.length) (UInt8.ofNat (pd us.length))].flatten) := by show _ = _; simp [padT]
  have HX := hide hx
  have HPN := hide (fun W => padding_any (pd us.length) hp.1 hp.2 W)
  have hnl : us.length + pd us.length ≤ 140737488355328 := by omega
  generalize pd us.length = n at *
  clear hx hm
  generalize us.length % 16 = r at *
  go_enter Try.func20, Try.ntmps20
  go_wp2_with fail
  refine (unhide HPN _).mono ?_
  rintro e w1 ⟨v, rfl, hv, ho⟩
  obtain ⟨va, vc, hvs, _⟩ := hv.shape
  subst hvs
  rw [List.length_replicate] at hv ⊢
  have hX1 := (unhide HX).only ho (fun _ _ _ e => e)
  have HC := hide (concatB_any w1.heap.size [us, List.replicate n (UInt8.ofNat n)] (us.length + n) (w1.alloc (.cells #[.slice xa us.length xc, .slice va n vc] 22)) (by omega) hnl rfl (by simp) (by
    have oA := (Only.refl (fun _ => False) w1).alloc (.cells #[.slice xa us.length xc, .slice va n vc] 22)
    have hh := heap_alloc_last w1 (.cells #[.slice xa us.length xc, .slice va n vc] 22)
    intro k hk
    rcases (show k = 0 ∨ k = 1 by omega) with rfl | rfl
    · exact ⟨xa, us.length, xc, us, rfl, rfl, cell_of_row _ _ 0 _ _ _ hh, hX1.only oA (fun _ _ _ e => e)⟩
    · exact ⟨va, n, vc, _, rfl, by simp, cell_of_row _ _ 1 _ _ _ hh, hv.only oA (fun _ _ _ e => e)⟩))
  have HO := hide (ho.alloc (.cells #[.slice xa us.length xc, .slice va n vc] 22))
  have hsz := ho.size
  clear hX1 hv ho hm1 hm2 hpd
  go_wp2_with fail
  refine (unhide HC).mono ?_
  rintro e w2 ⟨v2, rfl, h2, o2⟩
  have H2 := hide h2
  have O2 := hide ((unhide HO).trans o2 (fun _ _ e => e))
  clear h2 o2
  go_wp2
  go_ret
  refine ⟨v2, rfl, ?_, unhide O2⟩
  rw [unhide HPT]
  exact ownsRow_base (unhide H2) (by simp; omega)

set_option maxRecDepth 100000 in
set_option maxHeartbeats 1000000 in
theorem fills_any (ao : Option Addr) (l cap : Nat) (w : World) :
    Calls Try.prog 21 #[.slice ao l cap] w fun e w' => e = .returned (.bool (decide (0 < l) && decide (l % 16 = 0))) ∧ w' = w := by
  by_cases h0 : l = 0
  · subst h0
    go_enter Try.func21, Try.ntmps21
    go_wp2
    go_ret
    exact ⟨rfl, rfl⟩
  · have hm1 : (l : Int).tmod 16 = ((l % 16 : Nat) : Int) := by rw [Int.tmod_eq_emod_of_nonneg (by omega)]; omega
    have hm2 : (l : Int) % 16 = ((l % 16 : Nat) : Int) := by omega
    have hpos : (0 : Int) < (l : Int) := by omega
    rw [show decide (0 < l) = true by simp; omega, Bool.true_and]
    generalize l % 16 = r at *
    by_cases hr : r = 0
    · subst hr
      go_enter Try.func21, Try.ntmps21
      go_wp2
      go_ret
      exact ⟨rfl, rfl⟩
    · have hrb : ((r : Int) == 0) = false := by simp; omega
      rw [show decide (r = 0) = false by simp; omega]
      go_enter Try.func21, Try.ntmps21
      go_wp2
      go_ret
      exact ⟨rfl, rfl⟩

end Md
end Go.Proofs.Ytdmcnblnoiahcaa

namespace Go.Proofs.Ytdmcnblnoiahcaa
open Go.RowKit
set_option linter.unusedSimpArgs false
set_option linter.unusedVariables false
namespace Md
open Ae (gt gt_some)

theorem take_has {w : World} {xa : Option Addr} {xc : Nat} {us : List UInt8} (hx : Has w (.slice xa us.length xc) us) (n : Nat) (hn : n ≤ us.length) : Has w (.slice xa (us.length - n) xc) (us.take (us.length - n)) := hx.front (by omega)

set_option maxRecDepth 100000 in
set_option maxHeartbeats 2000000 in
theorem unpad_any (xv : Value) (us : List UInt8) (w : World) (hx : Has w xv us) (hl : us.length ≤ 140737488355328) :
    Calls Try.prog 8 #[xv] w fun e w' => ∃ v, e = .returned (.tuple #[v, .int .i64 (unpadE us)]) ∧ Has w' v (unpadU us) ∧ Only (fun _ => False) w w' := by
  obtain ⟨xa, xc, hxs, hlc, hm⟩ := hx.shape
  subst hxs
  have HF := hide (fun W => fills_any xa us.length xc W)
  by_cases hfb : (decide (0 < us.length) && decide (us.length % 16 = 0)) = true
  case neg =>
    have hok : okB us = false := by unfold okB; rw [Bool.not_eq_true] at hfb; rw [hfb]; rfl
    have hE : unpadE us = 11 := by unfold unpadE; rw [hok]; rfl
    have hU : unpadU us = [] := by unfold unpadU; rw [hok]; rfl
    rw [hE, hU]
    rw [Bool.not_eq_true] at hfb
    rw [hfb] at HF
    clear hfb hok hE hU hx
    go_enter Try.func8, Try.ntmps8
    go_wp2_with (go_at_call 21; refine (unhide HF _).mono ?_; rintro e w1 ⟨rfl, rfl⟩)
    go_ret2
    exact ⟨_, rfl, Or.inl ⟨rfl, rfl⟩, Only.refl _ _⟩
  case pos =>
    have hpos : 0 < us.length := by simp at hfb; omega
    have h16 : 16 ≤ us.length := by simp at hfb; omega
    obtain ⟨xb, xo, rfl, _, hcells⟩ := hx.at hpos
    have hlt : us.length - 1 < us.length := by omega
    have hc := hcells (us.length - 1) hlt
    have hgt : us[us.length - 1] = gt us (us.length - 1) := by
      have := gt_some us (us.length - 1) hlt
      rw [List.getElem?_eq_getElem hlt] at this
      exact Option.some.inj this
    rw [hgt] at hc
    have hok : okB us = (decide (1 ≤ lastN us) && decide (lastN us ≤ 16) && endsB us (List.replicate (lastN us) (gt us (us.length - 1)))) := by unfold okB; rw [hfb]; simp
    have HOK := hide hok
    rw [hfb] at HF
    have hLN : (gt us (us.length - 1)).toNat = lastN us := rfl
    simp only [bv, hLN] at hc
    have hx8 : gt us (us.length - 1) = UInt8.ofNat (lastN us) := by rw [← hLN]; simp
    rw [hx8] at HOK
    have hsub : (us.length : Int) - 1 = ((us.length - 1 : Nat) : Int) := by omega
    have hlt' : ((us.length - 1 : Nat) : Int) < (us.length : Int) := by omega
    have HX := hide hx
    have hE : unpadE us = if okB us then 0 else 11 := rfl
    have hU : unpadU us = if okB us then us.take (us.length - lastN us) else [] := rfl
    have HE := hide hE
    have HU := hide hU
    have hn256 : lastN us < 256 := by rw [← hLN]; exact UInt8.toNat_lt _
    clear hfb hok hcells hgt hLN hx8 hx hE hU
    generalize lastN us = n at *
    by_cases h1 : n < 1
    · have hok2 : okB us = false := by rw [unhide HOK]; simp; omega
      rw [unhide HE, unhide HU, hok2]
      have h1' : (n : Int) < 1 := by omega
      clear hok2 HE HU HOK
      go_enter Try.func8, Try.ntmps8
      go_wp2_with (go_at_call 21; refine (unhide HF _).mono ?_; rintro e w1 ⟨rfl, rfl⟩)
      go_ret2
      exact ⟨_, rfl, Or.inl ⟨rfl, rfl⟩, Only.refl _ _⟩
    · have h1' : ¬ (n : Int) < 1 := by omega
      by_cases h2 : 16 < n
      · have hok2 : okB us = false := by rw [unhide HOK]; simp; omega
        rw [unhide HE, unhide HU, hok2]
        have h2' : (16 : Int) < (n : Int) := by omega
        clear hok2 HE HU HOK
        go_enter Try.func8, Try.ntmps8
        go_wp2_with (go_at_call 21; refine (unhide HF _).mono ?_; rintro e w1 ⟨rfl, rfl⟩)
        go_ret2
        exact ⟨_, rfl, Or.inl ⟨rfl, rfl⟩, Only.refl _ _⟩
      · have h2' : ¬ (16 : Int) < (n : Int) := by omega
        have hoke : okB us = endsB us (List.replicate n (UInt8.ofNat n)) := by rw [unhide HOK]; simp; omega
        rw [← hoke] at HOK
        have HP := hide (fun W => padding_any n (by omega) (by omega) W)
        have HSX : Hid (∀ (v : Value) (W : World), Has W (.slice (some ⟨xb, xo, none⟩) us.length xc) us → Has W v (List.replicate n (UInt8.ofNat n)) → Calls Try.prog 24 #[.slice (some ⟨xb, xo, none⟩) us.length xc, v] W fun e W' => e = .returned (.bool (okB us)) ∧ W' = W) := fun v W h h' => by
          rw [hoke]
          exact suffix_any _ v us _ W h h' (by simp; omega)
        clear hoke HOK
        have hsub2 : (us.length : Int) - (n : Int) = ((us.length - n : Nat) : Int) := by omega
        have hle2 : ((us.length - n : Nat) : Int) ≤ (xc : Int) := by omega
        by_cases hb : okB us = true
        · rw [hb] at HSX HE HU
          rw [if_pos rfl] at HE HU
          rw [unhide HE, unhide HU]
          clear hb HE HU
          have hln : us.length - n ≤ us.length := by omega
          have HTK : Hid (∀ W, Has W (.slice (some ⟨xb, xo, none⟩) us.length xc) us → Calls Try.prog 26 #[.slice (some ⟨xb, xo, none⟩) (us.length - n) xc] W fun e w' => ∃ u, e = .returned u ∧ Owns W.heap.size w' u (us.take (us.length - n)) ∧ Only (fun _ => False) W w') := fun W h => bclone_any _ _ W (take_has h n (by omega)) (by rw [List.length_take]; omega)
          go_enter Try.func8, Try.ntmps8
          go_wp2_with (first
            | (go_at_call 21; refine (unhide HF _).mono ?_; rintro e w1 ⟨rfl, rfl⟩)
            | (go_at_call 25; refine (unhide HP _).mono ?_; rintro e w2 ⟨v, rfl, hv, ho⟩; have HV := hide hv; have HO := hide ho; have HX2 := hide ((unhide HX).only ho (fun _ _ _ e => e)); clear hv ho)
            | (go_at_call 24; refine (unhide HSX _ _ (unhide HX2) (unhide HV)).mono ?_; rintro e w3 ⟨rfl, rfl⟩)
            | (go_at_call 26; refine (unhide HTK _ (unhide HX2)).mono ?_; rintro e w4 ⟨u, rfl, hu, ho4⟩; have HU4 := hide (Has.ofOwns hu); have HO4 := hide ((unhide HO).trans ho4 (fun _ _ e => e)); clear hu ho4))
          go_ret2
          exact ⟨_, rfl, unhide HU4, unhide HO4⟩
        · rw [Bool.not_eq_true] at hb
          rw [hb] at HSX HE HU
          rw [if_neg (by decide)] at HE HU
          rw [unhide HE, unhide HU]
          clear hb HE HU
          go_enter Try.func8, Try.ntmps8
          go_wp2_with (first
            | (go_at_call 21; refine (unhide HF _).mono ?_; rintro e w1 ⟨rfl, rfl⟩)
            | (go_at_call 25; refine (unhide HP _).mono ?_; rintro e w2 ⟨v, rfl, hv, ho⟩; have HV := hide hv; have HO := hide ho; have HX2 := hide ((unhide HX).only ho (fun _ _ _ e => e)); clear hv ho)
            | (go_at_call 24; refine (unhide HSX _ _ (unhide HX2) (unhide HV)).mono ?_; rintro e w3 ⟨rfl, rfl⟩))
          go_ret2
          exact ⟨_, rfl, Or.inl ⟨rfl, rfl⟩, unhide HO⟩

end Md
end Go.Proofs.Ytdmcnblnoiahcaa

namespace Go.Proofs.Ytdmcnblnoiahcaa
open Go.RowKit
set_option linter.unusedSimpArgs false
set_option linter.unusedVariables false
namespace Md
open Ae (gt gt_some)

/-- the last n bytes all are x, from place i on -/
theorem ends_all (us : List UInt8) (n : Nat) (x : UInt8) (hn : n ≤ us.length) : endsB us (List.replicate n x) = true ↔ ∀ j, us.length - n ≤ j → j < us.length → us[j]? = some x := by
  unfold endsB
  rw [List.length_replicate]
  simp only [Bool.and_eq_true, decide_eq_true_eq]
  constructor
  · rintro ⟨_, h⟩ j h1 h2
    have := congrArg (fun l => l[j - (us.length - n)]?) h
    simp only [List.getElem?_drop, List.getElem?_replicate] at this
    rw [show us.length - n + (j - (us.length - n)) = j by omega, if_pos (by omega)] at this
    exact this
  · intro h
    refine ⟨hn, ?_⟩
    apply List.ext_getElem?
    intro j
    rw [List.getElem?_drop, List.getElem?_replicate]
    by_cases hj : j < n
    · rw [if_pos hj]
      exact h _ (by omega) (by omega)
    · rw [if_neg hj, List.getElem?_eq_none (by omega)]

end Md
end Go.Proofs.Ytdmcnblnoiahcaa

namespace Go.Proofs.Ytdmcnblnoiahcaa
open Go.RowKit
set_option linter.unusedSimpArgs false
set_option linter.unusedVariables false
namespace Md
open Ae (gt gt_some)

theorem padT_last (t : List UInt8) : gt (padT t) ((padT t).length - 1) = UInt8.ofNat (pd t.length) := by
  have hp := pd_pos t.length
  have h := gt_some (padT t) ((padT t).length - 1) (by rw [padT_length]; omega)
  have h2 : (padT t)[(padT t).length - 1]? = some (UInt8.ofNat (pd t.length)) := by
    unfold padT
    rw [List.length_append, List.length_replicate, List.getElem?_append_right (by omega), List.getElem?_replicate, if_pos (by omega)]
  rw [h] at h2
  exact Option.some.inj h2
theorem padT_lastN (t : List UInt8) : lastN (padT t) = pd t.length := by
  have hp := pd_pos t.length
  unfold lastN
  rw [padT_last, UInt8.toNat_ofNat']
  omega
theorem padT_ok (t : List UInt8) : okB (padT t) = true := by
  have hp := pd_pos t.length
  have hl := padT_length t
  unfold okB
  rw [padT_lastN, padT_last]
  have he : endsB (padT t) (List.replicate (pd t.length) (UInt8.ofNat (pd t.length))) = true := by
    unfold endsB padT
    rw [List.length_append, List.length_replicate, Nat.add_sub_cancel, List.drop_left]
    simp
  rw [he]
  simp only [Bool.and_eq_true, decide_eq_true_eq, Bool.and_true]
  omega
theorem unpadE_pad (t : List UInt8) : unpadE (padT t) = 0 := by unfold unpadE; rw [padT_ok]; rfl
theorem unpadU_pad (t : List UInt8) : unpadU (padT t) = t := by
  unfold unpadU
  rw [padT_ok, if_pos rfl, padT_lastN]
  unfold padT
  rw [List.length_append, List.length_replicate, Nat.add_sub_cancel, List.take_left]

theorem Try.underStr : Try.prog.underlying 9 = some .string := by kernel_rfl

set_option maxRecDepth 100000 in
set_option maxHeartbeats 1000000 in
theorem known_any (w : World) : Calls Try.prog 9 #[] w fun e w' => e = .returned (.bool true) ∧ Only (fun _ => False) w w' := by
  have hlit : Has (w.alloc (.cells #[.int .u8 97, .int .u8 98] 5 (2, 3))) (.slice (some ⟨w.heap.size, 0, none⟩) 2 2) [97, 98] := by
    have h := has_lit (w := w.alloc (.cells #[.int .u8 97, .int .u8 98] 5 (2, 3))) (g := w.heap.size) (bs := [97, 98]) (t := 5) (fr := (2, 3)) (heap_alloc_new w _) (by unfold maxLen; simp)
    exact h
  have HP := hide (pad_any _ _ _ hlit (by simp))
  have oA := (Only.refl (fun _ => False) w).alloc (.cells #[.int .u8 97, .int .u8 98] 5 (2, 3))
  have OA := hide oA
  clear hlit oA
  have hc22 : (convert 22 22 (.slice (some ⟨w.heap.size, 0, none⟩) 2 2)).run Try.prog (w.alloc (.cells #[.int .u8 97, .int .u8 98] 5)) = .ok (.slice (some ⟨w.heap.size, 0, none⟩) 2 2) (w.alloc (.cells #[.int .u8 97, .int .u8 98] 5 (2, 3))) :=
    Lib.run_convert_bytes_const w 22 5 #[.int .u8 97, .int .u8 98] 2 2 Try.underlying22 Try.underlying5
  go_enter Try.func9, Try.ntmps9
  go_wp2_with fail
  refine (unhide HP).mono ?_
  rintro e w1 ⟨v1, rfl, h1, o1⟩
  have HU := hide (unpad_any v1 _ w1 (Has.ofOwns h1) (by rw [padT_length]; simp))
  rw [unpadE_pad, unpadU_pad] at HU
  have O1 := hide ((unhide OA).trans o1 (fun _ _ e => e))
  clear h1 o1
  go_wp2_with fail
  refine (unhide HU).mono ?_
  rintro e w2 ⟨v2, rfl, h2, o2⟩
  have O2 := hide ((unhide O1).trans o2 (fun _ _ e => e))
  have hcv := str_conv h2
  have HP2 := hide (pad_any (.slice none 0 0) [] w2 (Or.inl ⟨rfl, rfl⟩) (by simp))
  have hse : (str [97, 98] : ByteArray) = { data := #[97, 98] } := rfl
  rw [hse] at hcv
  clear h2 o2
  go_wp2_with fail
  refine (unhide HP2).mono ?_
  rintro e w3 ⟨v3, rfl, h3, o3⟩
  obtain ⟨va, vc, hvs, _⟩ := (Has.ofOwns h3).shape
  subst hvs
  have hl16 : (padT []).length = 16 := by rw [padT_length]; rfl
  rw [hl16]
  have O3 := hide ((unhide O2).trans o3 (fun _ _ e => e))
  clear h3 o3 hl16
  go_wp2
  go_ret
  exact ⟨rfl, unhide O3⟩

end Md
end Go.Proofs.Ytdmcnblnoiahcaa
