/-
  locksmithlaw4's known: a new disk's log.
-/
import Derived.Test.YtoffcbopolonoaaWalAppend
import Derived.Test.YtoffcbopolonoaaDkMore
namespace Go.Proofs.Ytoffcbopolonoaa
open Go.RowKit
set_option linter.unusedSimpArgs false
set_option linter.unusedVariables false
namespace Wal

theorem new_sec (n k : Nat) (hk : k < n) : (Dk.new n).sec k = some (List.replicate 64 0) := by
  have h := (Calm.new n).read rfl k (by simpa [Dk.new] using hk)
  have e : (Dk.new n).secs.getD k none = some (List.replicate 64 0) := by simp [Dk.new, List.getD, hk]
  rw [e] at h
  unfold Dk.sec
  rw [h.1, h.2]
  rfl

theorem hdOf_zero : hdOf (List.replicate 64 0) = Hd.zero := by
  simp only [hdOf, Hd.zero, Hd.mk.injEq]
  decide +kernel
theorem headIn_zero (half : Nat) : headIn half (some (List.replicate 64 0)) = none := by
  have h : ¬ (hdOf (List.replicate 64 0)).lay = List.replicate 64 0 := by rw [hdOf_zero]; decide +kernel
  unfold headIn
  simp only
  rw [if_neg (fun e => h e.2.2)]

theorem found_new (n : Nat) (h : 8 ≤ n) : found (Dk.new n) = (Hd.zero, 0) := by
  unfold found
  rw [new_sec n 0 (by omega), new_sec n 1 (by omega), headIn_zero]
  rfl
theorem unitsOf_new (n : Nat) : unitsOf (Dk.new n) Hd.zero = some [] := by
  unfold unitsOf
  simp [Hd.zero, readFrom, takeAll]
theorem half_new (n : Nat) : (Dk.new n).half = (n - 2) / 2 := by simp [Dk.half, Dk.new]

theorem hasU_lit2 {w : World} {g : Nat} {a b : Value} {u v : List UInt8} {P : Nat → Prop} {t : TypeId} {fr : Nat × Nat} (h : w.heap[g]? = some (.cells #[a, b] t fr)) (ha : Has w a u) (hb : Has w b v) (pa : ∀ k, blk a = some k → P k) (pb : ∀ k, blk b = some k → P k) (pg : P g) : HasU P w (.slice (some ⟨g, 0, none⟩) 2 2) [u, v] :=
  ⟨[a, b], hasV_lit (vs := [a, b]) h (by simp [maxLen]), ⟨ha, fun _ => pa, hb, fun _ => pb, trivial⟩, fun _ k hk => by simp only [blk, Option.map_some, Option.some.injEq] at hk; subst hk; exact pg⟩
theorem hasU_lit1 {w : World} {g : Nat} {a : Value} {u : List UInt8} {P : Nat → Prop} {t : TypeId} {fr : Nat × Nat} (h : w.heap[g]? = some (.cells #[a] t fr)) (ha : Has w a u) (pa : ∀ k, blk a = some k → P k) (pg : P g) : HasU P w (.slice (some ⟨g, 0, none⟩) 1 1) [u] :=
  ⟨[a], hasV_lit (vs := [a]) h (by simp [maxLen]), ⟨ha, fun _ => pa, trivial⟩, fun _ k hk => by simp only [blk, Option.map_some, Option.some.injEq] at hk; subst hk; exact pg⟩


def lg0 : Lg := ⟨Hd.zero, 0, false⟩

section
variable {w0 w w' : World} {F : Nat → Prop} {B L : Nat} {d : Dk} {l : Lg}

theorem Logs.newU (h : Logs w0 w F B L d l) {v : Value} {us : List (List UInt8)} (hv : HasU (fun j => w.heap.size ≤ j) w' v us) : HasU (fun j => ¬ F j ∧ j ≠ L) w' v us :=
  hv.mono (fun k _ hk => ⟨fun e => by have := h.dk.lt k e; omega, by have := h.lt; omega⟩)
theorem Logs.new1 (h : Logs w0 w F B L d l) {v : Value} {u : List UInt8} (hv : ∀ j, blk v = some j → w.heap.size ≤ j) : u ≠ [] → ∀ j, blk v = some j → ¬ F j ∧ j ≠ L :=
  fun _ k hk => by have := hv k hk; exact ⟨fun e => by have := h.dk.lt k e; omega, by have := h.lt; omega⟩
end


section
variable {w0 w w' : World} {F : Nat → Prop} {B L : Nat} {d : Dk} {l : Lg}

theorem open_new (n : Nat) (hn : 8 ≤ n) (h : Dks w0 w F B (Dk.new n)) : Calls Try.prog 8 #[.pointer (some ⟨B, 0, none⟩)] w fun e w' => ∃ L ao cap, e = .returned (.tuple #[.pointer (some ⟨L, 0, none⟩), .slice ao 0 cap, .int .i64 0]) ∧ Logs w0 w' F B L (Dk.new n) lg0 ∧ w.heap.size ≤ L ∧ Only (fun _ => False) w w' := by
  refine (open_any h (by simp [Dk.new]) rfl).mono ?_
  rintro e w' ⟨h1, ho⟩
  rw [found_new n hn, unitsOf_new] at h1
  obtain ⟨L, v, rfl, hv, hl, hL⟩ := h1
  obtain ⟨ao, cap, rfl, _⟩ := hv.hasU.shape
  rw [found_new n hn] at hl
  exact ⟨L, ao, cap, rfl, hl, hL, ho⟩

set_option maxHeartbeats 1000000 in
theorem known_any (w : World) : Calls Try.prog 10 #[] w fun e w' => e = .returned (.bool true) ∧ Only (fun _ => False) w w' := by
  obtain ⟨Z1, hZ1, hZe1⟩ := make_null 56 (by decide)
  obtain ⟨Z2, hZ2, hZe2⟩ := make_null 57 (by decide)
  have HZ1 := hide hZe1
  have HZ2 := hide hZe2
  have hz1 : ∀ w : World, (Instr.makeSlice 32 (.int .i64 56) (.int .i64 56)).run Try.prog w = .ok (.slice (some ⟨w.heap.size, 0, none⟩) 56 56) (w.alloc (.cells Z1 5)) := hZ1
  have hz2 : ∀ w : World, (Instr.makeSlice 32 (.int .i64 57) (.int .i64 57)).run Try.prog w = .ok (.slice (some ⟨w.heap.size, 0, none⟩) 57 57) (w.alloc (.cells Z2 5)) := hZ2
  clear hZ1 hZ2 hZe1 hZe2
  go_enter Try.func10, Try.ntmps10
  go_wp2_with fail
  refine (dks_new 8 (by decide) (by decide) w w (Only.refl _ _)).mono ?_
  rintro e w1 ⟨B, F, rfl, hd, hF, o1⟩
  have HOP := hide (open_new 8 (by decide) hd)
  clear hd
  go_wp2_with fail
  refine (unhide HOP).mono ?_
  rintro e w2 ⟨L, ao, cap, rfl, hl, hL, o2⟩
  have o02 := o1.trans o2 (fun _ _ e => e)
  have HL := hide hl
  have HHF := hide (half_any hl)
  have HRM := hide (room_any hl)
  rw [half_new] at HHF HRM
  rw [show lg0.hd.used = 0 from rfl] at HRM
  clear o1 o2 HOP
  go_wp2_with fail
  refine (unhide HHF).mono ?_
  rintro e w2 ⟨rfl, rfl⟩
  go_wp2_with fail
  refine (unhide HRM).mono ?_
  rintro e w3 ⟨rfl, nq, hw3⟩
  have o03 : Only (fun _ => False) w w3 := by rw [hw3]; exact o02.trans (Only.drews nq) (fun _ _ e => e)
  clear hw3
  have HS1 := hide (size_any (.slice (some ⟨w3.heap.size, 0, none⟩) 56 56) (List.replicate 56 0) (w3.alloc (.cells Z1 5)) (has_row (heap_alloc_new _ _) (unhide HZ1) (by simp) (by unfold maxLen; omega)) (by simp))
  rw [show size (List.replicate 56 0) = 1 from by decide +kernel] at HS1
  go_wp2_with fail
  refine (unhide HS1).mono ?_
  rintro e w4 ⟨rfl, hw4⟩
  have o04 : Only (fun _ => False) w w4 := by rw [hw4]; exact o03.alloc _
  clear hw4
  have HS2 := hide (size_any (.slice (some ⟨w4.heap.size, 0, none⟩) 57 57) (List.replicate 57 0) (w4.alloc (.cells Z2 5)) (has_row (heap_alloc_new _ _) (unhide HZ2) (by simp) (by unfold maxLen; omega)) (by simp))
  rw [show size (List.replicate 57 0) = 2 from by decide +kernel] at HS2
  go_wp2_with fail
  refine (unhide HS2).mono ?_
  rintro e w5 ⟨rfl, hw5⟩
  have o05 : Only (fun _ => False) w w5 := by rw [hw5]; exact o04.alloc _
  clear hw5
  go_wp2
  go_ret
  exact ⟨rfl, o05⟩
end

end Wal
end Go.Proofs.Ytoffcbopolonoaa
