/-
  A log over a disk as it lies in memory; its small calls.
-/
import Derived.Test.YtmcobkcnpnfobaaGreatWalUnit
import Derived.Test.YtmcobkcnpnfobaaGreatDkAt
import Derived.BigQuiet
import Derived.BigRegion
import Derived.Deep.QuietTactic
import Derived.Deep.RegionWith
namespace Go.Proofs.YtmcobkcnpnfobaaGreat
open Go.RowKit
set_option linter.unusedSimpArgs false
set_option linter.unusedVariables false

theorem Only.drews {S : Nat → Prop} {w : World} (n : Nat) : Only S w (w.drewN n) := ⟨rfl, rfl, rfl, Nat.le_refl _, fun _ _ _ => rfl⟩

namespace Wal

/-- log l at block L, over the disk at block B -/
def LgAt (w : World) (L B : Nat) (l : Lg) : Prop := w.heap[L]? = some (.cells #[.pointer (some ⟨B, 0, none⟩), .int .u64 l.hd.epoch, .int .i64 l.hd.area, .int .i64 l.hd.used, .int .i64 l.next, .bool l.dead] 108 (0, 0))

structure Logs (w0 w : World) (F : Nat → Prop) (B L : Nat) (d : Dk) (l : Lg) : Prop where
  dk : Dks w0 w F B d
  lg : LgAt w L B l
  off : ¬ F L
  up : w0.heap.size ≤ L
  fine : l.Fine d.half
  works : d.works ≤ 900000

theorem LgAt.cells {w : World} {L B : Nat} {l : Lg} (h : LgAt w L B l) :
    w.cell? ⟨L, 0, none⟩ = some (.pointer (some ⟨B, 0, none⟩)) ∧ w.cell? ⟨L, 1, none⟩ = some (.int .u64 l.hd.epoch) ∧ w.cell? ⟨L, 2, none⟩ = some (.int .i64 l.hd.area) ∧ w.cell? ⟨L, 3, none⟩ = some (.int .i64 l.hd.used) ∧
      w.cell? ⟨L, 4, none⟩ = some (.int .i64 l.next) ∧ w.cell? ⟨L, 5, none⟩ = some (.bool l.dead) ∧ ∀ i, w.frozen? ⟨L, i, none⟩ = false := by
  unfold LgAt at h
  simp [World.cell?, World.frozen?, h]

section
variable {w0 w w' : World} {F : Nat → Prop} {B L : Nat} {d : Dk} {l : Lg}

theorem Logs.lt (h : Logs w0 w F B L d l) : L < w.heap.size := lt_of_block h.lg

theorem Logs.later (h : Logs w0 w F B L d l) {S : Nat → Prop} (ho : Only S w w') (hS : ∀ k, k < w.heap.size → S k → ¬ F k ∧ w0.heap.size ≤ k ∧ k ≠ L) : Logs w0 w' F B L d l :=
  ⟨h.dk.later ho (fun k hk hs => ⟨(hS k hk hs).1, (hS k hk hs).2.1⟩), ho.heap h.lg (fun hs => (hS L h.lt hs).2.2 rfl), h.off, h.up, h.fine, h.works⟩
theorem Logs.same (h : Logs w0 w F B L d l) (ho : Only (fun _ => False) w w') : Logs w0 w' F B L d l := h.later ho (fun _ _ e => e.elim)
theorem Logs.drews (h : Logs w0 w F B L d l) (n : Nat) : Logs w0 (w.drewN n) F B L d l := h.same (Only.drews n)

theorem half_le (d : Dk) (h : d.Fine) : d.half ≤ 2047 ∧ 2 * d.half + 2 ≤ d.secs.length := by
  have := h.n1
  have := h.n2
  unfold Dk.half
  omega

theorem half_any (h : Logs w0 w F B L d l) : Calls Tryz.prog 66 #[.pointer (some ⟨L, 0, none⟩)] w fun e w' => e = .returned (.int .i64 d.half) ∧ w' = w := by
  obtain ⟨c0, c1, c2, c3, c4, c5, cf⟩ := h.lg.cells
  have HS := hide (dks_sectors h.dk)
  have hn1 := h.dk.fine.n1
  have hn2 := h.dk.fine.n2
  have hq : ((d.secs.length : Int) - 2) / 2 = (d.half : Int) := by unfold Dk.half; omega
  clear h
  go_enter Tryz.func66, Tryz.ntmps66
  go_wp2_with fail
  refine (unhide HS).mono ?_
  rintro e w1 ⟨rfl, rfl⟩
  go_wp2
  go_ret
  rw [hq]
  exact ⟨rfl, rfl⟩

theorem room_any (h : Logs w0 w F B L d l) : Calls Tryz.prog 111 #[.pointer (some ⟨L, 0, none⟩)] w fun e w' => e = .returned (.int .i64 (d.half - l.hd.used)) ∧ ∃ n, w' = w.drewN n := by
  obtain ⟨c0, c1, c2, c3, c4, c5, cf⟩ := h.lg.cells
  have H := hide h
  have hu := h.fine.used
  have hh := half_le d h.dk.fine
  clear h
  go_enter Tryz.func111, Tryz.ntmps111
  go_wp2_with fail
  go_quiet ((go_at_call 66; exact Calls.quiet_of_same (half_any ((unhide H).drews _))))
  go_wp2
  go_ret
  exact ⟨rfl, _, rfl⟩

theorem start_any (h : Logs w0 w F B L d l) (a : Nat) (ha : a ≤ 1) : Calls Tryz.prog 61 #[.pointer (some ⟨L, 0, none⟩), .int .i64 a] w fun e w' => e = .returned (.int .i64 (start d a)) ∧ w' = w := by
  have HS := hide (half_any h)
  have hh := half_le d h.dk.fine
  clear h
  go_enter Tryz.func61, Tryz.ntmps61
  go_wp2_with fail
  refine (unhide HS).mono ?_
  rintro e w1 ⟨rfl, rfl⟩
  have hm : (a : Int) * (d.half : Int) = ((a * d.half : Nat) : Int) := by simp
  have hb : a * d.half ≤ 2047 := Nat.le_trans (Nat.mul_le_mul_right _ ha) (by omega)
  have HM : Hid (start d a = 2 + a * d.half) := rfl
  generalize a * d.half = m at *
  go_wp2
  go_ret
  rw [unhide HM]
  exact ⟨rfl, rfl⟩

end

end Wal
end Go.Proofs.YtmcobkcnpnfobaaGreat
