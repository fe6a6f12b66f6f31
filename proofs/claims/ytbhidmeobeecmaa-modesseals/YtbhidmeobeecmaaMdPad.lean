/-
  modes' padding, Pad, fillsBlocks, Unpad.
-/
import Derived.Test.YtbhidmeobeecmaaMdCat
import Derived.Test.YtbhidmeobeecmaaAeSt
namespace Go.Proofs.Ytbhidmeobeecmaa
open Go.RowKit
set_option linter.unusedSimpArgs false
set_option linter.unusedVariables false
namespace Md
open Ae (gt gt_some)

/-- how many bytes fill it -/
def pd (l : Nat) : Nat := 16 - l % 16
def padT (t : List UInt8) : List UInt8 := t ++ List.replicate (pd t.length) (UInt8.ofNat (pd t.length))
theorem pd_pos (l : Nat) : 1 ≤ pd l ∧ pd l ≤ 16 := by unfold pd; omega
theorem padT_length (t : List UInt8) : (padT t).length = 16 * (t.length / 16 + 1) := by
  unfold padT pd
  rw [List.length_append, List.length_replicate]
  omega

/-- is it filled? by how many bytes? -/
def lastN (b : List UInt8) : Nat := (gt b (b.length - 1)).toNat
def okB (b : List UInt8) : Bool := decide (0 < b.length) && decide (b.length % 16 = 0) && decide (1 ≤ lastN b) && decide (lastN b ≤ 16) && endsB b (List.replicate (lastN b) (gt b (b.length - 1)))
def unpadU (b : List UInt8) : List UInt8 := if okB b then b.take (b.length - lastN b) else []
def unpadE (b : List UInt8) : Int := if okB b then 0 else 11

theorem bv_ofNat (n : Nat) (h : n ≤ 16) : bv (UInt8.ofNat n) = .int .u8 (n : Int) := by
  unfold bv
  rw [show (UInt8.ofNat n).toNat = n by rw [UInt8.toNat_ofNat']; omega]

set_option maxRecDepth 100000 in
set_option maxHeartbeats 1000000 in
theorem padding_any (n : Nat) (h1 : 1 ≤ n) (h2 : n ≤ 16) (w : World) :
    Calls Try.prog 35 #[.int .i64 n] w fun e w' => ∃ v, e = .returned v ∧ Has w' v (List.replicate n (UInt8.ofNat n)) ∧ Only (fun _ => False) w w' := by
  have hw8 : IntKind.u8.wrap (n : Int) = (n : Int) := by rw [IntKind.wrap_u8]; omega
  have hw8' : (n : Int) % 256 = (n : Int) := by omega
  have hc : (w.alloc (.cells #[.int .u8 (n : Int)] 5)).cell? ⟨w.heap.size, 0, none⟩ = some (bv (UInt8.ofNat n)) := by
    rw [bv_ofNat n h2]
    exact cell_of_row _ _ 0 _ _ _ (heap_alloc_last w (.cells #[.int .u8 (n : Int)] 5))
  have HR := hide (repeat_any n h1 h2 (UInt8.ofNat n) w.heap.size _ hc)
  clear hc
  go_enter Try.func35, Try.ntmps35
  go_wp2_with fail
  refine (unhide HR).mono ?_
  rintro e w1 ⟨v, rfl, hh, ho⟩
  have HH := hide hh
  have HO := hide (((Only.refl (fun _ => False) w).alloc (.cells #[.int .u8 (n : Int)] 5)).trans ho (fun _ _ e => e))
  clear hh ho hw8 hw8'
  go_wp2
  go_ret
  exact ⟨v, rfl, unhide HH, unhide HO⟩

set_option maxRecDepth 100000 in
set_option maxHeartbeats 1000000 in
theorem pad_any (xv : Value) (us : List UInt8) (w : World) (hx : Has w xv us) (hl : us.length ≤ 140737488351232) :
    Calls Try.prog 17 #[xv] w fun e w' => ∃ v, e = .returned v ∧ Owns w.heap.size w' v (padT us) ∧ Only (fun _ => False) w w' := by
  obtain ⟨xa, xc, hxs, hlc, hm⟩ := hx.shape
  subst hxs
  have hp := pd_pos us.length
  have hm1 : (us.length : Int).tmod 16 = ((us.length % 16 : Nat) : Int) := by rw [Int.tmod_eq_emod_of_nonneg (by omega)]; omega
  have hm2 : (us.length : Int) % 16 = ((us.length % 16 : Nat) : Int) := by omega
  have hpd : (16 : Int) - ((us.length % 16 : Nat) : Int) = (pd us.length : Int) := by unfold pd; omega
  have hr : us.length % 16 < 16 := Nat.mod_lt _ (by decide)
  have HPT : Hid (padT us = [us, List.replicate (pd us.length) (UInt8.ofNat (pd us.length))].flatten) := by show _ = _; simp [padT]
  have HX := hide hx
  have HPN := hide (fun W => padding_any (pd us.length) hp.1 hp.2 W)
  have hnl : us.length + pd us.length ≤ 140737488355328 := by omega
  generalize pd us.length = n at *
  clear hx hm
  generalize us.length % 16 = r at *
  go_enter Try.func17, Try.ntmps17
  go_wp2_with fail
  refine (unhide HPN _).mono ?_
  rintro e w1 ⟨v, rfl, hv, ho⟩
  obtain ⟨va, vc, hvs, _⟩ := hv.shape
  subst hvs
  rw [List.length_replicate] at hv ⊢
  have hX1 := (unhide HX).only ho (fun _ _ _ e => e)
  have HC := hide (concatB_any w1.heap.size [us, List.replicate n (UInt8.ofNat n)] (us.length + n) (w1.alloc (.cells #[.slice xa us.length xc, .slice va n vc] 22)) (by omega) hnl rfl (by simp) (by
    have oA := (Only.refl (fun _ => False) w1).alloc (.cells #[.slice xa us.length xc, .slice va n vc] 22)
    have hh := heap_alloc_last w1 (.cells #[.slice xa us.length xc, .slice va n vc] 22)
    intro k hk
    rcases (show k = 0 ∨ k = 1 by omega) with rfl | rfl
    · exact ⟨xa, us.length, xc, us, rfl, rfl, cell_of_row _ _ 0 _ _ _ hh, hX1.only oA (fun _ _ _ e => e)⟩
    · exact ⟨va, n, vc, _, rfl, by simp, cell_of_row _ _ 1 _ _ _ hh, hv.only oA (fun _ _ _ e => e)⟩))
  have HO := hide (ho.alloc (.cells #[.slice xa us.length xc, .slice va n vc] 22))
  have hsz := ho.size
  clear hX1 hv ho hm1 hm2 hpd
  go_wp2_with fail
  refine (unhide HC).mono ?_
  rintro e w2 ⟨v2, rfl, h2, o2⟩
  have H2 := hide h2
  have O2 := hide ((unhide HO).trans o2 (fun _ _ e => e))
  clear h2 o2
  go_wp2
  go_ret
  refine ⟨v2, rfl, ?_, unhide O2⟩
  rw [unhide HPT]
  exact ownsRow_base (unhide H2) (by simp; omega)

set_option maxRecDepth 100000 in
set_option maxHeartbeats 1000000 in
theorem fills_any (ao : Option Addr) (l cap : Nat) (w : World) :
    Calls Try.prog 31 #[.slice ao l cap] w fun e w' => e = .returned (.bool (decide (0 < l) && decide (l % 16 = 0))) ∧ w' = w := by
  by_cases h0 : l = 0
  · subst h0
    go_enter Try.func31, Try.ntmps31
    go_wp2
    go_ret
    exact ⟨rfl, rfl⟩
  · have hm1 : (l : Int).tmod 16 = ((l % 16 : Nat) : Int) := by rw [Int.tmod_eq_emod_of_nonneg (by omega)]; omega
    have hm2 : (l : Int) % 16 = ((l % 16 : Nat) : Int) := by omega
    have hpos : (0 : Int) < (l : Int) := by omega
    rw [show decide (0 < l) = true by simp; omega, Bool.true_and]
    generalize l % 16 = r at *
    by_cases hr : r = 0
    · subst hr
      go_enter Try.func31, Try.ntmps31
      go_wp2
      go_ret
      exact ⟨rfl, rfl⟩
    · have hrb : ((r : Int) == 0) = false := by simp; omega
      rw [show decide (r = 0) = false by simp; omega]
      go_enter Try.func31, Try.ntmps31
      go_wp2
      go_ret
      exact ⟨rfl, rfl⟩

end Md
end Go.Proofs.Ytbhidmeobeecmaa
