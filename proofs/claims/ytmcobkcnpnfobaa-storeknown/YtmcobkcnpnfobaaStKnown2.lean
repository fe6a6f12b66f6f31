/-
  locksmithlaw5.StoreKnown.
-/
import Derived.Test.YtmcobkcnpnfobaaStKnown
import Derived.Test.YtmcobkcnpnfobaaStFits
namespace Go.Proofs.Ytmcobkcnpnfobaa
open Go.RowKit Go.Maps
set_option linter.unusedSimpArgs false
set_option linter.unusedVariables false

namespace St

theorem hasC_one {Q : Nat → Prop} {w W1 : World} {key value : List UInt8} {has : Bool} {x : Value} (hW : W1 = w.alloc (.cells #[encStr key, .bool has, x] 32)) (hx : Has w x value) (hxq : value ≠ [] → ∀ k, blk x = some k → Q k) (hg : Q w.heap.size) : HasC Q W1 (.slice (some ⟨w.heap.size, 0, none⟩) 1 1) [⟨key, has, value⟩] := by
  subst hW
  have h := hasC_lit (Q := Q) (w := w.alloc (.cells #[encStr key, .bool has, x] 32)) (g := w.heap.size) [(x, ⟨key, has, value⟩)] (heap_alloc_new _ _) (fun z hz => by
    rw [List.mem_singleton.1 hz]
    exact ⟨hx.only ((Only.refl (fun _ => False) w).alloc _) (fun _ _ _ e => e), hxq⟩) hg (by simp)
  exact h

theorem hasC_empty (Q : Nat → Prop) (w : World) (a : Addr) : HasC Q w (.slice (some a) 0 0) [] := ⟨[], rfl, Or.inr ⟨a, 0, rfl, fun h => absurd h (by simp), Nat.le_refl _, by unfold maxLen; omega, fun h => absurd h (by simp), fun j z h => by simp at h⟩, fun z hz => (by cases hz), fun h => absurd rfl h⟩
theorem has_nil (w : World) : Has w (.slice none 0 0) [] := Or.inl ⟨rfl, rfl⟩
theorem size_of_alloc {w W : World} {o : Obj} (h : w.alloc o = W) : W.heap.size = w.heap.size + 1 := by rw [← h]; simp
theorem only_of_alloc {w W : World} {o : Obj} (h : w.alloc o = W) : Only (fun _ => False) w W := by rw [← h]; exact (Only.refl _ _).alloc _
theorem new_of_alloc {w W : World} {o : Obj} (h : w.alloc o = W) : W.heap[w.heap.size]? = some o := by rw [← h]; exact heap_alloc_new _ _

def zb : List Chg := [⟨[98], true, List.replicate 200 0⟩]
def ks : LD := ⟨⟨Wal.Hd.zero, 0, false⟩, Dk.new 8⟩
def q1 : Nat × KRes LD := keepEachS apL reL [[⟨[97], true, []⟩], [], zb] ks [] 0
def q2 : Nat × KRes LD := keepEachS apL reL [[⟨[], false, []⟩]] q1.2.s q1.2.P q1.2.u
def q3 : Nat × KRes LD := keepEachS apL reL [[⟨[97], false, []⟩], [⟨[99], true, []⟩], [⟨[100], true, []⟩]] q2.2.s q2.2.P q2.2.u
theorem q_fits : fitsS ks [] 0 [zb] = false := by decide +kernel
theorem q_facts : q1.1 = 2 ∧ q1.2.e = 2 ∧ q2.1 = 0 ∧ q2.2.e = 1 ∧ q3.1 = 3 ∧ q3.2.e = 0 := by decide +kernel
theorem q_state : q3.2.P = [([99], []), ([100], [])] ∧ q3.2.u = 1 ∧ q3.2.s.l.dead = false := by decide +kernel
theorem q_ok : (q1.2.s.d.works ≤ 100 ∧ q1.2.s.d.half ≤ 2047) ∧ (q2.2.s.d.works ≤ 100 ∧ q2.2.s.d.half ≤ 2047) ∧ q1.2.u ≤ 10 ∧ q2.2.u ≤ 10 := by decide +kernel
theorem q_lay : layChanges [⟨[97], false, [120]⟩] = none ∧ readChanges [0] = none := by decide +kernel

set_option maxHeartbeats 8000000 in
set_option maxRecDepth 100000 in
theorem storeKnown_any (w : World) : Calls Try.prog 3 #[] w fun e w' => e = .returned (.bool true) ∧ Only (fun _ => False) w w' := by
  have kc := fun (w : World) (C : Array Value) (n c : Nat) => Lib.run_convert_bytes_const (P := Try.prog) w 30 5 C n c Try.underlying30 Try.underlying5
  obtain ⟨Z2, hZ2, hZe2⟩ := make_null 200 (by decide)
  have HZ2 := hide hZe2
  have hz2 : ∀ w : World, (Instr.makeSlice 30 (.int .i64 200) (.int .i64 200)).run Try.prog w = .ok (.slice (some ⟨w.heap.size, 0, none⟩) 200 200) (w.alloc (.cells Z2 5)) := hZ2
  clear hZ2 hZe2
  go_enter Try.func3, Try.ntmps3
  go_wp2_with fail
  refine (open_nil w).mono ?_
  rintro e w ⟨rfl, rfl⟩
  go_wp2_with fail
  refine (dks_new 8 (by decide) (by decide) w w (Only.refl _ _)).mono ?_
  rintro e w1 ⟨B, F, rfl, hd, hF, o1⟩
  have HOP := hide (stt_open (s := ks) hd (by decide) (good_new 8 (by decide) (by decide)) (by decide) (by decide))
  clear hd o1
  go_wp2_with fail
  refine (unhide HOP).mono ?_
  rintro e w2 ⟨sb, X, rfl, hs, hX, o2⟩
  have HS := hide hs
  clear hs o2 HOP hX
  go_wp2_with fail
  refine (known_any w2).mono ?_
  rintro e w3 ⟨rfl, o3⟩
  have HS3 := hide ((unhide HS).same o3)
  clear HS o3
  go_wp2_with fail
  generalize hW1 : w3.alloc (.cells Z2 5) = W1 at *
  generalize hW2 : W1.alloc (.cells #[.string ⟨#[98]⟩, .bool true, .slice (some ⟨w3.heap.size, 0, none⟩) 200 200] 32) = W2 at *
  generalize hW3 : W2.alloc (.cells #[.slice (some ⟨w3.heap.size + 1, 0, none⟩) 1 1] 33) = W3 at *
  have z1 := size_of_alloc hW1
  have z2 := size_of_alloc hW2
  have z3 := size_of_alloc hW3
  have a1 := only_of_alloc hW1
  have a2 := only_of_alloc hW2
  have a3 := only_of_alloc hW3
  have k1 : Has W1 (.slice (some ⟨w3.heap.size, 0, none⟩) 200 200) (List.replicate 200 0) := has_row (new_of_alloc hW1) (unhide HZ2) (by simp) (by decide)
  have hbig : HasC (fun j => w3.heap.size ≤ j) W2 (.slice (some ⟨W1.heap.size, 0, none⟩) 1 1) zb := hasC_one (key := [98]) hW2.symm k1 (fun _ k hk => by simp [blk] at hk; omega) (by omega)
  rw [z1] at hbig
  have n3 := new_of_alloc hW3
  rw [z2, z1] at n3
  have k3 : HasCC (fun j => w3.heap.size ≤ j) W3 (.slice (some ⟨w3.heap.size + 1 + 1, 0, none⟩) 1 1) [zb] := hasCC_lit [_] _ n3 ⟨hbig.same a3, trivial⟩ (by omega) (by simp)
  have o33 : Only (fun _ => False) w3 W3 := (a1.trans a2 (fun _ _ e => e)).trans a3 (fun _ _ e => e)
  have hsW := (unhide HS3).same o33
  have hXl := (unhide HS3).lt
  have HXL := hide hXl
  refine (fits_any hsW _ [zb] (k3.mono (fun j _ hj e => by have := (hXl j e).2; omega)) (by decide) (by decide)).mono ?_
  rintro e w4 ⟨rfl, o4⟩
  rw [q_fits]
  have HB4 := hide ((hbig.same a3).same o4)
  have HS4 := hide (hsW.same o4)
  have hs34 : w3.heap.size + 3 ≤ w4.heap.size := by have := o4.size; omega
  have hX4 := (unhide HS4).lt
  have HX4 := hide hX4
  clear hW1 hW2 hW3 z1 z2 z3 a1 a2 a3 k1 hbig n3 k3 o33 hsW hXl o4 hX4 HS3
  go_wp2_with fail
  generalize hW1 : w4.alloc (.cells #[.string ⟨#[97]⟩, .bool true, .slice none 0 0] 32) = W4 at *
  generalize hW2 : W4.alloc (.cells #[] 32) = W5 at *
  generalize hW3 : W5.alloc (.cells #[.slice (some ⟨w4.heap.size, 0, none⟩) 1 1, .slice (some ⟨w4.heap.size + 1, 0, none⟩) 0 0, .slice (some ⟨w3.heap.size + 1, 0, none⟩) 1 1] 33) = W6 at *
  have z1 := size_of_alloc hW1
  have z2 := size_of_alloc hW2
  have z3 := size_of_alloc hW3
  have a1 := only_of_alloc hW1
  have a2 := only_of_alloc hW2
  have a3 := only_of_alloc hW3
  have o46 : Only (fun _ => False) w4 W6 := (a1.trans a2 (fun _ _ e => e)).trans a3 (fun _ _ e => e)
  have k1 : HasC (fun j => ¬ X j) W4 (.slice (some ⟨w4.heap.size, 0, none⟩) 1 1) [⟨[97], true, []⟩] := hasC_one (key := [97]) hW1.symm (has_nil _) (fun h => absurd rfl h) (fun e => by have := (unhide HX4 _ e).2; omega)
  have n3 := new_of_alloc hW3
  rw [z2, z1] at n3
  have hbX : HasC (fun j => ¬ X j) W6 (.slice (some ⟨w3.heap.size + 1, 0, none⟩) 1 1) zb := ((unhide HB4).mono (fun j _ hj e => by have := (unhide HXL j e).2; omega)).same o46
  have k3 : HasCC (fun j => ¬ X j) W6 (.slice (some ⟨w4.heap.size + 1 + 1, 0, none⟩) 3 3) [[⟨[97], true, []⟩], [], zb] := hasCC_lit [_, _, _] _ n3 ⟨(k1.same a2).same a3, hasC_empty _ _ _, hbX, trivial⟩ (fun e => by have := (unhide HX4 _ e).2; omega) (by simp)
  have HCO := hide (stt_commit ((unhide HS4).same o46) _ _ k3 (by decide) (by decide) (by unfold okL; decide +kernel))
  clear hW1 hW2 hW3 z1 z2 z3 a1 a2 a3 k1 n3 k3 o46 hbX HB4
  refine (unhide HCO).mono ?_
  rintro e w5 ⟨rfl, hw5⟩
  have f1 : keepEachS apL reL [[⟨[97], true, []⟩], [], zb] ks [] 0 = q1 := rfl
  rw [f1] at hw5 ⊢
  rw [q_facts.1, q_facts.2.1]
  obtain ⟨X5, h5, _⟩ := hw5.now
  have HS5 := hide h5
  have HX5 := hide h5.lt
  clear hw5 h5 f1 HCO HS4 HX4 HXL
  go_wp2_with fail
  generalize hW1 : w5.alloc (.cells #[.string ⟨#[]⟩, .bool false, .slice none 0 0] 32) = W1 at *
  generalize hW2 : W1.alloc (.cells #[.slice (some ⟨w5.heap.size, 0, none⟩) 1 1] 33) = W2 at *
  have z1 := size_of_alloc hW1
  have a1 := only_of_alloc hW1
  have a2 := only_of_alloc hW2
  have k1 : HasC (fun j => ¬ X5 j) W1 (.slice (some ⟨w5.heap.size, 0, none⟩) 1 1) [⟨[], false, []⟩] := hasC_one (key := []) hW1.symm (has_nil _) (fun h => absurd rfl h) (fun e => by have := (unhide HX5 _ e).2; omega)
  have n3 := new_of_alloc hW2
  rw [z1] at n3
  have k3 : HasCC (fun j => ¬ X5 j) W2 (.slice (some ⟨w5.heap.size + 1, 0, none⟩) 1 1) [[⟨[], false, []⟩]] := hasCC_lit [_] _ n3 ⟨k1.same a2, trivial⟩ (fun e => by have := (unhide HX5 _ e).2; omega) (by simp)
  have HCO := hide (stt_commit ((unhide HS5).same (a1.trans a2 (fun _ _ e => e))) _ _ k3 (by decide) (by have := q_ok.2.2.1; simp; omega) ⟨by have := q_ok.1.1; show q1.2.s.d.works + 1 * 3000 ≤ _; omega, q_ok.1.2⟩)
  clear hW1 hW2 z1 a1 a2 k1 n3 k3
  refine (unhide HCO).mono ?_
  rintro e w6 ⟨rfl, hw6⟩
  have f1 : keepEachS apL reL [[⟨[], false, []⟩]] q1.2.s q1.2.P q1.2.u = q2 := rfl
  rw [f1] at hw6 ⊢
  rw [q_facts.2.2.1, q_facts.2.2.2.1]
  obtain ⟨X6, h6, _⟩ := hw6.now
  have HS6 := hide h6
  have HX6 := hide h6.lt
  clear hw6 h6 f1 HCO HS5 HX5
  go_wp2_with fail
  generalize hW1 : w6.alloc (.cells #[.string ⟨#[97]⟩, .bool false, .slice none 0 0] 32) = W1 at *
  generalize hW2 : W1.alloc (.cells #[.string ⟨#[99]⟩, .bool true, .slice none 0 0] 32) = W2 at *
  generalize hW3 : W2.alloc (.cells #[.string ⟨#[100]⟩, .bool true, .slice none 0 0] 32) = W3 at *
  generalize hW4 : W3.alloc (.cells #[.slice (some ⟨w6.heap.size, 0, none⟩) 1 1, .slice (some ⟨w6.heap.size + 1, 0, none⟩) 1 1, .slice (some ⟨w6.heap.size + 1 + 1, 0, none⟩) 1 1] 33) = W4 at *
  have z1 := size_of_alloc hW1
  have z2 := size_of_alloc hW2
  have z3 := size_of_alloc hW3
  have a1 := only_of_alloc hW1
  have a2 := only_of_alloc hW2
  have a3 := only_of_alloc hW3
  have a4 := only_of_alloc hW4
  have k1 : HasC (fun j => ¬ X6 j) W1 (.slice (some ⟨w6.heap.size, 0, none⟩) 1 1) [⟨[97], false, []⟩] := hasC_one (key := [97]) hW1.symm (has_nil _) (fun h => absurd rfl h) (fun e => by have := (unhide HX6 _ e).2; omega)
  have k2 : HasC (fun j => ¬ X6 j) W2 (.slice (some ⟨W1.heap.size, 0, none⟩) 1 1) [⟨[99], true, []⟩] := hasC_one (key := [99]) hW2.symm (has_nil _) (fun h => absurd rfl h) (fun e => by have := (unhide HX6 _ e).2; omega)
  have k3 : HasC (fun j => ¬ X6 j) W3 (.slice (some ⟨W2.heap.size, 0, none⟩) 1 1) [⟨[100], true, []⟩] := hasC_one (key := [100]) hW3.symm (has_nil _) (fun h => absurd rfl h) (fun e => by have := (unhide HX6 _ e).2; omega)
  rw [z1] at k2
  rw [z2, z1] at k3
  have n3 := new_of_alloc hW4
  rw [z3, z2, z1] at n3
  have k4 : HasCC (fun j => ¬ X6 j) W4 (.slice (some ⟨w6.heap.size + 1 + 1 + 1, 0, none⟩) 3 3) [[⟨[97], false, []⟩], [⟨[99], true, []⟩], [⟨[100], true, []⟩]] := hasCC_lit [_, _, _] _ n3 ⟨((k1.same a2).same a3).same a4, (k2.same a3).same a4, k3.same a4, trivial⟩ (fun e => by have := (unhide HX6 _ e).2; omega) (by simp)
  have HCO := hide (stt_commit ((unhide HS6).same (((a1.trans a2 (fun _ _ e => e)).trans a3 (fun _ _ e => e)).trans a4 (fun _ _ e => e))) _ _ k4 (by decide) (by have := q_ok.2.2.2; simp; omega) ⟨by have := q_ok.2.1.1; show q2.2.s.d.works + 3 * 3000 ≤ _; omega, q_ok.2.1.2⟩)
  clear hW1 hW2 hW3 hW4 z1 z2 z3 a1 a2 a3 a4 k1 k2 k3 k4 n3
  refine (unhide HCO).mono ?_
  rintro e w7 ⟨rfl, hw7⟩
  have f1 : keepEachS apL reL [[⟨[97], false, []⟩], [⟨[99], true, []⟩], [⟨[100], true, []⟩]] q2.2.s q2.2.P q2.2.u = q3 := rfl
  rw [f1] at hw7 ⊢
  rw [q_facts.2.2.2.2.1, q_facts.2.2.2.2.2]
  obtain ⟨X7, h7, _⟩ := hw7.now
  rw [q_state.1, q_state.2.1] at h7
  have HS7 := hide h7
  have HKE := hide (stt_keys h7 (by decide))
  clear hw7 h7 f1 HCO HS6 HX6
  go_wp2_with fail
  refine (unhide HKE).mono ?_
  rintro e w8 ⟨kv, rfl, hkv, o8⟩
  have HKV := hide hkv
  have HS8 := hide ((unhide HS7).same o8)
  obtain ⟨g8, cap8, rfl, _, _⟩ := hkv.form (by simp)
  clear hkv o8 HKE HS7
  go_wp2_with fail
  generalize hW1 : w8.alloc (.cells #[.int .u8 120] 5 (1, 2)) = W1 at *
  generalize hW2 : W1.alloc (.cells #[.string ⟨#[97]⟩, .bool false, .slice (some ⟨w8.heap.size, 0, none⟩) 1 1] 32) = W2 at *
  have z1 := size_of_alloc hW1
  have a1 := only_of_alloc hW1
  have a2 := only_of_alloc hW2
  have k1 : Has W1 (.slice (some ⟨w8.heap.size, 0, none⟩) 1 1) [120] := has_lit (bs := [120]) (new_of_alloc hW1) (by decide)
  have k2 : HasC (fun _ => True) W2 (.slice (some ⟨W1.heap.size, 0, none⟩) 1 1) [⟨[97], false, [120]⟩] := hasC_one (key := [97]) hW2.symm k1 (fun _ _ _ => trivial) trivial
  rw [z1] at k2
  have HLC := hide (layChanges_any _ _ W2 k2 (by decide))
  rw [q_lay.1] at HLC
  have HO2 := hide (a1.trans a2 (fun _ _ e => e))
  clear hW1 hW2 z1 a1 a2 k1 k2
  refine (unhide HLC).mono ?_
  rintro e w9 ⟨hla, o9⟩
  obtain rfl : e = .returned (.tuple #[.slice none 0 0, .int .i64 1]) := hla
  have HO9 := hide ((unhide HO2).trans o9 (fun _ _ e => e))
  clear o9 HO2 HLC
  go_wp2_with fail
  generalize hW1 : w9.alloc (.cells #[.int .u8 0] 5) = W1 at *
  have a1 := only_of_alloc hW1
  have k1 : Has W1 (.slice (some ⟨w9.heap.size, 0, none⟩) 1 1) [0] := has_lit (bs := [0]) (new_of_alloc hW1) (by decide)
  have HRC := hide (readChanges_any _ [0] W1 k1 (by decide))
  rw [q_lay.2] at HRC
  have HO10 := hide ((unhide HO9).trans a1 (fun _ _ e => e))
  clear hW1 a1 k1
  refine (unhide HRC).mono ?_
  rintro e wa ⟨hra, oa⟩
  obtain rfl : e = .returned (.tuple #[.slice none 0 0, .int .i64 5]) := hra
  have HOA := hide ((unhide HO10).trans oa (fun _ _ e => e))
  clear oa HO10 HRC HO9
  have HSA := hide ((unhide HS8).same (unhide HOA))
  have hk := (unhide HOA).owns (unhide HKV) (fun _ _ e => e)
  have d0 := hk.cellAt 0 (by simp)
  have d1 := hk.cellAt 1 (by simp)
  simp only [keys, List.map_cons, List.map_nil, List.getElem?_cons_zero, List.getElem?_cons_succ] at d0 d1
  clear hk HKV HS8
  have HUN := hide (stt_units (unhide HSA))
  have HDE := hide (stt_dead (unhide HSA))
  rw [q_state.2.2] at HDE
  go_wp2_with fail
  refine (unhide HUN).mono ?_
  rintro e wb ⟨rfl, hwb⟩
  subst hwb
  go_wp2_with fail
  refine (unhide HDE).mono ?_
  rintro e wc ⟨rfl, hwc⟩
  subst hwc
  go_wp2
  go_ret
  exact ⟨rfl, (unhide HSA).only⟩
end St
end Go.Proofs.Ytmcobkcnpnfobaa
