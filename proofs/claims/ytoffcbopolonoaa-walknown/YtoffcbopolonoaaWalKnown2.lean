/-
  locksmithlaw4's WalKnown.
-/
import Derived.Test.YtoffcbopolonoaaWalKnown
import Derived.Lib.SlBytesConst
namespace Go.Proofs.Ytoffcbopolonoaa
open Go.RowKit
set_option linter.unusedSimpArgs false
set_option linter.unusedVariables false
namespace Wal

section
variable {w0 w w' : World} {F : Nat → Prop} {B L : Nat} {d : Dk} {l : Lg}

theorem Logs.newU (h : Logs w0 w F B L d l) {v : Value} {us : List (List UInt8)} (hv : HasU (fun j => w.heap.size ≤ j) w' v us) : HasU (fun j => ¬ F j ∧ j ≠ L) w' v us :=
  hv.mono (fun k _ hk => ⟨fun e => by have := h.dk.lt k e; omega, by have := h.lt; omega⟩)
theorem Logs.new1 (h : Logs w0 w F B L d l) {v : Value} {u : List UInt8} (hv : ∀ j, blk v = some j → w.heap.size ≤ j) : u ≠ [] → ∀ j, blk v = some j → ¬ F j ∧ j ≠ L :=
  fun _ k hk => by have := hv k hk; exact ⟨fun e => by have := h.dk.lt k e; omega, by have := h.lt; omega⟩
end

def kr1 : Res := append lg0 (Dk.new 8) [[97, 98], [99]]
def kr2 : Res := append kr1.lg kr1.dk [List.replicate 60 0]
def kr3 : Res := reset kr2.lg kr2.dk (List.replicate 200 0)
def kr4 : Res := reset kr3.lg kr3.dk [122]

theorem kr_e : kr1.e = 0 ∧ kr2.e = 2 ∧ kr3.e = 2 ∧ kr4.e = 0 := by decide +kernel
theorem kr_h3 : kr3.lg.hd.epoch = 1 ∧ kr3.lg.hd.area = 0 ∧ kr3.lg.hd.used = 2 := by decide +kernel
theorem kr_h4 : kr4.lg.hd.epoch = 2 ∧ kr4.lg.hd.area = 1 ∧ kr4.lg.hd.used = 1 := by decide +kernel
theorem kr_w : kr1.dk.works ≤ 10 ∧ kr2.dk.works ≤ 10 ∧ kr3.dk.works ≤ 10 ∧ kr4.dk.works ≤ 10 ∧ kr4.dk.down = false := by decide +kernel
theorem kr_u : unitsOf kr4.dk (found kr4.dk).1 = some [[122]] := by decide +kernel

theorem hasU_lit2 {w : World} {g : Nat} {a b : Value} {u v : List UInt8} {P : Nat → Prop} {t : TypeId} {fr : Nat × Nat} (h : w.heap[g]? = some (.cells #[a, b] t fr)) (ha : Has w a u) (hb : Has w b v) (pa : ∀ k, blk a = some k → P k) (pb : ∀ k, blk b = some k → P k) (pg : P g) : HasU P w (.slice (some ⟨g, 0, none⟩) 2 2) [u, v] :=
  ⟨[a, b], hasV_lit (vs := [a, b]) h (by simp [maxLen]), ⟨ha, fun _ => pa, hb, fun _ => pb, trivial⟩, fun _ k hk => by simp only [blk, Option.map_some, Option.some.injEq] at hk; subst hk; exact pg⟩
theorem hasU_lit1 {w : World} {g : Nat} {a : Value} {u : List UInt8} {P : Nat → Prop} {t : TypeId} {fr : Nat × Nat} (h : w.heap[g]? = some (.cells #[a] t fr)) (ha : Has w a u) (pa : ∀ k, blk a = some k → P k) (pg : P g) : HasU P w (.slice (some ⟨g, 0, none⟩) 1 1) [u] :=
  ⟨[a], hasV_lit (vs := [a]) h (by simp [maxLen]), ⟨ha, fun _ => pa, trivial⟩, fun _ k hk => by simp only [blk, Option.map_some, Option.some.injEq] at hk; subst hk; exact pg⟩

/-- a slice that was laid since w -/
theorem lit_has {w W : World} {bs : List UInt8} {fr : Nat × Nat} (ho : Only (fun _ => False) w W) (W' : World) (hW : W' = W.alloc (.cells (bs.map bv).toArray 5 fr)) (hm : bs.length ≤ 1000) : Has W' (.slice (some ⟨W.heap.size, 0, none⟩) bs.length bs.length) bs := by
  subst hW
  exact has_lit (heap_alloc_new _ _) (by unfold maxLen; omega)

set_option maxHeartbeats 2000000 in
set_option maxRecDepth 100000 in
theorem walKnown_any (w : World) : Calls Try.prog 3 #[] w fun e w' => e = .returned (.bool true) ∧ Only (fun _ => False) w w' := by
  have kc := fun (w : World) (C : Array Value) (n c : Nat) => Lib.run_convert_bytes_const (P := Try.prog) w 32 5 C n c Try.underlying32 Try.underlying5
  have kc2 := fun (w : World) (X : Obj) (C : Array Value) (n c : Nat) => kc (w.alloc X) C n c
  simp only [World.size_alloc] at kc2
  obtain ⟨Z1, hZ1, hZe1⟩ := make_null 60 (by decide)
  obtain ⟨Z2, hZ2, hZe2⟩ := make_null 200 (by decide)
  have HZ1 := hide hZe1
  have HZ2 := hide hZe2
  have hz1 : ∀ w : World, (Instr.makeSlice 32 (.int .i64 60) (.int .i64 60)).run Try.prog w = .ok (.slice (some ⟨w.heap.size, 0, none⟩) 60 60) (w.alloc (.cells Z1 5)) := hZ1
  have hz2 : ∀ w : World, (Instr.makeSlice 32 (.int .i64 200) (.int .i64 200)).run Try.prog w = .ok (.slice (some ⟨w.heap.size, 0, none⟩) 200 200) (w.alloc (.cells Z2 5)) := hZ2
  clear hZ1 hZ2 hZe1 hZe2
  go_enter Try.func3, Try.ntmps3
  go_wp2_with fail
  refine (open_nil w).mono ?_
  rintro e w ⟨rfl, rfl⟩
  go_wp2_with fail
  refine (dks_new 8 (by decide) (by decide) w w (Only.refl _ _)).mono ?_
  rintro e w1 ⟨B, F, rfl, hd, hF, o1⟩
  have HOP := hide (open_new 8 (by decide) hd)
  clear hd o1
  go_wp2_with fail
  refine (unhide HOP).mono ?_
  rintro e w2 ⟨L, ao, cap, rfl, hl, hL, o2⟩
  have HL := hide hl
  clear hl o2 HOP
  go_wp2_with fail
  refine (known_any w2).mono ?_
  rintro e w3 ⟨rfl, o3⟩
  have HL3 := hide ((unhide HL).same o3)
  clear HL o3
  have HAP : Hid (∀ (W1 W2 W3 : World), W1 = w3.alloc (.cells #[.int .u8 97, .int .u8 98] 5 (2, 3)) → W2 = W1.alloc (.cells #[.int .u8 99] 5 (1, 2)) → W3 = W2.alloc (.cells #[.slice (some ⟨w3.heap.size, 0, none⟩) 2 2, .slice (some ⟨w3.heap.size + 1, 0, none⟩) 1 1] 32) →
      Calls Try.prog 11 #[.pointer (some ⟨L, 0, none⟩), .slice (some ⟨w3.heap.size + 1 + 1, 0, none⟩) 2 2] W3 fun e w' => e = .returned (.int .i64 0) ∧ ∃ F', Logs w w' F' B L kr1.dk kr1.lg) := by
    intro W1 W2 W3 h1 h2 h3
    have o1 : Only (fun _ => False) w3 W1 := by rw [h1]; exact (Only.refl _ _).alloc _
    have o2 : Only (fun _ => False) W1 W2 := by rw [h2]; exact (Only.refl _ _).alloc _
    have o3 : Only (fun _ => False) W2 W3 := by rw [h3]; exact (Only.refl _ _).alloc _
    have z1 : W1.heap.size = w3.heap.size + 1 := by rw [h1]; simp
    have z2 : W2.heap.size = w3.heap.size + 1 + 1 := by rw [h2]; simp [z1]
    have k1 : Has W1 (.slice (some ⟨w3.heap.size, 0, none⟩) 2 2) [97, 98] := lit_has (bs := [97, 98]) (Only.refl _ w3) W1 h1 (by decide)
    have k2 := lit_has (bs := [99]) (Only.refl _ W1) W2 h2 (by decide)
    rw [z1] at k2
    have hb : W3.heap[W2.heap.size]? = some (.cells #[.slice (some ⟨w3.heap.size, 0, none⟩) 2 2, .slice (some ⟨w3.heap.size + 1, 0, none⟩) 1 1] 32) := by rw [h3]; exact heap_alloc_new _ _
    rw [z2] at hb
    have hU : HasU (fun j => w3.heap.size ≤ j) W3 (.slice (some ⟨w3.heap.size + 1 + 1, 0, none⟩) 2 2) [[97, 98], [99]] :=
      hasU_lit2 hb ((k1.only o2 (fun _ _ _ h => h)).only o3 (fun _ _ _ h => h)) (k2.only o3 (fun _ _ _ h => h)) (fun k hk => by simp only [blk, Option.map_some, Option.some.injEq] at hk; omega) (fun k hk => by simp only [blk, Option.map_some, Option.some.injEq] at hk; omega) (by omega)
    have hl := (unhide HL3).same ((o1.trans o2 (fun _ _ e => e)).trans o3 (fun _ _ e => e))
    refine (append_any hl _ _ ((unhide HL3).newU hU) (by decide +kernel) (by simp [Dk.new])).mono ?_
    rintro e w' ⟨rfl, F', hw⟩
    exact ⟨by rw [← kr_e.1]; rfl, F', hw.lg⟩
  go_wp2_with fail
  refine (unhide HAP _ _ _ rfl rfl rfl).mono ?_
  rintro e w4 ⟨rfl, F4, hl4⟩
  have HL4 := hide hl4
  clear hl4 HAP HL3
  have HAP2 : Hid (∀ (W1 W2 : World), W1 = w4.alloc (.cells Z1 5) → W2 = W1.alloc (.cells #[.slice (some ⟨w4.heap.size, 0, none⟩) 60 60] 32) →
      Calls Try.prog 11 #[.pointer (some ⟨L, 0, none⟩), .slice (some ⟨w4.heap.size + 1, 0, none⟩) 1 1] W2 fun e w' => e = .returned (.int .i64 2) ∧ ∃ F', Logs w w' F' B L kr2.dk kr2.lg) := by
    intro W1 W2 h1 h2
    have o1 : Only (fun _ => False) w4 W1 := by rw [h1]; exact (Only.refl _ _).alloc _
    have o2 : Only (fun _ => False) W1 W2 := by rw [h2]; exact (Only.refl _ _).alloc _
    have z1 : W1.heap.size = w4.heap.size + 1 := by rw [h1]; simp
    have k1 : Has W1 (.slice (some ⟨w4.heap.size, 0, none⟩) 60 60) (List.replicate 60 0) := by rw [h1]; exact has_row (heap_alloc_new _ _) (unhide HZ1) (by simp) (by unfold maxLen; omega)
    have hb : W2.heap[W1.heap.size]? = some (.cells #[.slice (some ⟨w4.heap.size, 0, none⟩) 60 60] 32) := by rw [h2]; exact heap_alloc_new _ _
    rw [z1] at hb
    have hU : HasU (fun j => w4.heap.size ≤ j) W2 (.slice (some ⟨w4.heap.size + 1, 0, none⟩) 1 1) [List.replicate 60 0] :=
      hasU_lit1 hb (k1.only o2 (fun _ _ _ h => h)) (fun k hk => by simp only [blk, Option.map_some, Option.some.injEq] at hk; omega) (by omega)
    have hl := (unhide HL4).same (o1.trans o2 (fun _ _ e => e))
    refine (append_any hl _ _ ((unhide HL4).newU hU) (by decide +kernel) (by have := kr_w.1; omega)).mono ?_
    rintro e w' ⟨rfl, F', hw⟩
    exact ⟨by rw [← kr_e.2.1]; rfl, F', hw.lg⟩
  go_wp2_with fail
  refine (unhide HAP2 _ _ rfl rfl).mono ?_
  rintro e w5 ⟨rfl, F5, hl5⟩
  have HL5 := hide hl5
  clear hl5 HAP2 HL4
  have HRS : Hid (∀ (W1 : World), W1 = w5.alloc (.cells Z2 5) →
      Calls Try.prog 12 #[.pointer (some ⟨L, 0, none⟩), .slice (some ⟨w5.heap.size, 0, none⟩) 200 200] W1 fun e w' => e = .returned (.int .i64 2) ∧ ∃ F', Logs w w' F' B L kr3.dk kr3.lg) := by
    intro W1 h1
    have o1 : Only (fun _ => False) w5 W1 := by rw [h1]; exact (Only.refl _ _).alloc _
    have k1 : Has W1 (.slice (some ⟨w5.heap.size, 0, none⟩) 200 200) (List.replicate 200 0) := by rw [h1]; exact has_row (heap_alloc_new _ _) (unhide HZ2) (by simp) (by unfold maxLen; omega)
    refine (reset_any ((unhide HL5).same o1) _ _ k1 ((unhide HL5).new1 (fun k hk => by simp only [blk, Option.map_some, Option.some.injEq] at hk; omega)) (by simp) (by have := kr_w.2.1; omega)).mono ?_
    rintro e w' ⟨rfl, F', hw⟩
    exact ⟨by rw [← kr_e.2.2.1]; rfl, F', hw.lg⟩
  go_wp2_with fail
  refine (unhide HRS _ rfl).mono ?_
  rintro e w6 ⟨rfl, F6, hl6⟩
  have HL6 := hide hl6
  clear hl6 HRS HL5
  have HHD := hide (head_any (unhide HL6))
  unfold hv at HHD
  rw [kr_h3.1, kr_h3.2.1, kr_h3.2.2] at HHD
  go_wp2_with fail
  refine (unhide HHD).mono ?_
  rintro e w7 ⟨rfl, o7⟩
  have HL7 := hide ((unhide HL6).same o7)
  clear HL6 HHD o7
  have HRS : Hid (∀ (W1 W2 : World), W1 = w7.alloc (.cells #[.int .u64 1, .int .i64 0, .int .i64 2] 36) → W2 = W1.alloc (.cells #[.int .u8 122] 5 (1, 2)) →
      Calls Try.prog 12 #[.pointer (some ⟨L, 0, none⟩), .slice (some ⟨w7.heap.size + 1, 0, none⟩) 1 1] W2 fun e w' => e = .returned (.int .i64 0) ∧ w'.heap[w7.heap.size]? = some (.cells #[.int .u64 1, .int .i64 0, .int .i64 2] 36) ∧ ∃ F', Logs w w' F' B L kr4.dk kr4.lg) := by
    intro W1 W2 h1 h2
    have o1 : Only (fun _ => False) w7 W1 := by rw [h1]; exact (Only.refl _ _).alloc _
    have o2 : Only (fun _ => False) W1 W2 := by rw [h2]; exact (Only.refl _ _).alloc _
    have z1 : W1.heap.size = w7.heap.size + 1 := by rw [h1]; simp
    have hb : W1.heap[w7.heap.size]? = some (.cells #[.int .u64 1, .int .i64 0, .int .i64 2] 36) := by rw [h1]; exact heap_alloc_new _ _
    have k1 := lit_has (bs := [122]) (Only.refl _ W1) W2 h2 (by decide)
    rw [z1] at k1
    refine (reset_any ((unhide HL7).same (o1.trans o2 (fun _ _ e => e))) _ _ k1 ((unhide HL7).new1 (fun k hk => by simp only [blk, Option.map_some, Option.some.injEq] at hk; omega)) (by simp) (by have := kr_w.2.2.1; omega)).mono ?_
    rintro e w' ⟨rfl, F', hw⟩
    refine ⟨by rw [← kr_e.2.2.2]; rfl, hw.only.heap (o2.heap hb (fun h => h)) (fun e => ?_), F', hw.lg⟩
    rcases e with e | e
    · have := (unhide HL7).dk.lt _ e; omega
    · have := (unhide HL7).lt; omega
  go_wp2_with fail
  refine (unhide HRS _ _ rfl rfl).mono ?_
  rintro e w8 ⟨rfl, hb8, F8, hl8⟩
  have HL8 := hide hl8
  have HOP := hide (open_any hl8.dk (by have := kr_w.2.2.2.1; omega) kr_w.2.2.2.2)
  rw [kr_u] at HOP
  have HB8 := hide hb8
  clear hl8 HRS HL7 hb8
  go_wp2_with fail
  refine (unhide HOP).mono ?_
  rintro e w9 ⟨⟨L9, v9, rfl, hv9, _, _⟩, o9⟩
  have HL9 := hide ((unhide HL8).same o9)
  obtain ⟨c0, c1, c2, cf⟩ := cells_three (o9.heap (unhide HB8) (fun h => h))
  obtain ⟨ao9, cap9, rfl, _⟩ := hv9.hasU.shape
  obtain ⟨bb, off, x9, hao, hcx, hx9, _⟩ := hv9.hasU.at 0 (by simp)
  subst hao
  have hx9' : Has w9 x9 [122] := hx9
  have HCV := hide (fun (w' : World) (o : Only (fun _ => False) w9 w') => str_conv (hx9'.only o (fun _ _ _ h => h)))
  have hcv := str_conv hx9'
  have hl1 : ([[122]] : List (List UInt8)).length = 1 := rfl
  rw [hl1]
  have hs1 : str [122] = ⟨#[122]⟩ := by decide +kernel
  rw [hs1] at hcv
  have HHD := hide (head_any (unhide HL9))
  unfold hv at HHD
  rw [kr_h4.1, kr_h4.2.1, kr_h4.2.2] at HHD
  clear hv9 hx9 hx9' HOP HL8 hl1 hs1 HCV
  rw [Nat.add_zero] at hcx
  go_wp2_with fail
  refine (unhide HHD).mono ?_
  rintro e w10 ⟨rfl, o10⟩
  have HLY : Hid (∀ (W1 : World), W1 = w10.alloc (.cells #[.int .u8 97, .int .u8 98] 5 (2, 3)) → Calls Try.prog 14 #[.slice (some ⟨w10.heap.size, 0, none⟩) 2 2] W1 fun e w' => ∃ ao cap, e = .returned (.slice ao 64 cap) ∧ Only (fun _ => False) w w') := by
    intro W1 h1
    have k1 := lit_has (bs := [97, 98]) (Only.refl _ w10) W1 h1 (by decide)
    refine (lay_any _ _ W1 k1 (by decide)).mono ?_
    rintro e w' ⟨u, rfl, hu, ho⟩
    obtain ⟨ao, cap, rfl, _⟩ := (Has.ofOwns hu.out).shape
    refine ⟨ao, cap, by rw [lay_length]; rfl, ?_⟩
    have oW : Only (fun _ => False) w10 W1 := by rw [h1]; exact (Only.refl _ _).alloc _
    exact (((unhide HL9).dk.only.trans o10 (fun _ _ e => e)).trans oW (fun _ _ e => e)).trans ho (fun _ _ e => e)
  go_wp2_with fail
  refine (unhide HLY _ rfl).mono ?_
  rintro e w11 ⟨ao11, cap11, rfl, o11⟩
  go_wp2
  go_ret
  exact ⟨rfl, o11⟩

end Wal
end Go.Proofs.Ytoffcbopolonoaa
