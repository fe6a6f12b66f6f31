/-
  The state's calls: added, each, shifted, unshifted.
-/
import Derived.Test.YtdmcnblnoiahcaaAeSt
import Derived.Test.YtdmcnblnoiahcaaAeF
import Derived.Deep.DeepCutAuto
namespace Go.Proofs.Ytdmcnblnoiahcaa
open Go.RowKit
set_option linter.unusedSimpArgs false
set_option linter.unusedVariables false
namespace Ae

theorem Try.sizeState : (Try.prog.info? 64).map (·.size) = some 16 := by kernel_rfl
theorem Try.size16 : (Try.prog.info? 36).map (·.size) = some 16 := by kernel_rfl
theorem Try.size4 : (Try.prog.info? 86).map (·.size) = some 4 := by kernel_rfl
theorem Try.underSt : Try.prog.underlying 64 = some (.array 16 5) := by kernel_rfl
theorem Try.under16 : Try.prog.underlying 36 = some (.array 16 5) := by kernel_rfl
theorem Try.under4 : Try.prog.underlying 86 = some (.array 4 5) := by kernel_rfl
theorem zeros_eq : (#[Value.int IntKind.u8 0, Value.int IntKind.u8 0, Value.int IntKind.u8 0, Value.int IntKind.u8 0, Value.int IntKind.u8 0, Value.int IntKind.u8 0, Value.int IntKind.u8 0, Value.int IntKind.u8 0, Value.int IntKind.u8 0, Value.int IntKind.u8 0, Value.int IntKind.u8 0, Value.int IntKind.u8 0, Value.int IntKind.u8 0, Value.int IntKind.u8 0, Value.int IntKind.u8 0, Value.int IntKind.u8 0] : Array Value) = (zero16.map bv).toArray := rfl

theorem index_st (t n : Nat) (s : List UInt8) (k : IntKind) (i : Nat) (hu : Try.prog.underlying t = some (.array n 5)) (hs : s.length = n) (hi : i < n) (w : World) :
    (Instr.index t (.agg (s.map bv).toArray) (.int k (i : Int))).run Try.prog w = .ok (.int .u8 ((gt s i).toNat : Int)) w := by
  refine index_arr t n (s.map bv) k i w hu hi _ ?_
  rw [List.getElem?_map, gt_some s i (by omega)]
  rfl

theorem done13 {w w3 wr : World} {b1 b3 : Nat} {vs : List Value} (o : Only (fun _ => False) w w3) (h : Only (fun j => j = b1) w3 wr) (hb : ∀ j, j < w.heap.size → j ≠ b1 ∧ j ≠ b3) : Only (fun _ => False) w (wr.setCells b3 0 vs) := by
  have q : Only (fun j => j = b1 ∨ j = b3) w3 wr := h.mono (fun _ _ e => Or.inl e)
  have q2 := Only.setCells (S := fun j => j = b1 ∨ j = b3) (a := w3) (b := b3) (fun _ => Or.inr rfl) vs wr 0 q
  exact o.trans q2 (fun j hj e => by have := hb j hj; omega)

set_option maxRecDepth 100000 in
theorem added_any (s k : List UInt8) (w : World) (hs : s.length = 16) (hk : k.length = 16) :
    Calls Try.prog 39 #[.agg (s.map bv).toArray, .agg (k.map bv).toArray] w fun e w' => e = .returned (.agg ((added s k).map bv).toArray) ∧ Only (fun _ => False) w w' := by
  have hal := added_length hs hk
  obtain ⟨w3, b1, b2, b3, e3, eb3, eb2, eb1, a1, a2, a3, o3, n12, n13, n23, hb⟩ := three w s k zero16 64 36 64
  go_enter Try.func39, Try.ntmps39
  go_upto_region 1 with fail
  rw [zeros_eq, ← e3, ← eb3, ← eb2, ← eb1]
  clear e3 eb3 eb2 eb1
  have hr := a2.range
  have A1 := hide a1
  have A3 := hide a3
  have O3 := hide o3
  have HB := hide hb
  clear a1 a3 o3 hb a2
  go_wp2_with (refine wpList_load_mid rfl 36 (.tmp 3) rfl b2 0 rfl (k.map bv) _ hr Try.under16 rfl (by rw [Try.size16]; simp [hk]) ?_)
  clear hr
  go_loopw [5, 6, 8] (fun p q i wr => ∃ n : Nat, n ≤ 16 ∧ i = .int .i64 n ∧ Arr wr b1 64 (mixd (added s k) s n) ∧ Only (fun j => j = b1) w3 wr) (fun _ _ i _ => 16 - (intOf i).toNat)
  case atStart => exact ⟨0, Nat.zero_le _, rfl, by rw [mixd_zero]; exact unhide A1, Only.refl _ _⟩
  case round =>
    obtain ⟨n, hn, rfl, har, hor⟩ := hrel
    by_cases hlt : n < 16
    · have hm := mixd_at (added s k) s 16 n hal hs hlt
      rw [gt_some s n (by omega)] at hm
      have hc := har.cell n _ hm
      have hf := har.free n
      have hw2 := har.set n (gt s n ^^^ gt k n)
      rw [mixd_set _ _ 16 n hal hs hlt _ (added_at s k n (by omega) (by omega))] at hw2
      have HW := hide hw2
      have HO := hide (hor.here n (.int .u8 ((gt s n ^^^ gt k n).toNat : Int)))
      have hx := xor_bv (gt s n) (gt k n)
      have hix := index_st 36 16 k .i64 n Try.under16 hk hlt
      clear hm har hor hw2
      generalize gt s n ^^^ gt k n = z at *
      generalize gt s n = x at *
      generalize gt k n = y at *
      have hn15 : (n : Int) < 16 := by omega
      go_wp2
      go_roundw
      case rel => exact ⟨n + 1, by omega, by go_num, unhide HW, unhide HO⟩
      case measure => simp [intOf]; omega
    · obtain rfl : n = 16 := by omega
      rw [mixd_all _ _ 16 hal hs] at har
      have hr1 := har.range
      have ht3 := (((unhide A3).only hor (fun e => n13 e.symm))).there 16 rfl
      have HA3 := hide ((unhide A3).only hor (fun e => n13 e.symm))
      have HOR := hide hor
      clear har hor
      go_wp2_with (first
        | (refine wpList_load_mid rfl 64 (.tmp 2) rfl b1 0 rfl ((added s k).map bv) _ hr1 Try.underSt rfl (by rw [Try.sizeState]; simp [hal]) ?_)
        | (refine wpList_store_mid rfl 64 (.tmp 4) (.tmp 19) rfl b3 0 ((added s k).map bv).toArray rfl rfl (by simpa [hal] using ht3) (by rw [Try.sizeState]; simp [hal]) (ag_one _) ?_))
      refine bodyPost_ret (results_cell_row rfl _ _ b3 64 _ _ _ rfl ((unhide HA3).stored _ (by rw [hal]; rfl)).out Try.underSt rfl (by rw [Try.sizeState]; simp [hal])) rfl ?_
      exact ⟨rfl, done13 (unhide O3) (unhide HOR) (fun j hj => ⟨((unhide HB) j hj).1, ((unhide HB) j hj).2.2⟩)⟩

set_option maxRecDepth 100000 in
theorem each_box (s : List UInt8) (w : World) (hs : s.length = 16) :
    Calls Try.prog 57 #[.agg (s.map bv).toArray, .func (.func 53) #[] #[]] w fun e w' => e = .returned (.agg ((s.map box).map bv).toArray) ∧ Only (fun _ => False) w w' := by
  have hal : (s.map box).length = 16 := by simp [hs]
  obtain ⟨w3, b1, b3, e3, eb3, eb1, a1, a3, o3, n13, hb⟩ := two w s zero16 64 64
  go_enter Try.func57, Try.ntmps57
  go_upto_region 1 with fail
  rw [zeros_eq, ← e3, ← eb3, ← eb1]
  clear e3 eb3 eb1
  have hr := a1.range
  have A1 := hide a1
  have A3 := hide a3
  have O3 := hide o3
  have HB := hide hb
  clear a1 a3 o3 hb
  go_wp2_with (refine wpList_load_mid rfl 64 (.tmp 2) rfl b1 0 rfl (s.map bv) _ hr Try.underSt rfl (by rw [Try.sizeState]; simp [hs]) ?_)
  clear hr
  go_loopw [5, 6, 8] (fun p q i wr => ∃ n : Nat, n ≤ 16 ∧ i = .int .i64 n ∧ Arr wr b1 64 (mixd (s.map box) s n) ∧ Only (fun j => j = b1) w3 wr) (fun _ _ i _ => 16 - (intOf i).toNat)
  case atStart => exact ⟨0, Nat.zero_le _, rfl, by rw [mixd_zero]; exact unhide A1, Only.refl _ _⟩
  case round =>
    obtain ⟨n, hn, rfl, har, hor⟩ := hrel
    by_cases hlt : n < 16
    · have hm := mixd_at (s.map box) s 16 n hal hs hlt
      rw [gt_some s n (by omega)] at hm
      have hc := har.cell n _ hm
      have hf := har.free n
      have hw2 := har.set n (box (gt s n))
      rw [mixd_set _ _ 16 n hal hs hlt _ (by rw [List.getElem?_map, gt_some s n (by omega)]; rfl)] at hw2
      have HW := hide hw2
      have HO := hide (hor.here n (.int .u8 ((box (gt s n)).toNat : Int)))
      have hcall := hide (box_any (gt s n) wr)
      have hix := index_st 64 16 s .i64 n Try.underSt hs hlt
      clear hm har hor hw2
      generalize box (gt s n) = z at *
      generalize gt s n = x at *
      have hn15 : (n : Int) < 16 := by omega
      go_wp2_with fail
      refine (unhide hcall).mono ?_
      rintro e wx ⟨rfl, rfl⟩
      go_wp2
      go_roundw
      case rel => exact ⟨n + 1, by omega, by go_num, unhide HW, unhide HO⟩
      case measure => simp [intOf]; omega
    · obtain rfl : n = 16 := by omega
      rw [mixd_all _ _ 16 hal hs] at har
      have hr1 := har.range
      have ht3 := (((unhide A3).only hor (fun e => n13 e.symm))).there 16 rfl
      have HA3 := hide ((unhide A3).only hor (fun e => n13 e.symm))
      have HOR := hide hor
      clear har hor
      have HL : Hid ((s.map box).length = 16) := hal
      generalize hl : s.map box = l at *
      have HLE := hide hl
      clear hl
      go_wp2_with (first
        | (refine wpList_load_mid rfl 64 (.tmp 2) rfl b1 0 rfl (l.map bv) _ hr1 Try.underSt rfl (by rw [Try.sizeState]; simp [hal]) ?_)
        | (refine wpList_store_mid rfl 64 (.tmp 4) (.tmp 18) rfl b3 0 (l.map bv).toArray rfl rfl (by simpa [hal] using ht3) (by rw [Try.sizeState]; simp [hal]) (ag_one _) ?_))
      refine bodyPost_ret (results_cell_row rfl _ _ b3 64 _ _ _ rfl ((unhide HA3).stored _ (by rw [hal]; rfl)).out Try.underSt rfl (by rw [Try.sizeState]; simp [hal])) rfl ?_
      exact ⟨by rw [← unhide HLE], done13 (unhide O3) (unhide HOR) (unhide HB)⟩

set_option maxRecDepth 100000 in
theorem each_unbox (s : List UInt8) (w : World) (hs : s.length = 16) :
    Calls Try.prog 57 #[.agg (s.map bv).toArray, .func (.func 66) #[] #[]] w fun e w' => e = .returned (.agg ((s.map unbox).map bv).toArray) ∧ Only (fun _ => False) w w' := by
  have hal : (s.map unbox).length = 16 := by simp [hs]
  obtain ⟨w3, b1, b3, e3, eb3, eb1, a1, a3, o3, n13, hb⟩ := two w s zero16 64 64
  go_enter Try.func57, Try.ntmps57
  go_upto_region 1 with fail
  rw [zeros_eq, ← e3, ← eb3, ← eb1]
  clear e3 eb3 eb1
  have hr := a1.range
  have A1 := hide a1
  have A3 := hide a3
  have O3 := hide o3
  have HB := hide hb
  clear a1 a3 o3 hb
  go_wp2_with (refine wpList_load_mid rfl 64 (.tmp 2) rfl b1 0 rfl (s.map bv) _ hr Try.underSt rfl (by rw [Try.sizeState]; simp [hs]) ?_)
  clear hr
  go_loopw [5, 6, 8] (fun p q i wr => ∃ n : Nat, n ≤ 16 ∧ i = .int .i64 n ∧ Arr wr b1 64 (mixd (s.map unbox) s n) ∧ Only (fun j => j = b1) w3 wr) (fun _ _ i _ => 16 - (intOf i).toNat)
  case atStart => exact ⟨0, Nat.zero_le _, rfl, by rw [mixd_zero]; exact unhide A1, Only.refl _ _⟩
  case round =>
    obtain ⟨n, hn, rfl, har, hor⟩ := hrel
    by_cases hlt : n < 16
    · have hm := mixd_at (s.map unbox) s 16 n hal hs hlt
      rw [gt_some s n (by omega)] at hm
      have hc := har.cell n _ hm
      have hf := har.free n
      have hw2 := har.set n (unbox (gt s n))
      rw [mixd_set _ _ 16 n hal hs hlt _ (by rw [List.getElem?_map, gt_some s n (by omega)]; rfl)] at hw2
      have HW := hide hw2
      have HO := hide (hor.here n (.int .u8 ((unbox (gt s n)).toNat : Int)))
      have hcall := hide (unbox_any (gt s n) wr)
      have hix := index_st 64 16 s .i64 n Try.underSt hs hlt
      clear hm har hor hw2
      generalize unbox (gt s n) = z at *
      generalize gt s n = x at *
      have hn15 : (n : Int) < 16 := by omega
      go_wp2_with fail
      refine (unhide hcall).mono ?_
      rintro e wx ⟨rfl, rfl⟩
      go_wp2
      go_roundw
      case rel => exact ⟨n + 1, by omega, by go_num, unhide HW, unhide HO⟩
      case measure => simp [intOf]; omega
    · obtain rfl : n = 16 := by omega
      rw [mixd_all _ _ 16 hal hs] at har
      have hr1 := har.range
      have ht3 := (((unhide A3).only hor (fun e => n13 e.symm))).there 16 rfl
      have HA3 := hide ((unhide A3).only hor (fun e => n13 e.symm))
      have HOR := hide hor
      clear har hor
      have HL : Hid ((s.map unbox).length = 16) := hal
      generalize hl : s.map unbox = l at *
      have HLE := hide hl
      clear hl
      go_wp2_with (first
        | (refine wpList_load_mid rfl 64 (.tmp 2) rfl b1 0 rfl (l.map bv) _ hr1 Try.underSt rfl (by rw [Try.sizeState]; simp [hal]) ?_)
        | (refine wpList_store_mid rfl 64 (.tmp 4) (.tmp 18) rfl b3 0 (l.map bv).toArray rfl rfl (by simpa [hal] using ht3) (by rw [Try.sizeState]; simp [hal]) (ag_one _) ?_))
      refine bodyPost_ret (results_cell_row rfl _ _ b3 64 _ _ _ rfl ((unhide HA3).stored _ (by rw [hal]; rfl)).out Try.underSt rfl (by rw [Try.sizeState]; simp [hal])) rfl ?_
      exact ⟨by rw [← unhide HLE], done13 (unhide O3) (unhide HOR) (unhide HB)⟩

set_option maxRecDepth 100000 in
theorem shifted_any (s : List UInt8) (w : World) (hs : s.length = 16) :
    Calls Try.prog 58 #[.agg (s.map bv).toArray] w fun e w' => e = .returned (.agg ((shifted s).map bv).toArray) ∧ Only (fun _ => False) w w' := by
  have hal := shifted_length s
  obtain ⟨w3, b1, b2, b3, e3, eb3, eb2, eb1, a1, a2, a3, o3, n12, n13, n23, hb⟩ := three w s zero16 zero16 64 64 64
  go_enter Try.func58, Try.ntmps58
  go_upto_region 2 with fail
  rw [zeros_eq, ← e3, ← eb3, ← eb2, ← eb1]
  clear e3 eb3 eb2 eb1
  have A1 := hide a1
  have A2 := hide a2
  have A3 := hide a3
  have O3 := hide o3
  have HB := hide hb
  clear a1 a3 o3 hb a2
  go_wp2
  go_loopw [4, 5] (fun p i wr => ∃ n : Nat, n ≤ 16 ∧ i = .int .i64 n ∧ Arr wr b3 64 (mixd (shifted s) zero16 n) ∧ Only (fun j => j = b3) w3 wr) (fun _ i _ => 16 - (intOf i).toNat)
  case atStart => exact ⟨0, Nat.zero_le _, rfl, by rw [mixd_zero]; exact unhide A3, Only.refl _ _⟩
  case round =>
    obtain ⟨n, hn, rfl, har, hor⟩ := hrel
    by_cases hlt : n < 16
    · obtain ⟨m, hm⟩ : ∃ m, m = 5 * n % 16 := ⟨_, rfl⟩
      have hm16 : m < 16 := by omega
      have hix : ((5 : Int) * (n : Int)).tmod 16 = (m : Int) := by
        rw [Int.tmod_eq_emod_of_nonneg (by omega)]; omega
      have hc1 := ((unhide A1).only hor n13).cell m _ (gt_some s m (by omega))
      have hz3 := har.cell n (gt zero16 n) (by rw [mixd_at _ _ 16 n hal rfl hlt]; exact gt_some zero16 n hlt)
      have hf := har.free n
      have hw2 := har.set n (gt s m)
      rw [mixd_set _ _ 16 n hal rfl hlt _ (by rw [hm]; exact range_at (fun i => gt s (5 * i % 16)) 16 n hlt)] at hw2
      have HW := hide hw2
      have HO := hide (hor.here n (.int .u8 ((gt s m).toNat : Int)))
      clear har hor hw2 hm
      generalize gt s m = x at *
      have hn15 : (n : Int) < 16 := by omega
      have hm15 : (m : Int) < 16 := by omega
      go_wp2
      go_roundw
      case rel => exact ⟨n + 1, by omega, by go_num, unhide HW, unhide HO⟩
      case measure => simp [intOf]; omega
    · obtain rfl : n = 16 := by omega
      rw [mixd_all _ _ 16 hal rfl] at har
      have hr1 := har.range
      have ht3 := ((unhide A2).only hor n23).there 16 rfl
      have HA3 := hide ((unhide A2).only hor n23)
      have HOR := hide hor
      clear har hor
      generalize hl : shifted s = l at *
      have HLE := hide hl
      clear hl
      go_wp2_with (first
        | (refine wpList_load_mid rfl 64 (.tmp 3) rfl b3 0 rfl (l.map bv) _ hr1 Try.underSt rfl (by rw [Try.sizeState]; simp [hal]) ?_)
        | (refine wpList_store_mid rfl 64 (.tmp 2) (.tmp 16) rfl b2 0 (l.map bv).toArray rfl rfl (by simpa [hal] using ht3) (by rw [Try.sizeState]; simp [hal]) (ag_one _) ?_))
      refine bodyPost_ret (results_cell_row rfl _ _ b2 64 _ _ _ rfl ((unhide HA3).stored _ (by rw [hal]; rfl)).out Try.underSt rfl (by rw [Try.sizeState]; simp [hal])) rfl ?_
      exact ⟨by rw [← unhide HLE], done13 (unhide O3) (unhide HOR) (fun j hj => ⟨((unhide HB) j hj).2.2, ((unhide HB) j hj).2.1⟩)⟩

set_option maxRecDepth 100000 in
theorem unshifted_any (s : List UInt8) (w : World) (hs : s.length = 16) :
    Calls Try.prog 65 #[.agg (s.map bv).toArray] w fun e w' => e = .returned (.agg ((unshifted s).map bv).toArray) ∧ Only (fun _ => False) w w' := by
  have hal : (unshifted s).length = 16 := unshK_length s 16
  obtain ⟨w3, b1, b2, b3, e3, eb3, eb2, eb1, a1, a2, a3, o3, n12, n13, n23, hb⟩ := three w s zero16 zero16 64 64 64
  go_enter Try.func65, Try.ntmps65
  go_upto_region 2 with fail
  rw [zeros_eq, ← e3, ← eb3, ← eb2, ← eb1]
  clear e3 eb3 eb2 eb1
  have hr := a1.range
  have A2 := hide a2
  have A3 := hide a3
  have O3 := hide o3
  have HB := hide hb
  clear a1 a3 o3 hb a2
  go_wp2_with (refine wpList_load_mid rfl 64 (.tmp 1) rfl b1 0 rfl (s.map bv) _ hr Try.underSt rfl (by rw [Try.sizeState]; simp [hs]) ?_)
  clear hr
  go_loopw [4, 5, 7] (fun p q i wr => ∃ n : Nat, n ≤ 16 ∧ i = .int .i64 n ∧ Arr wr b3 64 (unshK s n) ∧ Only (fun j => j = b3) w3 wr) (fun _ _ i _ => 16 - (intOf i).toNat)
  case atStart => exact ⟨0, Nat.zero_le _, rfl, unhide A3, Only.refl _ _⟩
  case round =>
    obtain ⟨n, hn, rfl, har, hor⟩ := hrel
    by_cases hlt : n < 16
    · obtain ⟨m, hm⟩ : ∃ m, m = 5 * n % 16 := ⟨_, rfl⟩
      have hm16 : m < 16 := by omega
      have hmx : ((5 : Int) * (n : Int)).tmod 16 = (m : Int) := by
        rw [Int.tmod_eq_emod_of_nonneg (by omega)]; omega
      have hz3 := har.cell m _ (gt_some (unshK s n) m (by rw [unshK_length]; omega))
      have hf := har.free m
      have hw2 := har.set m (gt s n)
      rw [show (unshK s n).set m (gt s n) = unshK s (n + 1) by rw [hm]; rfl] at hw2
      have HW := hide hw2
      have HO := hide (hor.here m (.int .u8 ((gt s n).toNat : Int)))
      have hix := index_st 64 16 s .i64 n Try.underSt hs hlt
      clear har hor hw2 hm
      generalize gt s n = x at *
      have hn15 : (n : Int) < 16 := by omega
      have hm15 : (m : Int) < 16 := by omega
      go_wp2
      go_roundw
      case rel => exact ⟨n + 1, by omega, by go_num, unhide HW, unhide HO⟩
      case measure => simp [intOf]; omega
    · obtain rfl : n = 16 := by omega
      have hr1 : _ := har.range
      have ht3 := ((unhide A2).only hor n23).there 16 rfl
      have HA3 := hide ((unhide A2).only hor n23)
      have HOR := hide hor
      clear har hor
      have HLE : Hid (unshK s 16 = unshifted s) := rfl
      rw [unhide HLE] at hr1
      clear HLE
      generalize hl : unshifted s = l at *
      have HLE := hide hl
      clear hl
      go_wp2_with (first
        | (refine wpList_load_mid rfl 64 (.tmp 3) rfl b3 0 rfl (l.map bv) _ hr1 Try.underSt rfl (by rw [Try.sizeState]; simp [hal]) ?_)
        | (refine wpList_store_mid rfl 64 (.tmp 2) (.tmp 17) rfl b2 0 (l.map bv).toArray rfl rfl (by simpa [hal] using ht3) (by rw [Try.sizeState]; simp [hal]) (ag_one _) ?_))
      refine bodyPost_ret (results_cell_row rfl _ _ b2 64 _ _ _ rfl ((unhide HA3).stored _ (by rw [hal]; rfl)).out Try.underSt rfl (by rw [Try.sizeState]; simp [hal])) rfl ?_
      exact ⟨by rw [← unhide HLE], done13 (unhide O3) (unhide HOR) (fun j hj => ⟨((unhide HB) j hj).2.2, ((unhide HB) j hj).2.1⟩)⟩

end Ae
end Go.Proofs.Ytdmcnblnoiahcaa
