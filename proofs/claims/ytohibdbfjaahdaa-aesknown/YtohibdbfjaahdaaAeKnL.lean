/-
  AesKnown.
-/
import Derived.Test.YtohibdbfjaahdaaAeKn
import Derived.Test.YtohibdbfjaahdaaAeLaw
namespace Go.Proofs.Ytohibdbfjaahdaa
open Go.RowKit
set_option linter.unusedSimpArgs false
set_option linter.unusedVariables false
namespace Ae

def zero32 : List UInt8 := List.replicate 32 0
theorem zeros32_eq : (#[Value.int IntKind.u8 0, Value.int IntKind.u8 0, Value.int IntKind.u8 0, Value.int IntKind.u8 0, Value.int IntKind.u8 0, Value.int IntKind.u8 0, Value.int IntKind.u8 0, Value.int IntKind.u8 0, Value.int IntKind.u8 0, Value.int IntKind.u8 0, Value.int IntKind.u8 0, Value.int IntKind.u8 0, Value.int IntKind.u8 0, Value.int IntKind.u8 0, Value.int IntKind.u8 0, Value.int IntKind.u8 0, Value.int IntKind.u8 0, Value.int IntKind.u8 0, Value.int IntKind.u8 0, Value.int IntKind.u8 0, Value.int IntKind.u8 0, Value.int IntKind.u8 0, Value.int IntKind.u8 0, Value.int IntKind.u8 0, Value.int IntKind.u8 0, Value.int IntKind.u8 0, Value.int IntKind.u8 0, Value.int IntKind.u8 0, Value.int IntKind.u8 0, Value.int IntKind.u8 0, Value.int IntKind.u8 0, Value.int IntKind.u8 0] : Array Value) = (zero32.map bv).toArray := rfl

/-- the first L bytes of an array, as a slice -/
theorem Arr.has {w : World} {b : Nat} {t : TypeId} {s : List UInt8} (h : Arr w b t s) (L c : Nat) (hL : L ≤ c) (hs : s.length = c) (hc : c ≤ 64) : Has w (.slice (some ⟨b, 0, none⟩) L c) (s.take L) := by
  refine Or.inr ⟨⟨b, 0, none⟩, c, by rw [List.length_take, Nat.min_eq_left (by omega)], fun _ => rfl, by rw [List.length_take]; omega, by unfold maxLen; omega, fun _ => h.lt, fun j hj => ?_⟩
  have hj2 : j < s.length := by rw [List.length_take] at hj; omega
  rw [Nat.zero_add, h.cell j s[j] (by simp [hj2])]
  simp [bv]

theorem knK_len : knK.length = 32 := by decide +kernel
theorem knT_len : knT.length = 16 := by decide +kernel
theorem knK_at (n : Nat) (h : n < 32) : knK[n]? = some (UInt8.ofNat n) := by
  unfold knK
  rw [List.getElem?_map, List.getElem?_range h]
  rfl
theorem knT_at (n : Nat) (h : n < 16) : knT[n]? = some (UInt8.ofNat (17 * n)) := by
  unfold knT
  rw [List.getElem?_map, List.getElem?_range h]
  rfl
theorem zero32_at (n : Nat) (h : n < 32) : zero32[n]? = some 0 := by
  unfold zero32
  rw [List.getElem?_replicate, if_pos h]
theorem zero16_at (n : Nat) (h : n < 16) : zero16[n]? = some 0 := by
  unfold zero16
  rw [List.getElem?_replicate, if_pos h]
theorem wrap_of (n : Nat) : IntKind.u8.wrap (n : Int) = ((UInt8.ofNat n).toNat : Int) := by
  simp [IntKind.wrap, IntKind.signed, IntKind.bits]



theorem kn_new16 (b : Nat) (w : World) (h : Arr w b 22 knK) :
    Calls Try.prog 7 #[.slice (some ⟨b, 0, none⟩) 16 32] w fun e W' => ∃ cb, e = .returned (.tuple #[.pointer (some ⟨cb, 0, none⟩), .int .i64 0]) ∧ Cip W' cb 11 bs16 ∧ Only (fun _ => False) w W' := by
  have h1 := new_any 16 40 11 (by decide) (by decide) (by decide) ⟨b, 0, none⟩ 32 (knK.take 16) (by rw [List.length_take, knK_len]; decide) w (h.has 16 32 (by decide) knK_len (by decide))
  rw [exp_16] at h1
  exact h1
theorem kn_seal16 (cb : Nat) (w : World) (h : Cip w cb 11 bs16) :
    Calls Try.prog 9 #[.pointer (some ⟨cb, 0, none⟩), .agg (knT.map bv).toArray] w fun e w' => e = .returned (.agg (sl16.map bv).toArray) ∧ Only (fun _ => False) w w' := by
  have h1 := seal_any cb 11 9 bs16 knT (by decide) (by decide) (by decide) (hide mul_9) (hide grow_11) knT_len w h
  rw [seal_16] at h1
  exact h1
theorem kn_open16 (cb : Nat) (w : World) (h : Cip w cb 11 bs16) :
    Calls Try.prog 10 #[.pointer (some ⟨cb, 0, none⟩), .agg (sl16.map bv).toArray] w fun e w' => e = .returned (.agg (knT.map bv).toArray) ∧ Only (fun _ => False) w w' := by
  have h1 := open_any cb 11 9 bs16 sl16 (by decide) (by decide) (by decide) (hide mul_9) (hide grow_11) (by decide +kernel) w h
  have h2 := open_seal bs16 11 (by decide) h.1 knT knT_len 11 (Nat.le_refl _)
  rw [Nat.sub_self, seal_16] at h2
  rw [show openT bs16 11 sl16 11 = knT from h2] at h1
  exact h1

theorem kn_new24 (b : Nat) (w : World) (h : Arr w b 22 knK) :
    Calls Try.prog 7 #[.slice (some ⟨b, 0, none⟩) 24 32] w fun e W' => ∃ cb, e = .returned (.tuple #[.pointer (some ⟨cb, 0, none⟩), .int .i64 0]) ∧ Cip W' cb 13 bs24 ∧ Only (fun _ => False) w W' := by
  have h1 := new_any 24 46 13 (by decide) (by decide) (by decide) ⟨b, 0, none⟩ 32 (knK.take 24) (by rw [List.length_take, knK_len]; decide) w (h.has 24 32 (by decide) knK_len (by decide))
  rw [exp_24] at h1
  exact h1
theorem kn_seal24 (cb : Nat) (w : World) (h : Cip w cb 13 bs24) :
    Calls Try.prog 9 #[.pointer (some ⟨cb, 0, none⟩), .agg (knT.map bv).toArray] w fun e w' => e = .returned (.agg (sl24.map bv).toArray) ∧ Only (fun _ => False) w w' := by
  have h1 := seal_any cb 13 11 bs24 knT (by decide) (by decide) (by decide) (hide mul_11) (hide grow_13) knT_len w h
  rw [seal_24] at h1
  exact h1
theorem kn_open24 (cb : Nat) (w : World) (h : Cip w cb 13 bs24) :
    Calls Try.prog 10 #[.pointer (some ⟨cb, 0, none⟩), .agg (sl24.map bv).toArray] w fun e w' => e = .returned (.agg (knT.map bv).toArray) ∧ Only (fun _ => False) w w' := by
  have h1 := open_any cb 13 11 bs24 sl24 (by decide) (by decide) (by decide) (hide mul_11) (hide grow_13) (by decide +kernel) w h
  have h2 := open_seal bs24 13 (by decide) h.1 knT knT_len 13 (Nat.le_refl _)
  rw [Nat.sub_self, seal_24] at h2
  rw [show openT bs24 13 sl24 13 = knT from h2] at h1
  exact h1

theorem kn_new32 (b : Nat) (w : World) (h : Arr w b 22 knK) :
    Calls Try.prog 7 #[.slice (some ⟨b, 0, none⟩) 32 32] w fun e W' => ∃ cb, e = .returned (.tuple #[.pointer (some ⟨cb, 0, none⟩), .int .i64 0]) ∧ Cip W' cb 15 bs32 ∧ Only (fun _ => False) w W' := by
  have h1 := new_any 32 52 15 (by decide) (by decide) (by decide) ⟨b, 0, none⟩ 32 (knK.take 32) (by rw [List.length_take, knK_len]; decide) w (h.has 32 32 (by decide) knK_len (by decide))
  rw [exp_32] at h1
  exact h1
theorem kn_seal32 (cb : Nat) (w : World) (h : Cip w cb 15 bs32) :
    Calls Try.prog 9 #[.pointer (some ⟨cb, 0, none⟩), .agg (knT.map bv).toArray] w fun e w' => e = .returned (.agg (sl32.map bv).toArray) ∧ Only (fun _ => False) w w' := by
  have h1 := seal_any cb 15 13 bs32 knT (by decide) (by decide) (by decide) (hide mul_13) (hide grow_15) knT_len w h
  rw [seal_32] at h1
  exact h1
theorem kn_open32 (cb : Nat) (w : World) (h : Cip w cb 15 bs32) :
    Calls Try.prog 10 #[.pointer (some ⟨cb, 0, none⟩), .agg (sl32.map bv).toArray] w fun e w' => e = .returned (.agg (knT.map bv).toArray) ∧ Only (fun _ => False) w w' := by
  have h1 := open_any cb 15 13 bs32 sl32 (by decide) (by decide) (by decide) (hide mul_13) (hide grow_15) (by decide +kernel) w h
  have h2 := open_seal bs32 15 (by decide) h.1 knT knT_len 15 (Nat.le_refl _)
  rw [Nat.sub_self, seal_32] at h2
  rw [show openT bs32 15 sl32 15 = knT from h2] at h1
  exact h1

theorem kn_new17 (b : Nat) (w : World) :
    Calls Try.prog 7 #[.slice (some ⟨b, 0, none⟩) 17 32] w fun e W' => e = .returned (.tuple #[.pointer none, .int .i64 1]) ∧ W' = w := newBad_any _ 17 32 (by decide) (by decide) (by decide) w


theorem made (x : World) (s : List UInt8) (hs : s.length = 16) : ∃ wy b, wy = (x.alloc (.cells (zero16.map bv).toArray 23)).setCells x.heap.size 0 (s.map bv).toArray.toList ∧ b = x.heap.size ∧ Arr wy b 23 s ∧ Only (fun _ => False) x wy := by
  refine ⟨_, _, rfl, rfl, (Arr.new x 23 zero16 _ rfl).stored s (by rw [hs]; rfl), Only.setCells (fun h => absurd h (by omega)) _ _ _ ((Only.refl _ x).alloc _)⟩


set_option maxRecDepth 100000 in
set_option maxHeartbeats 4000000 in
theorem known_all (w : World) : Calls Try.prog 3 #[] w fun e w' => e = .returned (.bool true) ∧ Only (fun _ => False) w w' := by
  obtain ⟨w2, b1, b2, e2, eb2, eb1, a1, a2, o2, n12, hbb⟩ := two w zero32 zero16 22 23
  go_enter Try.func3, Try.ntmps3
  go_upto_region 3 with fail
  rw [zeros32_eq, zeros_eq, ← e2, ← eb2, ← eb1]
  clear e2 eb2 eb1
  have A1 := hide a1
  have A2 := hide a2
  have O1 := hide o2
  have HB := hide hbb
  clear a1 a2 o2 hbb
  go_wp2
  go_loopw [3] (fun i wr => ∃ n : Nat, n ≤ 32 ∧ i = .int .i64 n ∧ Arr wr b1 22 (mixd knK zero32 n) ∧ Arr wr b2 23 zero16 ∧ Only (fun j => j = b1) w2 wr) (fun i _ => 32 - (intOf i).toNat)
  case atStart => exact ⟨0, Nat.zero_le _, rfl, by rw [mixd_zero]; exact unhide A1, unhide A2, Only.refl _ _⟩
  case round =>
    obtain ⟨n, hn, rfl, har, hat, hor⟩ := hrel
    by_cases hlt : n < 32
    · have hm := mixd_at knK zero32 32 n knK_len rfl hlt
      rw [zero32_at n hlt] at hm
      have hc := har.cell n _ hm
      have hf := har.free n
      have hw2 := har.set n (UInt8.ofNat n)
      rw [mixd_set _ _ 32 n knK_len rfl hlt _ (knK_at n hlt)] at hw2
      have HW := hide hw2
      have HT := hide (hat.other (i := n) (.int .u8 ((UInt8.ofNat n).toNat : Int)) (fun e => n12 e.symm))
      have HO := hide (hor.here n (.int .u8 ((UInt8.ofNat n).toNat : Int)))
      have hx := wrap_of n
      clear hm har hor hw2 hat
      generalize UInt8.ofNat n = x at *
      have hn15 : (n : Int) < 32 := by omega
      go_wp2
      go_roundw
      case rel => exact ⟨n + 1, by omega, by go_num, unhide HW, unhide HT, unhide HO⟩
      case measure => simp [intOf]; omega
    · obtain rfl : n = 32 := by omega
      rw [mixd_all _ _ 32 knK_len rfl] at har
      have A1 := hide har
      have A2 := hide hat
      have O2 := hide hor
      clear har hat hor
      clear hn hlt
      go_wp2_with fail
      go_loopw [4] (fun i wr => ∃ n : Nat, n ≤ 16 ∧ i = .int .i64 n ∧ Arr wr b2 23 (mixd knT zero16 n) ∧ Arr wr b1 22 knK ∧ Only (fun j => j = b1 ∨ j = b2) w2 wr) (fun i _ => 16 - (intOf i).toNat)
      case atStart => exact ⟨0, Nat.zero_le _, rfl, by rw [mixd_zero]; exact unhide A2, unhide A1, (unhide O2).mono (fun _ _ e => Or.inl e)⟩
      case round =>
        obtain ⟨n, hn, rfl, har, hat, hor⟩ := hrel
        by_cases hlt : n < 16
        · have hm := mixd_at knT zero16 16 n knT_len rfl hlt
          rw [zero16_at n hlt] at hm
          have hc := har.cell n _ hm
          have hf := har.free n
          have hw2 := har.set n (UInt8.ofNat (17 * n))
          rw [mixd_set _ _ 16 n knT_len rfl hlt _ (knT_at n hlt)] at hw2
          have HW := hide hw2
          have HT := hide (hat.other (i := n) (.int .u8 ((UInt8.ofNat (17 * n)).toNat : Int)) n12)
          have HO := hide (hor.setCell (p := ⟨b2, n, none⟩) (fun _ => Or.inr rfl) (.int .u8 ((UInt8.ofNat (17 * n)).toNat : Int)))
          have hx := wrap_of (17 * n)
          rw [show ((17 * n : Nat) : Int) = 17 * (n : Int) by omega] at hx
          clear hm har hor hw2 hat
          generalize UInt8.ofNat (17 * n) = x at *
          have hn15 : (n : Int) < 16 := by omega
          go_wp2
          go_roundw
          case rel => exact ⟨n + 1, by omega, by go_num, unhide HW, unhide HT, unhide HO⟩
          case measure => simp [intOf]; omega
        · obtain rfl : n = 16 := by omega
          rw [mixd_all _ _ 16 knT_len rfl] at har
          clear O2 A1 A2
          have A1 := hide hat
          have A2 := hide har
          have O2 := hide ((unhide O1).trans hor (fun j hj e => by have := (unhide HB) j hj; omega))
          clear har hat hor hn hlt HB
          go_wp2_with fail
          refine (kn_new16 b1 wr (unhide A1)).mono ?_
          rintro e w4 ⟨c1, rfl, hc, ho⟩
          have C1 := hide hc
          have B1 := hide ((unhide A1).only ho (fun e => e))
          have B2 := hide ((unhide A2).only ho (fun e => e))
          have O4 := hide ((unhide O2).trans ho (fun _ _ e => e))
          clear hc ho A1 A2 O1 O2
          go_wp2_with fail
          refine (kn_new24 b1 w4 (unhide B1)).mono ?_
          rintro e w5 ⟨c2, rfl, hc, ho⟩
          have C2 := hide hc
          have D1 := hide ((unhide C1).new ho)
          have A1 := hide ((unhide B1).only ho (fun e => e))
          have A2 := hide ((unhide B2).only ho (fun e => e))
          have O5 := hide ((unhide O4).trans ho (fun _ _ e => e))
          clear hc ho B1 B2 O4 C1
          go_wp2_with fail
          refine (kn_new32 b1 w5 (unhide A1)).mono ?_
          rintro e w6 ⟨c3, rfl, hc, ho⟩
          have C3 := hide hc
          have C1 := hide ((unhide D1).new ho)
          have D2 := hide ((unhide C2).new ho)
          have B2 := hide ((unhide A2).only ho (fun e => e))
          have O6 := hide ((unhide O5).trans ho (fun _ _ e => e))
          clear hc ho A1 A2 O5 C2 D1
          go_wp2_with fail
          refine (kn_new17 b1 w6).mono ?_
          rintro e w7 ⟨rfl, rfl⟩
          go_upto_region 17 with (go_at_call 8; refine (known_any _).mono ?_; rintro e w8 ⟨rfl, rfl⟩)
          have hr2 := (unhide B2).range
          go_wp2_with (refine wpList_load_mid rfl 23 (.tmp 2) rfl b2 0 rfl (knT.map bv) _ hr2 Try.under16 rfl (by rw [Try.size16]; rfl) ?_)
          clear hr2
          refine (kn_seal16 c1 w8 (unhide C1)).mono ?_
          rintro e x0 ⟨rfl, ho⟩
          have ht0 := (Arr.new x0 23 zero16 _ rfl).there 16 rfl
          have HO0 := hide ho
          clear ho
          go_upto_region 18 with (refine wpList_store_mid rfl 23 (.tmp 13) (.tmp 85) rfl x0.heap.size 0 (sl16.map bv).toArray rfl rfl ht0 (by rw [Try.size16]; rfl) (ag_one _) ?_)
          clear ht0
          obtain ⟨y0, d0, ey0, ed0, ha, ho2⟩ := made x0 sl16 rfl
          rw [zeros_eq, ← ey0, ← ed0]
          have ho := (unhide HO0).trans ho2 (fun _ _ e => e)
          have Ad0 := hide ha
          have Oy0 := hide ((unhide O6).trans ho (fun _ _ e => e))
          have C1v0 := hide ((unhide C1).new ho)
          have D2v0 := hide ((unhide D2).new ho)
          have C3v0 := hide ((unhide C3).new ho)
          have B2v0 := hide ((unhide B2).only ho (fun e => e))
          clear O6 HO0 C1 D2 C3 B2 ey0 ed0 ha ho2 ho
          have hr2 := (unhide B2v0).range
          go_wp2_with (refine wpList_load_mid rfl 23 (.tmp 2) rfl b2 0 rfl (knT.map bv) _ hr2 Try.under16 rfl (by rw [Try.size16]; rfl) ?_)
          clear hr2
          refine (kn_seal24 c2 y0 (unhide D2v0)).mono ?_
          rintro e x1 ⟨rfl, ho⟩
          have ht1 := (Arr.new x1 23 zero16 _ rfl).there 16 rfl
          have HO1 := hide ho
          clear ho
          go_upto_region 19 with (refine wpList_store_mid rfl 23 (.tmp 14) (.tmp 88) rfl x1.heap.size 0 (sl24.map bv).toArray rfl rfl ht1 (by rw [Try.size16]; rfl) (ag_one _) ?_)
          clear ht1
          obtain ⟨y1, d1, ey1, ed1, ha, ho2⟩ := made x1 sl24 rfl
          rw [zeros_eq, ← ey1, ← ed1]
          have ho := (unhide HO1).trans ho2 (fun _ _ e => e)
          have Ad1 := hide ha
          have Oy1 := hide ((unhide Oy0).trans ho (fun _ _ e => e))
          have C1v1 := hide ((unhide C1v0).new ho)
          have D2v1 := hide ((unhide D2v0).new ho)
          have C3v1 := hide ((unhide C3v0).new ho)
          have B2v1 := hide ((unhide B2v0).only ho (fun e => e))
          have Ad0v1 := hide ((unhide Ad0).only ho (fun e => e))
          clear Oy0 HO1 C1v0 D2v0 C3v0 B2v0 Ad0 ey1 ed1 ha ho2 ho
          have hr2 := (unhide B2v1).range
          go_wp2_with (refine wpList_load_mid rfl 23 (.tmp 2) rfl b2 0 rfl (knT.map bv) _ hr2 Try.under16 rfl (by rw [Try.size16]; rfl) ?_)
          clear hr2
          refine (kn_seal32 c3 y1 (unhide C3v1)).mono ?_
          rintro e x2 ⟨rfl, ho⟩
          have ht2 := (Arr.new x2 23 zero16 _ rfl).there 16 rfl
          have HO2 := hide ho
          clear ho
          go_upto_region 20 with (refine wpList_store_mid rfl 23 (.tmp 15) (.tmp 91) rfl x2.heap.size 0 (sl32.map bv).toArray rfl rfl ht2 (by rw [Try.size16]; rfl) (ag_one _) ?_)
          clear ht2
          obtain ⟨y2, d2, ey2, ed2, ha, ho2⟩ := made x2 sl32 rfl
          rw [zeros_eq, ← ey2, ← ed2]
          have ho := (unhide HO2).trans ho2 (fun _ _ e => e)
          have Ad2 := hide ha
          have Oy2 := hide ((unhide Oy1).trans ho (fun _ _ e => e))
          have C1v2 := hide ((unhide C1v1).new ho)
          have D2v2 := hide ((unhide D2v1).new ho)
          have C3v2 := hide ((unhide C3v1).new ho)
          have B2v2 := hide ((unhide B2v1).only ho (fun e => e))
          have Ad0v2 := hide ((unhide Ad0v1).only ho (fun e => e))
          have Ad1v2 := hide ((unhide Ad1).only ho (fun e => e))
          clear Oy1 HO2 C1v1 D2v1 C3v1 B2v1 Ad0v1 Ad1 ey2 ed2 ha ho2 ho
          have K00 := hide ((unhide Ad0v2).cell 0 105 rfl)
          have K01 := hide ((unhide Ad0v2).cell 1 196 rfl)
          have K015 := hide ((unhide Ad0v2).cell 15 90 rfl)
          have K10 := hide ((unhide Ad1v2).cell 0 221 rfl)
          have K11 := hide ((unhide Ad1v2).cell 1 169 rfl)
          have K115 := hide ((unhide Ad1v2).cell 15 145 rfl)
          have K20 := hide ((unhide Ad2).cell 0 142 rfl)
          have K21 := hide ((unhide Ad2).cell 1 162 rfl)
          have K215 := hide ((unhide Ad2).cell 15 137 rfl)
          have RA := hide (unhide Ad0v2).range
          have RB := hide (unhide Ad1v2).range
          have RC := hide (unhide Ad2).range
          have RT := hide (unhide B2v2).range
          have EQT : Hid (∀ W, (binOp .eql 23 (.agg (knT.map bv).toArray) (.agg (knT.map bv).toArray)).run Try.prog W = .ok (.bool true) W) := hide (fun W => by rw [eql_blk knT knT knT_len knT_len]; simp)
          clear Ad0v2 Ad1v2 Ad2 B2v2
          simp only [List.append_eq, List.cons_append, List.nil_append]
          refine wp_region_held_drew (S := (fun w' => Only (fun _ => False) y2 w')) (by kernel_rfl) ((Only.refl _ _).drew) (fun hHeld => ?_)
          refine wpAnyH_take (i := 0) (v := ?v1) rfl (by kernel_rfl) (by kernel_rfl) (by kernel_rfl) (fun _ _ _ h => h) (Or.inl ⟨by rfl, ?hy1⟩) (by assumption) ?rest1
          case hy1 =>
            intro w hSw
            go_simp
            try with_reducible rfl
          try simp only [Act.put, List.setIfInBounds_toArray, List.set_cons_zero, List.set_cons_succ, List.getElem_toArray, List.getElem_cons_succ, List.getElem_cons_zero]
          refine wpAnyH_take (i := 1) (v := ?v2) rfl (by kernel_rfl) (by kernel_rfl) (by kernel_rfl) (fun _ _ _ h => h) (Or.inl ⟨by rfl, ?hy2⟩) (by assumption) ?rest2
          case hy2 =>
            intro w hSw
            (have q := hSw.cell (unhide K00) (fun e => e); go_simp; try with_reducible rfl)
          try simp only [Act.put, List.setIfInBounds_toArray, List.set_cons_zero, List.set_cons_succ, List.getElem_toArray, List.getElem_cons_succ, List.getElem_cons_zero]
          refine wpAnyH_take (i := 2) (v := ?v3) rfl (by kernel_rfl) (by kernel_rfl) (by kernel_rfl) (fun _ _ _ h => h) (Or.inl ⟨by rfl, ?hy3⟩) (by assumption) ?rest3
          case hy3 =>
            intro w hSw
            go_simp
            try with_reducible rfl
          try simp only [Act.put, List.setIfInBounds_toArray, List.set_cons_zero, List.set_cons_succ, List.getElem_toArray, List.getElem_cons_succ, List.getElem_cons_zero]
          refine wpAnyH_take (i := 3) (v := ?v4) rfl (by kernel_rfl) (by kernel_rfl) (by kernel_rfl) (fun _ _ _ h => h) (Or.inl ⟨by rfl, ?hy4⟩) (by assumption) ?rest4
          case hy4 =>
            intro w hSw
            go_simp
            try with_reducible rfl
          try simp only [Act.put, List.setIfInBounds_toArray, List.set_cons_zero, List.set_cons_succ, List.getElem_toArray, List.getElem_cons_succ, List.getElem_cons_zero]
          refine wpAnyH_take (i := 4) (v := ?v5) rfl (by kernel_rfl) (by kernel_rfl) (by kernel_rfl) (fun _ _ _ h => h) (Or.inl ⟨by rfl, ?hy5⟩) (by assumption) ?rest5
          case hy5 =>
            intro w hSw
            go_simp
            try with_reducible rfl
          try simp only [Act.put, List.setIfInBounds_toArray, List.set_cons_zero, List.set_cons_succ, List.getElem_toArray, List.getElem_cons_succ, List.getElem_cons_zero]
          refine wpAnyH_take (i := 5) (v := ?v6) rfl (by kernel_rfl) (by kernel_rfl) (by kernel_rfl) (fun _ _ _ h => h) (Or.inl ⟨by rfl, ?hy6⟩) (by assumption) ?rest6
          case hy6 =>
            intro w hSw
            (have q := hSw.cell (unhide K01) (fun e => e); go_simp; try with_reducible rfl)
          try simp only [Act.put, List.setIfInBounds_toArray, List.set_cons_zero, List.set_cons_succ, List.getElem_toArray, List.getElem_cons_succ, List.getElem_cons_zero]
          refine wpAnyH_take (i := 6) (v := ?v7) rfl (by kernel_rfl) (by kernel_rfl) (by kernel_rfl) (fun _ _ _ h => h) (Or.inl ⟨by rfl, ?hy7⟩) (by assumption) ?rest7
          case hy7 =>
            intro w hSw
            go_simp
            try with_reducible rfl
          try simp only [Act.put, List.setIfInBounds_toArray, List.set_cons_zero, List.set_cons_succ, List.getElem_toArray, List.getElem_cons_succ, List.getElem_cons_zero]
          refine wpAnyH_take (i := 7) (v := ?v8) rfl (by kernel_rfl) (by kernel_rfl) (by kernel_rfl) (fun _ _ _ h => h) (Or.inl ⟨by rfl, ?hy8⟩) (by assumption) ?rest8
          case hy8 =>
            intro w hSw
            go_simp
            try with_reducible rfl
          try simp only [Act.put, List.setIfInBounds_toArray, List.set_cons_zero, List.set_cons_succ, List.getElem_toArray, List.getElem_cons_succ, List.getElem_cons_zero]
          refine wpAnyH_take (i := 8) (v := ?v9) rfl (by kernel_rfl) (by kernel_rfl) (by kernel_rfl) (fun _ _ _ h => h) (Or.inl ⟨by rfl, ?hy9⟩) (by assumption) ?rest9
          case hy9 =>
            intro w hSw
            go_simp
            try with_reducible rfl
          try simp only [Act.put, List.setIfInBounds_toArray, List.set_cons_zero, List.set_cons_succ, List.getElem_toArray, List.getElem_cons_succ, List.getElem_cons_zero]
          refine wpAnyH_take (i := 9) (v := ?v10) rfl (by kernel_rfl) (by kernel_rfl) (by kernel_rfl) (fun _ _ _ h => h) (Or.inl ⟨by rfl, ?hy10⟩) (by assumption) ?rest10
          case hy10 =>
            intro w hSw
            go_simp
            try with_reducible rfl
          try simp only [Act.put, List.setIfInBounds_toArray, List.set_cons_zero, List.set_cons_succ, List.getElem_toArray, List.getElem_cons_succ, List.getElem_cons_zero]
          refine wpAnyH_take (i := 10) (v := ?v11) rfl (by kernel_rfl) (by kernel_rfl) (by kernel_rfl) (fun _ _ _ h => h) (Or.inl ⟨by rfl, ?hy11⟩) (by assumption) ?rest11
          case hy11 =>
            intro w hSw
            (have q := hSw.cell (unhide K015) (fun e => e); go_simp; try with_reducible rfl)
          try simp only [Act.put, List.setIfInBounds_toArray, List.set_cons_zero, List.set_cons_succ, List.getElem_toArray, List.getElem_cons_succ, List.getElem_cons_zero]
          refine wpAnyH_take (i := 11) (v := ?v12) rfl (by kernel_rfl) (by kernel_rfl) (by kernel_rfl) (fun _ _ _ h => h) (Or.inl ⟨by rfl, ?hy12⟩) (by assumption) ?rest12
          case hy12 =>
            intro w hSw
            go_simp
            try with_reducible rfl
          try simp only [Act.put, List.setIfInBounds_toArray, List.set_cons_zero, List.set_cons_succ, List.getElem_toArray, List.getElem_cons_succ, List.getElem_cons_zero]
          refine wpAnyH_take (i := 12) (v := ?v13) rfl (by kernel_rfl) (by kernel_rfl) (by kernel_rfl) (fun _ _ _ h => h) (Or.inl ⟨by rfl, ?hy13⟩) (by assumption) ?rest13
          case hy13 =>
            intro w hSw
            go_simp
            try with_reducible rfl
          try simp only [Act.put, List.setIfInBounds_toArray, List.set_cons_zero, List.set_cons_succ, List.getElem_toArray, List.getElem_cons_succ, List.getElem_cons_zero]
          refine wpAnyH_take (i := 13) (v := ?v14) rfl (by kernel_rfl) (by kernel_rfl) (by kernel_rfl) (fun _ _ _ h => h) (Or.inl ⟨by rfl, ?hy14⟩) (by assumption) ?rest14
          case hy14 =>
            intro w hSw
            go_simp
            try with_reducible rfl
          try simp only [Act.put, List.setIfInBounds_toArray, List.set_cons_zero, List.set_cons_succ, List.getElem_toArray, List.getElem_cons_succ, List.getElem_cons_zero]
          refine wpAnyH_take (i := 14) (v := ?v15) rfl (by kernel_rfl) (by kernel_rfl) (by kernel_rfl) (fun _ _ _ h => h) (Or.inl ⟨by rfl, ?hy15⟩) (by assumption) ?rest15
          case hy15 =>
            intro w hSw
            go_simp
            try with_reducible rfl
          try simp only [Act.put, List.setIfInBounds_toArray, List.set_cons_zero, List.set_cons_succ, List.getElem_toArray, List.getElem_cons_succ, List.getElem_cons_zero]
          refine wpAnyH_take (i := 15) (v := ?v16) rfl (by kernel_rfl) (by kernel_rfl) (by kernel_rfl) (fun _ _ _ h => h) (Or.inl ⟨by rfl, ?hy16⟩) (by assumption) ?rest16
          case hy16 =>
            intro w hSw
            (have q := hSw.cell (unhide K10) (fun e => e); go_simp; try with_reducible rfl)
          try simp only [Act.put, List.setIfInBounds_toArray, List.set_cons_zero, List.set_cons_succ, List.getElem_toArray, List.getElem_cons_succ, List.getElem_cons_zero]
          refine wpAnyH_take (i := 16) (v := ?v17) rfl (by kernel_rfl) (by kernel_rfl) (by kernel_rfl) (fun _ _ _ h => h) (Or.inl ⟨by rfl, ?hy17⟩) (by assumption) ?rest17
          case hy17 =>
            intro w hSw
            go_simp
            try with_reducible rfl
          try simp only [Act.put, List.setIfInBounds_toArray, List.set_cons_zero, List.set_cons_succ, List.getElem_toArray, List.getElem_cons_succ, List.getElem_cons_zero]
          refine wpAnyH_take (i := 17) (v := ?v18) rfl (by kernel_rfl) (by kernel_rfl) (by kernel_rfl) (fun _ _ _ h => h) (Or.inl ⟨by rfl, ?hy18⟩) (by assumption) ?rest18
          case hy18 =>
            intro w hSw
            go_simp
            try with_reducible rfl
          try simp only [Act.put, List.setIfInBounds_toArray, List.set_cons_zero, List.set_cons_succ, List.getElem_toArray, List.getElem_cons_succ, List.getElem_cons_zero]
          refine wpAnyH_take (i := 18) (v := ?v19) rfl (by kernel_rfl) (by kernel_rfl) (by kernel_rfl) (fun _ _ _ h => h) (Or.inl ⟨by rfl, ?hy19⟩) (by assumption) ?rest19
          case hy19 =>
            intro w hSw
            go_simp
            try with_reducible rfl
          try simp only [Act.put, List.setIfInBounds_toArray, List.set_cons_zero, List.set_cons_succ, List.getElem_toArray, List.getElem_cons_succ, List.getElem_cons_zero]
          refine wpAnyH_take (i := 19) (v := ?v20) rfl (by kernel_rfl) (by kernel_rfl) (by kernel_rfl) (fun _ _ _ h => h) (Or.inl ⟨by rfl, ?hy20⟩) (by assumption) ?rest20
          case hy20 =>
            intro w hSw
            go_simp
            try with_reducible rfl
          try simp only [Act.put, List.setIfInBounds_toArray, List.set_cons_zero, List.set_cons_succ, List.getElem_toArray, List.getElem_cons_succ, List.getElem_cons_zero]
          refine wpAnyH_take (i := 20) (v := ?v21) rfl (by kernel_rfl) (by kernel_rfl) (by kernel_rfl) (fun _ _ _ h => h) (Or.inl ⟨by rfl, ?hy21⟩) (by assumption) ?rest21
          case hy21 =>
            intro w hSw
            (have q := hSw.cell (unhide K11) (fun e => e); go_simp; try with_reducible rfl)
          try simp only [Act.put, List.setIfInBounds_toArray, List.set_cons_zero, List.set_cons_succ, List.getElem_toArray, List.getElem_cons_succ, List.getElem_cons_zero]
          refine wpAnyH_take (i := 21) (v := ?v22) rfl (by kernel_rfl) (by kernel_rfl) (by kernel_rfl) (fun _ _ _ h => h) (Or.inl ⟨by rfl, ?hy22⟩) (by assumption) ?rest22
          case hy22 =>
            intro w hSw
            go_simp
            try with_reducible rfl
          try simp only [Act.put, List.setIfInBounds_toArray, List.set_cons_zero, List.set_cons_succ, List.getElem_toArray, List.getElem_cons_succ, List.getElem_cons_zero]
          refine wpAnyH_take (i := 22) (v := ?v23) rfl (by kernel_rfl) (by kernel_rfl) (by kernel_rfl) (fun _ _ _ h => h) (Or.inl ⟨by rfl, ?hy23⟩) (by assumption) ?rest23
          case hy23 =>
            intro w hSw
            go_simp
            try with_reducible rfl
          try simp only [Act.put, List.setIfInBounds_toArray, List.set_cons_zero, List.set_cons_succ, List.getElem_toArray, List.getElem_cons_succ, List.getElem_cons_zero]
          refine wpAnyH_take (i := 23) (v := ?v24) rfl (by kernel_rfl) (by kernel_rfl) (by kernel_rfl) (fun _ _ _ h => h) (Or.inl ⟨by rfl, ?hy24⟩) (by assumption) ?rest24
          case hy24 =>
            intro w hSw
            go_simp
            try with_reducible rfl
          try simp only [Act.put, List.setIfInBounds_toArray, List.set_cons_zero, List.set_cons_succ, List.getElem_toArray, List.getElem_cons_succ, List.getElem_cons_zero]
          refine wpAnyH_take (i := 24) (v := ?v25) rfl (by kernel_rfl) (by kernel_rfl) (by kernel_rfl) (fun _ _ _ h => h) (Or.inl ⟨by rfl, ?hy25⟩) (by assumption) ?rest25
          case hy25 =>
            intro w hSw
            go_simp
            try with_reducible rfl
          try simp only [Act.put, List.setIfInBounds_toArray, List.set_cons_zero, List.set_cons_succ, List.getElem_toArray, List.getElem_cons_succ, List.getElem_cons_zero]
          refine wpAnyH_take (i := 25) (v := ?v26) rfl (by kernel_rfl) (by kernel_rfl) (by kernel_rfl) (fun _ _ _ h => h) (Or.inl ⟨by rfl, ?hy26⟩) (by assumption) ?rest26
          case hy26 =>
            intro w hSw
            (have q := hSw.cell (unhide K115) (fun e => e); go_simp; try with_reducible rfl)
          try simp only [Act.put, List.setIfInBounds_toArray, List.set_cons_zero, List.set_cons_succ, List.getElem_toArray, List.getElem_cons_succ, List.getElem_cons_zero]
          refine wpAnyH_take (i := 26) (v := ?v27) rfl (by kernel_rfl) (by kernel_rfl) (by kernel_rfl) (fun _ _ _ h => h) (Or.inl ⟨by rfl, ?hy27⟩) (by assumption) ?rest27
          case hy27 =>
            intro w hSw
            go_simp
            try with_reducible rfl
          try simp only [Act.put, List.setIfInBounds_toArray, List.set_cons_zero, List.set_cons_succ, List.getElem_toArray, List.getElem_cons_succ, List.getElem_cons_zero]
          refine wpAnyH_take (i := 27) (v := ?v28) rfl (by kernel_rfl) (by kernel_rfl) (by kernel_rfl) (fun _ _ _ h => h) (Or.inl ⟨by rfl, ?hy28⟩) (by assumption) ?rest28
          case hy28 =>
            intro w hSw
            go_simp
            try with_reducible rfl
          try simp only [Act.put, List.setIfInBounds_toArray, List.set_cons_zero, List.set_cons_succ, List.getElem_toArray, List.getElem_cons_succ, List.getElem_cons_zero]
          refine wpAnyH_take (i := 28) (v := ?v29) rfl (by kernel_rfl) (by kernel_rfl) (by kernel_rfl) (fun _ _ _ h => h) (Or.inl ⟨by rfl, ?hy29⟩) (by assumption) ?rest29
          case hy29 =>
            intro w hSw
            go_simp
            try with_reducible rfl
          try simp only [Act.put, List.setIfInBounds_toArray, List.set_cons_zero, List.set_cons_succ, List.getElem_toArray, List.getElem_cons_succ, List.getElem_cons_zero]
          refine wpAnyH_take (i := 29) (v := ?v30) rfl (by kernel_rfl) (by kernel_rfl) (by kernel_rfl) (fun _ _ _ h => h) (Or.inl ⟨by rfl, ?hy30⟩) (by assumption) ?rest30
          case hy30 =>
            intro w hSw
            go_simp
            try with_reducible rfl
          try simp only [Act.put, List.setIfInBounds_toArray, List.set_cons_zero, List.set_cons_succ, List.getElem_toArray, List.getElem_cons_succ, List.getElem_cons_zero]
          refine wpAnyH_take (i := 30) (v := ?v31) rfl (by kernel_rfl) (by kernel_rfl) (by kernel_rfl) (fun _ _ _ h => h) (Or.inl ⟨by rfl, ?hy31⟩) (by assumption) ?rest31
          case hy31 =>
            intro w hSw
            (have q := hSw.cell (unhide K20) (fun e => e); go_simp; try with_reducible rfl)
          try simp only [Act.put, List.setIfInBounds_toArray, List.set_cons_zero, List.set_cons_succ, List.getElem_toArray, List.getElem_cons_succ, List.getElem_cons_zero]
          refine wpAnyH_take (i := 31) (v := ?v32) rfl (by kernel_rfl) (by kernel_rfl) (by kernel_rfl) (fun _ _ _ h => h) (Or.inl ⟨by rfl, ?hy32⟩) (by assumption) ?rest32
          case hy32 =>
            intro w hSw
            go_simp
            try with_reducible rfl
          try simp only [Act.put, List.setIfInBounds_toArray, List.set_cons_zero, List.set_cons_succ, List.getElem_toArray, List.getElem_cons_succ, List.getElem_cons_zero]
          refine wpAnyH_take (i := 32) (v := ?v33) rfl (by kernel_rfl) (by kernel_rfl) (by kernel_rfl) (fun _ _ _ h => h) (Or.inl ⟨by rfl, ?hy33⟩) (by assumption) ?rest33
          case hy33 =>
            intro w hSw
            go_simp
            try with_reducible rfl
          try simp only [Act.put, List.setIfInBounds_toArray, List.set_cons_zero, List.set_cons_succ, List.getElem_toArray, List.getElem_cons_succ, List.getElem_cons_zero]
          refine wpAnyH_take (i := 33) (v := ?v34) rfl (by kernel_rfl) (by kernel_rfl) (by kernel_rfl) (fun _ _ _ h => h) (Or.inl ⟨by rfl, ?hy34⟩) (by assumption) ?rest34
          case hy34 =>
            intro w hSw
            go_simp
            try with_reducible rfl
          try simp only [Act.put, List.setIfInBounds_toArray, List.set_cons_zero, List.set_cons_succ, List.getElem_toArray, List.getElem_cons_succ, List.getElem_cons_zero]
          refine wpAnyH_take (i := 34) (v := ?v35) rfl (by kernel_rfl) (by kernel_rfl) (by kernel_rfl) (fun _ _ _ h => h) (Or.inl ⟨by rfl, ?hy35⟩) (by assumption) ?rest35
          case hy35 =>
            intro w hSw
            go_simp
            try with_reducible rfl
          try simp only [Act.put, List.setIfInBounds_toArray, List.set_cons_zero, List.set_cons_succ, List.getElem_toArray, List.getElem_cons_succ, List.getElem_cons_zero]
          refine wpAnyH_take (i := 35) (v := ?v36) rfl (by kernel_rfl) (by kernel_rfl) (by kernel_rfl) (fun _ _ _ h => h) (Or.inl ⟨by rfl, ?hy36⟩) (by assumption) ?rest36
          case hy36 =>
            intro w hSw
            (have q := hSw.cell (unhide K21) (fun e => e); go_simp; try with_reducible rfl)
          try simp only [Act.put, List.setIfInBounds_toArray, List.set_cons_zero, List.set_cons_succ, List.getElem_toArray, List.getElem_cons_succ, List.getElem_cons_zero]
          refine wpAnyH_take (i := 36) (v := ?v37) rfl (by kernel_rfl) (by kernel_rfl) (by kernel_rfl) (fun _ _ _ h => h) (Or.inl ⟨by rfl, ?hy37⟩) (by assumption) ?rest37
          case hy37 =>
            intro w hSw
            go_simp
            try with_reducible rfl
          try simp only [Act.put, List.setIfInBounds_toArray, List.set_cons_zero, List.set_cons_succ, List.getElem_toArray, List.getElem_cons_succ, List.getElem_cons_zero]
          refine wpAnyH_take (i := 37) (v := ?v38) rfl (by kernel_rfl) (by kernel_rfl) (by kernel_rfl) (fun _ _ _ h => h) (Or.inl ⟨by rfl, ?hy38⟩) (by assumption) ?rest38
          case hy38 =>
            intro w hSw
            go_simp
            try with_reducible rfl
          try simp only [Act.put, List.setIfInBounds_toArray, List.set_cons_zero, List.set_cons_succ, List.getElem_toArray, List.getElem_cons_succ, List.getElem_cons_zero]
          refine wpAnyH_take (i := 38) (v := ?v39) rfl (by kernel_rfl) (by kernel_rfl) (by kernel_rfl) (fun _ _ _ h => h) (Or.inl ⟨by rfl, ?hy39⟩) (by assumption) ?rest39
          case hy39 =>
            intro w hSw
            go_simp
            try with_reducible rfl
          try simp only [Act.put, List.setIfInBounds_toArray, List.set_cons_zero, List.set_cons_succ, List.getElem_toArray, List.getElem_cons_succ, List.getElem_cons_zero]
          refine wpAnyH_take (i := 39) (v := ?v40) rfl (by kernel_rfl) (by kernel_rfl) (by kernel_rfl) (fun _ _ _ h => h) (Or.inl ⟨by rfl, ?hy40⟩) (by assumption) ?rest40
          case hy40 =>
            intro w hSw
            go_simp
            try with_reducible rfl
          try simp only [Act.put, List.setIfInBounds_toArray, List.set_cons_zero, List.set_cons_succ, List.getElem_toArray, List.getElem_cons_succ, List.getElem_cons_zero]
          refine wpAnyH_take (i := 40) (v := ?v41) rfl (by kernel_rfl) (by kernel_rfl) (by kernel_rfl) (fun _ _ _ h => h) (Or.inl ⟨by rfl, ?hy41⟩) (by assumption) ?rest41
          case hy41 =>
            intro w hSw
            (have q := hSw.cell (unhide K215) (fun e => e); go_simp; try with_reducible rfl)
          try simp only [Act.put, List.setIfInBounds_toArray, List.set_cons_zero, List.set_cons_succ, List.getElem_toArray, List.getElem_cons_succ, List.getElem_cons_zero]
          refine wpAnyH_take (i := 41) (v := ?v42) rfl (by kernel_rfl) (by kernel_rfl) (by kernel_rfl) (fun _ _ _ h => h) (Or.inl ⟨by rfl, ?hy42⟩) (by assumption) ?rest42
          case hy42 =>
            intro w hSw
            go_simp
            try with_reducible rfl
          try simp only [Act.put, List.setIfInBounds_toArray, List.set_cons_zero, List.set_cons_succ, List.getElem_toArray, List.getElem_cons_succ, List.getElem_cons_zero]
          refine wpAnyH_take (i := 42) (v := ?v43) rfl (by kernel_rfl) (by kernel_rfl) (by kernel_rfl) (fun _ _ _ h => h) (Or.inl ⟨by rfl, ?hy43⟩) (by assumption) ?rest43
          case hy43 =>
            intro w hSw
            go_simp
            try with_reducible rfl
          try simp only [Act.put, List.setIfInBounds_toArray, List.set_cons_zero, List.set_cons_succ, List.getElem_toArray, List.getElem_cons_succ, List.getElem_cons_zero]
          refine wpAnyH_take (i := 43) (v := ?v44) rfl (by kernel_rfl) (by kernel_rfl) (by kernel_rfl) (fun _ _ _ h => h) (Or.inl ⟨by rfl, ?hy44⟩) (by assumption) ?rest44
          case hy44 =>
            intro w hSw
            go_simp
            try with_reducible rfl
          try simp only [Act.put, List.setIfInBounds_toArray, List.set_cons_zero, List.set_cons_succ, List.getElem_toArray, List.getElem_cons_succ, List.getElem_cons_zero]
          refine wpAnyH_take (i := 44) (v := ?v45) rfl (by kernel_rfl) (by kernel_rfl) (by kernel_rfl) (fun _ _ _ h => h) (Or.inl ⟨by rfl, ?hy45⟩) (by assumption) ?rest45
          case hy45 =>
            intro w hSw
            go_simp
            try with_reducible rfl
          try simp only [Act.put, List.setIfInBounds_toArray, List.set_cons_zero, List.set_cons_succ, List.getElem_toArray, List.getElem_cons_succ, List.getElem_cons_zero]
          refine wpAnyH_take (i := 45) (v := ?v46) rfl (by kernel_rfl) (by kernel_rfl) (by kernel_rfl) (fun _ _ _ h => h) (Or.inl ⟨by rfl, ?hy46⟩) (by assumption) ?rest46
          case hy46 =>
            intro w hSw
            (refine exec_load_mid 23 (.tmp 13) ?_ d0 0 ?_ (sl16.map bv) _ (range_only (unhide RA) hSw (fun e => e)) Try.under16 rfl (by rw [Try.size16]; rfl) <;> rfl)
          try simp only [Act.put, List.setIfInBounds_toArray, List.set_cons_zero, List.set_cons_succ, List.getElem_toArray, List.getElem_cons_succ, List.getElem_cons_zero]
          refine wpAnyH_take (i := 47) (v := ?v47) rfl (by kernel_rfl) (by kernel_rfl) (by kernel_rfl) (fun _ _ _ h => h) (Or.inl ⟨by rfl, ?hy47⟩) (by assumption) ?rest47
          case hy47 =>
            intro w hSw
            (refine exec_load_mid 23 (.tmp 2) ?_ b2 0 ?_ (knT.map bv) _ (range_only (unhide RT) hSw (fun e => e)) Try.under16 rfl (by rw [Try.size16]; rfl) <;> rfl)
          try simp only [Act.put, List.setIfInBounds_toArray, List.set_cons_zero, List.set_cons_succ, List.getElem_toArray, List.getElem_cons_succ, List.getElem_cons_zero]
          refine wpAnyH_ready (rs := [46]) (by kernel_rfl) (by simp) ?_
          refine AllReadyH.cons rfl (fun K hK => ?_) AllReadyH.nil
          go_simp
          go_wp2_with fail; refine (kn_open16 c1 _ ((unhide C1v2).new ((Only.refl (fun _ => False) y2).drew))).mono ?_; rintro e z0 ⟨rfl, yz⟩; have Q0 : Hid (Only (fun _ => False) y2 z0) := ((Only.refl (fun _ => False) y2).drew).trans yz (fun _ _ e => e); clear yz
          refine hK.out _ _ ((unhide Q0)) (fun hHeld => ?_)
          clear hK K
          try simp only [Act.put, List.setIfInBounds_toArray, List.set_cons_zero, List.set_cons_succ, List.getElem_toArray, List.getElem_cons_succ, List.getElem_cons_zero]
          refine wpAnyH_take (i := 48) (v := ?v48) rfl (by kernel_rfl) (by kernel_rfl) (by kernel_rfl) (fun _ _ _ h => h) (Or.inl ⟨by rfl, ?hy48⟩) (by assumption) ?rest48
          case hy48 =>
            intro w hSw
            (refine exec_eql 23 23 (.tmp 138) (.tmp 139) ?_ (.agg (knT.map bv).toArray) (.agg (knT.map bv).toArray) (.bool true) ?_ ?_ (unhide EQT _) <;> rfl)
          try simp only [Act.put, List.setIfInBounds_toArray, List.set_cons_zero, List.set_cons_succ, List.getElem_toArray, List.getElem_cons_succ, List.getElem_cons_zero]
          refine wpAnyH_take (i := 49) (v := ?v49) rfl (by kernel_rfl) (by kernel_rfl) (by kernel_rfl) (fun _ _ _ h => h) (Or.inl ⟨by rfl, ?hy49⟩) (by assumption) ?rest49
          case hy49 =>
            intro w hSw
            go_simp
            try with_reducible rfl
          try simp only [Act.put, List.setIfInBounds_toArray, List.set_cons_zero, List.set_cons_succ, List.getElem_toArray, List.getElem_cons_succ, List.getElem_cons_zero]
          refine wpAnyH_take (i := 50) (v := ?v50) rfl (by kernel_rfl) (by kernel_rfl) (by kernel_rfl) (fun _ _ _ h => h) (Or.inl ⟨by rfl, ?hy50⟩) (by assumption) ?rest50
          case hy50 =>
            intro w hSw
            go_simp
            try with_reducible rfl
          try simp only [Act.put, List.setIfInBounds_toArray, List.set_cons_zero, List.set_cons_succ, List.getElem_toArray, List.getElem_cons_succ, List.getElem_cons_zero]
          refine wpAnyH_take (i := 51) (v := ?v51) rfl (by kernel_rfl) (by kernel_rfl) (by kernel_rfl) (fun _ _ _ h => h) (Or.inl ⟨by rfl, ?hy51⟩) (by assumption) ?rest51
          case hy51 =>
            intro w hSw
            go_simp
            try with_reducible rfl
          try simp only [Act.put, List.setIfInBounds_toArray, List.set_cons_zero, List.set_cons_succ, List.getElem_toArray, List.getElem_cons_succ, List.getElem_cons_zero]
          refine wpAnyH_take (i := 52) (v := ?v52) rfl (by kernel_rfl) (by kernel_rfl) (by kernel_rfl) (fun _ _ _ h => h) (Or.inl ⟨by rfl, ?hy52⟩) (by assumption) ?rest52
          case hy52 =>
            intro w hSw
            (refine exec_load_mid 23 (.tmp 14) ?_ d1 0 ?_ (sl24.map bv) _ (range_only (unhide RB) hSw (fun e => e)) Try.under16 rfl (by rw [Try.size16]; rfl) <;> rfl)
          try simp only [Act.put, List.setIfInBounds_toArray, List.set_cons_zero, List.set_cons_succ, List.getElem_toArray, List.getElem_cons_succ, List.getElem_cons_zero]
          refine wpAnyH_take (i := 54) (v := ?v53) rfl (by kernel_rfl) (by kernel_rfl) (by kernel_rfl) (fun _ _ _ h => h) (Or.inl ⟨by rfl, ?hy53⟩) (by assumption) ?rest53
          case hy53 =>
            intro w hSw
            (refine exec_load_mid 23 (.tmp 2) ?_ b2 0 ?_ (knT.map bv) _ (range_only (unhide RT) hSw (fun e => e)) Try.under16 rfl (by rw [Try.size16]; rfl) <;> rfl)
          try simp only [Act.put, List.setIfInBounds_toArray, List.set_cons_zero, List.set_cons_succ, List.getElem_toArray, List.getElem_cons_succ, List.getElem_cons_zero]
          refine wpAnyH_ready (rs := [53]) (by kernel_rfl) (by simp) ?_
          refine AllReadyH.cons rfl (fun K hK => ?_) AllReadyH.nil
          go_simp
          go_wp2_with fail; refine (kn_open24 c2 _ ((unhide D2v2).new (unhide Q0))).mono ?_; rintro e z1 ⟨rfl, yz⟩; have Q1 : Hid (Only (fun _ => False) y2 z1) := (unhide Q0).trans yz (fun _ _ e => e); clear yz
          refine hK.out _ _ ((unhide Q1)) (fun hHeld => ?_)
          clear hK K
          try simp only [Act.put, List.setIfInBounds_toArray, List.set_cons_zero, List.set_cons_succ, List.getElem_toArray, List.getElem_cons_succ, List.getElem_cons_zero]
          refine wpAnyH_take (i := 55) (v := ?v54) rfl (by kernel_rfl) (by kernel_rfl) (by kernel_rfl) (fun _ _ _ h => h) (Or.inl ⟨by rfl, ?hy54⟩) (by assumption) ?rest54
          case hy54 =>
            intro w hSw
            (refine exec_eql 23 23 (.tmp 145) (.tmp 146) ?_ (.agg (knT.map bv).toArray) (.agg (knT.map bv).toArray) (.bool true) ?_ ?_ (unhide EQT _) <;> rfl)
          try simp only [Act.put, List.setIfInBounds_toArray, List.set_cons_zero, List.set_cons_succ, List.getElem_toArray, List.getElem_cons_succ, List.getElem_cons_zero]
          refine wpAnyH_take (i := 56) (v := ?v55) rfl (by kernel_rfl) (by kernel_rfl) (by kernel_rfl) (fun _ _ _ h => h) (Or.inl ⟨by rfl, ?hy55⟩) (by assumption) ?rest55
          case hy55 =>
            intro w hSw
            go_simp
            try with_reducible rfl
          try simp only [Act.put, List.setIfInBounds_toArray, List.set_cons_zero, List.set_cons_succ, List.getElem_toArray, List.getElem_cons_succ, List.getElem_cons_zero]
          refine wpAnyH_take (i := 57) (v := ?v56) rfl (by kernel_rfl) (by kernel_rfl) (by kernel_rfl) (fun _ _ _ h => h) (Or.inl ⟨by rfl, ?hy56⟩) (by assumption) ?rest56
          case hy56 =>
            intro w hSw
            go_simp
            try with_reducible rfl
          try simp only [Act.put, List.setIfInBounds_toArray, List.set_cons_zero, List.set_cons_succ, List.getElem_toArray, List.getElem_cons_succ, List.getElem_cons_zero]
          refine wpAnyH_take (i := 58) (v := ?v57) rfl (by kernel_rfl) (by kernel_rfl) (by kernel_rfl) (fun _ _ _ h => h) (Or.inl ⟨by rfl, ?hy57⟩) (by assumption) ?rest57
          case hy57 =>
            intro w hSw
            go_simp
            try with_reducible rfl
          try simp only [Act.put, List.setIfInBounds_toArray, List.set_cons_zero, List.set_cons_succ, List.getElem_toArray, List.getElem_cons_succ, List.getElem_cons_zero]
          refine wpAnyH_take (i := 59) (v := ?v58) rfl (by kernel_rfl) (by kernel_rfl) (by kernel_rfl) (fun _ _ _ h => h) (Or.inl ⟨by rfl, ?hy58⟩) (by assumption) ?rest58
          case hy58 =>
            intro w hSw
            (refine exec_load_mid 23 (.tmp 15) ?_ d2 0 ?_ (sl32.map bv) _ (range_only (unhide RC) hSw (fun e => e)) Try.under16 rfl (by rw [Try.size16]; rfl) <;> rfl)
          try simp only [Act.put, List.setIfInBounds_toArray, List.set_cons_zero, List.set_cons_succ, List.getElem_toArray, List.getElem_cons_succ, List.getElem_cons_zero]
          refine wpAnyH_take (i := 61) (v := ?v59) rfl (by kernel_rfl) (by kernel_rfl) (by kernel_rfl) (fun _ _ _ h => h) (Or.inl ⟨by rfl, ?hy59⟩) (by assumption) ?rest59
          case hy59 =>
            intro w hSw
            (refine exec_load_mid 23 (.tmp 2) ?_ b2 0 ?_ (knT.map bv) _ (range_only (unhide RT) hSw (fun e => e)) Try.under16 rfl (by rw [Try.size16]; rfl) <;> rfl)
          try simp only [Act.put, List.setIfInBounds_toArray, List.set_cons_zero, List.set_cons_succ, List.getElem_toArray, List.getElem_cons_succ, List.getElem_cons_zero]
          refine wpAnyH_ready (rs := [60]) (by kernel_rfl) (by simp) ?_
          refine AllReadyH.cons rfl (fun K hK => ?_) AllReadyH.nil
          go_simp
          go_wp2_with fail; refine (kn_open32 c3 _ ((unhide C3v2).new (unhide Q1))).mono ?_; rintro e z2 ⟨rfl, yz⟩; have Q2 : Hid (Only (fun _ => False) y2 z2) := (unhide Q1).trans yz (fun _ _ e => e); clear yz
          refine hK.out _ _ ((unhide Q2)) (fun hHeld => ?_)
          clear hK K
          try simp only [Act.put, List.setIfInBounds_toArray, List.set_cons_zero, List.set_cons_succ, List.getElem_toArray, List.getElem_cons_succ, List.getElem_cons_zero]
          refine wpAnyH_take (i := 62) (v := ?v60) rfl (by kernel_rfl) (by kernel_rfl) (by kernel_rfl) (fun _ _ _ h => h) (Or.inl ⟨by rfl, ?hy60⟩) (by assumption) ?rest60
          case hy60 =>
            intro w hSw
            (refine exec_eql 23 23 (.tmp 152) (.tmp 153) ?_ (.agg (knT.map bv).toArray) (.agg (knT.map bv).toArray) (.bool true) ?_ ?_ (unhide EQT _) <;> rfl)
          try simp only [Act.put, List.setIfInBounds_toArray, List.set_cons_zero, List.set_cons_succ, List.getElem_toArray, List.getElem_cons_succ, List.getElem_cons_zero]
          refine wpAnyH_take (i := 63) (v := ?v61) rfl (by kernel_rfl) (by kernel_rfl) (by kernel_rfl) (fun _ _ _ h => h) (Or.inl ⟨by rfl, ?hy61⟩) (by assumption) ?rest61
          case hy61 =>
            intro w hSw
            go_simp
            try with_reducible rfl
          try simp only [Act.put, List.setIfInBounds_toArray, List.set_cons_zero, List.set_cons_succ, List.getElem_toArray, List.getElem_cons_succ, List.getElem_cons_zero]
          refine wpAnyH_take (i := 64) (v := ?v62) rfl (by kernel_rfl) (by kernel_rfl) (by kernel_rfl) (fun _ _ _ h => h) (Or.inl ⟨by rfl, ?hy62⟩) (by assumption) ?rest62
          case hy62 =>
            intro w hSw
            go_simp
            try with_reducible rfl
          try simp only [Act.put, List.setIfInBounds_toArray, List.set_cons_zero, List.set_cons_succ, List.getElem_toArray, List.getElem_cons_succ, List.getElem_cons_zero]
          refine wpAnyH_done (by kernel_rfl) ?_ _
          go_wp2
          go_ret
          exact ⟨rfl, (unhide Oy2).trans (unhide Q2) (fun _ _ e => e)⟩
end Ae
end Go.Proofs.Ytohibdbfjaahdaa
