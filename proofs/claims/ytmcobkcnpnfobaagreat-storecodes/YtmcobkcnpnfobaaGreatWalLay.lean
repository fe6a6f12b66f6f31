/-
  wal's Lay, Size, Head.lay, isZero; bytes.Equal: contracts.
-/
import Derived.Test.YtmcobkcnpnfobaaGreatWrLO
import Derived.Test.YtmcobkcnpnfobaaGreatWalSpec
import Derived.Test.YtmcobkcnpnfobaaGreatCrcC
import Derived.Test.YtmcobkcnpnfobaaGreatStr
namespace Go.Proofs.YtmcobkcnpnfobaaGreat
open Go.RowKit
set_option linter.unusedSimpArgs false
set_option linter.unusedVariables false

/-- a new row of n zeros -/
theorem make_null (n : Nat) (hn : n ≤ 281474976710656) : ∃ Z : Array Value, (∀ w : World, (Instr.makeSlice 24 (.int .i64 n) (.int .i64 n)).run Tryz.prog w = .ok (.slice (some ⟨w.heap.size, 0, none⟩) n n) (w.alloc (.cells Z 5))) ∧ Z = ((List.replicate n (0 : UInt8)).map bv).toArray := by
  obtain ⟨i0, hi, hz0, hz1, hz2⟩ := info_parts Tryz.info5
  refine ⟨madeCells #[.int .u8 0] n, fun w => ?_, ?_⟩
  · have h := run_make (P := Tryz.prog) w 24 5 i0 (.int .u8 0) Tryz.underlying24 hi hz0 .i64 .i64 n n (by omega) (by omega) (by rw [hz2]; omega) (by omega)
    simp only [hz1, Nat.mul_one, Int.toNat_natCast] at h
    exact h
  · apply Array.ext'
    rw [toList_madeCells_one]
    simp [bv]

namespace Wal

theorem sectorsOf_any (n : Nat) (w : World) (hn : n ≤ 1000000000000000) : Calls Tryz.prog 80 #[.int .i64 n] w fun e w' => e = .returned (.int .i64 (secsOf n)) ∧ w' = w := by
  have h0 : ¬ (64 : Int) = 0 := by decide
  have hq : ((n : Int) + 64 - 1) / 64 = (secsOf n : Int) := by unfold secsOf; omega
  go_enter Tryz.func80, Tryz.ntmps80
  go_wp2
  go_ret
  rw [hq]
  exact ⟨rfl, rfl⟩

theorem size_any (xv : Value) (us : List UInt8) (w : World) (hx : Has w xv us) (hb : us.length ≤ 300000000000000) : Calls Tryz.prog 71 #[xv] w fun e w' => e = .returned (.int .i64 (size us)) ∧ w' = w := by
  obtain ⟨xo, xc, rfl, hlc, hm⟩ := hx.shape
  have HW := hide (sectorsOf_any (8 + us.length) w (by omega))
  go_enter Tryz.func71, Tryz.ntmps71
  go_wp2_with fail
  refine (unhide HW).mono ?_
  rintro e w1 ⟨rfl, rfl⟩
  go_wp2
  go_ret
  exact ⟨rfl, rfl⟩

theorem filledUp_any {w0 w : World} {b : Nat} {bs : List UInt8} (h : WO.Mine w0 w b bs) (hr : bs.length ≤ 140737488355200) :
    Calls Tryz.prog 79 #[.pointer (some ⟨b, 0, none⟩)] w fun e w' => ∃ u, e = .returned u ∧ Owns w0.heap.size w' u (fill bs) ∧ Only (fun _ => False) w0 w' := by
  have hge := secsOf_ge bs.length
  have hlt := secsOf_lt bs.length
  obtain ⟨p, hp⟩ : ∃ p, p = secsOf bs.length * 64 - bs.length := ⟨_, rfl⟩
  have hcast : (secsOf bs.length : Int) * 64 - (bs.length : Int) = (p : Int) := by omega
  have hf : fill bs = bs ++ List.replicate p 0 := by unfold fill; rw [hp]
  obtain ⟨Z, hZ, hZe⟩ := make_null p (by omega)
  have hp64 : p < 64 := by omega
  have HZE := hide hZe
  have HF := hide hf
  have HM := hide h
  have hs2 : secsOf bs.length ≤ 100000000000000 := by omega
  clear hZe hf hp h
  go_enter Tryz.func79, Tryz.ntmps79
  go_wp2_with fail
  refine (WO.mine_len (unhide HM)).mono ?_
  rintro e w1 ⟨rfl, rfl⟩
  go_wp2_with fail
  refine (sectorsOf_any bs.length _ (by omega)).mono ?_
  rintro e w1 ⟨rfl, rfl⟩
  go_wp2_with fail
  refine (WO.mine_len (unhide HM)).mono ?_
  rintro e w1 ⟨rfl, rfl⟩
  go_wp2_with fail
  refine (WO.mine_raw ((unhide HM).same ((Only.refl _ _).alloc _)) _ (List.replicate p 0) (has_row (heap_alloc_new _ _) (unhide HZE) (by simp) (by unfold maxLen; omega)) (by simp; omega)).mono ?_
  rintro e w2 ⟨rfl, h2⟩
  go_wp2_with fail
  refine (WO.mine_bytes h2 (by simp; omega)).mono ?_
  rintro e w3 ⟨u, rfl, hu⟩
  go_wp2
  go_ret
  refine ⟨u, rfl, ?_, h2.only.trans hu.only (fun _ _ e => e)⟩
  rw [unhide HF]
  exact ownsRow_base hu.own h2.only.size

theorem lay_any (xv : Value) (us : List UInt8) (w : World) (hx : Has w xv us) (hr : us.length ≤ 140737488351232) :
    Calls Tryz.prog 112 #[xv] w fun e w' => ∃ u, e = .returned u ∧ Owns w.heap.size w' u (lay us) ∧ Only (fun _ => False) w w' := by
  obtain ⟨xo, xc, rfl, hlc, hm⟩ := hx.shape
  have HX := hide hx
  have hsl := Crc.more_lt 0 us (by decide)
  clear hx
  go_enter Tryz.func112, Tryz.ntmps112
  go_wp2_with fail
  refine (WO.mine_new w).mono ?_
  rintro e w1 ⟨b, rfl, h1⟩
  go_wp2_with fail
  refine (WO.mine_u32 h1 us.length (by omega) (by simp)).mono ?_
  rintro e w2 ⟨rfl, h2⟩
  have hx2 := (unhide HX).only h2.only (fun _ _ _ h => h)
  have HS := hide (Crc.sum_any _ us w2 hx2)
  go_wp2_with fail
  refine (unhide HS).mono ?_
  rintro e w3 ⟨rfl, rfl⟩
  go_wp2_with fail
  refine (WO.mine_u32 h2 (Crc.more 0 us) (by omega) (by simp [be_length])).mono ?_
  rintro e w4 ⟨rfl, h4⟩
  have hx4 := (unhide HX).only h4.only (fun _ _ _ h => h)
  go_wp2_with fail
  refine (WO.mine_raw h4 _ us hx4 (by simp [be_length]; omega)).mono ?_
  rintro e w5 ⟨rfl, h5⟩
  have HF := hide (filledUp_any h5 (by simp [be_length]; omega))
  go_wp2_with fail
  refine (unhide HF).mono ?_
  rintro e w6 ⟨u, rfl, hu, ho⟩
  go_wp2
  go_ret
  exact ⟨u, rfl, by simpa [lay, front] using hu, ho⟩

/-- a head as a value -/
def hv (h : Hd) : Value := .agg #[.int .u64 h.epoch, .int .i64 h.area, .int .i64 h.used]

theorem cells_three {w : World} {b : Nat} {c0 c1 c2 : Value} {t : TypeId} (h : w.heap[b]? = some (.cells #[c0, c1, c2] t (0, 0))) :
    w.cell? ⟨b, 0, none⟩ = some c0 ∧ w.cell? ⟨b, 1, none⟩ = some c1 ∧ w.cell? ⟨b, 2, none⟩ = some c2 ∧ ∀ i, w.frozen? ⟨b, i, none⟩ = false := by
  simp [World.cell?, World.frozen?, h]

theorem headLay_any (h : Hd) (w : World) (he : h.epoch < 18446744073709551616) (ha : h.area < 4294967296) (hu : h.used < 4294967296) :
    Calls Tryz.prog 68 #[hv h] w fun e w' => ∃ u, e = .returned u ∧ Owns w.heap.size w' u h.lay ∧ Only (fun _ => False) w w' := by
  have kc := fun (w : World) (C : Array Value) (n c : Nat) => Lib.run_convert_bytes_const (P := Tryz.prog) w 24 5 C n c Tryz.underlying24 Tryz.underlying5
  unfold hv
  have hsl := Crc.more_lt 0 h.raw (by decide)
  go_enter Tryz.func68, Tryz.ntmps68
  go_wp2_with fail
  have hB := heap_alloc_new w (.cells #[.int .u64 h.epoch, .int .i64 h.area, .int .i64 h.used] 106)
  have hO := (Only.refl (fun _ => False) w).alloc (.cells #[.int .u64 h.epoch, .int .i64 h.area, .int .i64 h.used] 106)
  generalize w.alloc (.cells #[.int .u64 h.epoch, .int .i64 h.area, .int .i64 h.used] 106) = wb at *
  have HB := hide hB
  have HO := hide hO
  clear hB hO
  refine (WO.mine_new wb).mono ?_
  rintro e w1 ⟨b, rfl, h1⟩
  go_wp2_with fail
  refine (WO.mine_raw (h1.same ((Only.refl _ _).alloc _)) _ mark (has_lit (bs := mark) (heap_alloc_new _ _) (by simp [maxLen, mark_length])) (by simp [mark_length])).mono ?_
  rintro e w2 ⟨rfl, h2⟩
  obtain ⟨c0, c1, c2, cf⟩ := cells_three (h2.only.heap (unhide HB) (fun h => h))
  clear h1
  go_wp2_with fail
  refine (WO.mine_u64 h2 h.epoch he (by simp [mark_length])).mono ?_
  rintro e w3 ⟨rfl, h3⟩
  clear h2 c0 c1 c2 cf
  obtain ⟨c0, c1, c2, cf⟩ := cells_three (h3.only.heap (unhide HB) (fun h => h))
  go_wp2_with fail
  refine (WO.mine_u32 h3 h.area (by omega) (by simp [be_length, mark_length])).mono ?_
  rintro e w4 ⟨rfl, h4⟩
  clear h3 c0 c1 c2 cf
  obtain ⟨c0, c1, c2, cf⟩ := cells_three (h4.only.heap (unhide HB) (fun h => h))
  go_wp2_with fail
  refine (WO.mine_u32 h4 h.used (by omega) (by simp [be_length, mark_length])).mono ?_
  rintro e w5 ⟨rfl, h5⟩
  clear h4 c0 c1 c2 cf
  have hraw : [] ++ mark ++ be 8 h.epoch ++ be 4 h.area ++ be 4 h.used = h.raw := by simp [Hd.raw]
  rw [hraw] at h5
  clear hraw
  go_wp2_with fail
  refine (WO.mine_bytes h5 (by rw [Hd.raw_length]; decide)).mono ?_
  rintro e w6 ⟨x, rfl, hx⟩
  have h6 := h5.same hx.only
  clear h5
  go_wp2_with fail
  refine (Crc.sum_any _ h.raw w6 (Has.ofOwns hx.own)).mono ?_
  rintro e w7 ⟨rfl, rfl⟩
  clear hx
  go_wp2_with fail
  refine (WO.mine_u32 h6 (Crc.more 0 h.raw) (by omega) (by rw [Hd.raw_length]; decide)).mono ?_
  rintro e w8 ⟨rfl, h8⟩
  clear h6
  have HF := hide (filledUp_any h8 (by simp [be_length, Hd.raw_length]))
  go_wp2_with fail
  refine (unhide HF).mono ?_
  rintro e w9 ⟨u, rfl, hu, ho⟩
  go_wp2
  go_ret
  exact ⟨u, rfl, ownsRow_base hu (unhide HO).size, (unhide HO).trans ho (fun _ _ e => e)⟩

theorem equal_any (xv yv : Value) (xs ys : List UInt8) (w : World) (hx : Has w xv xs) (hy : Has w yv ys) : Calls Tryz.prog 67 #[xv, yv] w fun e w' => e = .returned (.bool (decide (xs = ys))) ∧ w' = w := by
  have cx := str_conv hx
  have cy := str_conv hy
  have HD := hide (str_beq xs ys)
  go_enter Tryz.func67, Tryz.ntmps67
  go_wp2
  go_ret
  rw [← unhide HD]
  exact ⟨rfl, rfl⟩

def allZero (bs : List UInt8) : Bool := decide (bs = List.replicate bs.length 0)

theorem isZero_any (xv : Value) (us : List UInt8) (w : World) (hx : Has w xv us) : Calls Tryz.prog 73 #[xv] w fun e w' => e = .returned (.bool (allZero us)) ∧ w' = w := by
  obtain ⟨ao, cap, hf, hlc, hm⟩ := hx.shape
  subst hf
  obtain ⟨n, hn⟩ : ∃ n, n = us.length := ⟨_, rfl⟩
  rw [← hn]
  rw [← hn] at hx hlc
  have hmx : n < 9223372036854775808 := by unfold maxLen at hm; omega
  have HN := hide hn
  clear hn
  go_enter Tryz.func73, Tryz.ntmps73
  go_wp2
  go_loop [7] (fun i => ∃ k : Nat, k ≤ n ∧ i = .int .i64 k ∧ Hid (us.take k = List.replicate k 0)) (fun i => n - (intOf i).toNat)
  case atStart => exact ⟨0, Nat.zero_le _, rfl, by simp [Hid]⟩
  case round =>
    obtain ⟨k, hk, rfl, HT⟩ := hrel
    by_cases hlt : k < n
    · have hkb : k < us.length := by have := unhide HN; omega
      obtain ⟨bb, off, hao, hq, hc⟩ := hx.at (by omega)
      subst hao
      clear hq
      have hck : w.cell? ⟨bb, off + k, none⟩ = some (.int .u8 ((us[k]'hkb).toNat : Int)) := hc k hkb
      clear hc
      by_cases hz : us[k]'hkb = 0
      · have hz' : (us[k]'hkb).toNat = 0 := by rw [hz]; rfl
        rw [hz'] at hck
        go_wp2
        go_round
        case rel =>
          refine ⟨k + 1, by omega, by go_num, ?_⟩
          show us.take (k + 1) = _
          rw [List.take_succ_eq_append_getElem hkb, unhide HT, hz, List.replicate_succ']
        case measure => simp [intOf]; omega
      · have hz' : ¬ ((us[k]'hkb).toNat : Int) = 0 := fun e => hz (UInt8.toNat_inj.1 (by simpa using e))
        have hfin : Hid (allZero us = false) := by
          show allZero us = false
          unfold allZero
          rw [decide_eq_false_iff_not]
          intro e
          have : us[k]? = (List.replicate us.length (0 : UInt8))[k]? := congrArg (·[k]?) e
          rw [List.getElem?_eq_getElem hkb] at this
          simp [hkb] at this
          exact hz this
        generalize (us[k]'hkb).toNat = c at *
        go_wp2
        go_ret
        rw [unhide hfin]
        exact ⟨rfl, rfl⟩
    · obtain rfl : k = n := by omega
      have e : allZero us = true := by
        unfold allZero
        have := unhide HT
        rw [List.take_of_length_le (by have := unhide HN; omega), unhide HN] at this
        exact decide_eq_true this
      have HE := hide e
      clear e
      go_wp2
      go_ret
      rw [unhide HE]
      exact ⟨rfl, rfl⟩

end Wal
end Go.Proofs.YtmcobkcnpnfobaaGreat
