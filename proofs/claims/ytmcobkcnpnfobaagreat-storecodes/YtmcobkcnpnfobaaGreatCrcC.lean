/-
  crc's calls, and the reference's.
-/
import Derived.Test.YtmcobkcnpnfobaaGreatCrcSpec
namespace Go.Proofs.YtmcobkcnpnfobaaGreat
open Go.RowKit
set_option linter.unusedSimpArgs false
set_option linter.unusedVariables false
namespace Crc

theorem xor_poly (c : Nat) (hc : c < 4294967296) : bits .xor .u32 ((c : Int) / 2) 3988292384 = ((c / 2 ^^^ 3988292384 : Nat) : Int) := by
  have := u32_xor_nat (c / 2) 3988292384 (by omega) (by omega)
  rw [show ((c / 2 : Nat) : Int) = (c : Int) / 2 by omega] at this
  exact this

theorem and_one (c : Nat) (hc : c < 4294967296) : bits .and .u32 (c : Int) 1 = (c : Int) % 2 := by
  have := u32_and_nat c 1 hc (by omega)
  rw [nat_mask1] at this
  rw [show (1 : Int) = ((1 : Nat) : Int) from rfl, this]
  omega

theorem pastBit_any (c : Nat) (w : World) (hc : c < 4294967296) :
    Calls Tryz.prog 89 #[.int .u32 c] w fun e w' => e = .returned (.int .u32 (bit c : Nat)) ∧ w' = w := by
  have ha := and_one c hc
  by_cases h2 : c % 2 = 1
  · have hb : ((c : Int) % 2 == 1) = true := by simp; omega
    have hv : bit c = c / 2 ^^^ 3988292384 := by unfold bit; rw [if_pos h2]
    have HV := hide hv
    clear hv h2
    go_enter Tryz.func89, Tryz.ntmps89
    go_wp2
    go_ret
    rw [unhide HV, xor_poly c hc]
    exact ⟨rfl, rfl⟩
  · have hb : ((c : Int) % 2 == 1) = false := by simp; omega
    have hv : bit c = c / 2 := by unfold bit; rw [if_neg h2]
    have HV := hide hv
    clear hv h2
    go_enter Tryz.func89, Tryz.ntmps89
    go_wp2
    go_ret
    rw [unhide HV]
    exact ⟨rfl, rfl⟩

theorem pastByte_any (c : Nat) (w : World) (hc : c < 4294967296) :
    Calls Tryz.prog 85 #[.int .u32 c] w fun e w' => e = .returned (.int .u32 (past c : Nat)) ∧ w' = w := by
  go_enter Tryz.func85, Tryz.ntmps85
  go_wp2
  go_loop [0, 3] (fun a i => ∃ k : Nat, k ≤ 8 ∧ i = .int .i64 k ∧ a = .int .u32 (nbits k c : Nat)) (fun _ i => 8 - (intOf i).toNat)
  case atStart => exact ⟨0, Nat.zero_le _, rfl, rfl⟩
  case round =>
    obtain ⟨k, hk, rfl, rfl⟩ := hrel
    by_cases hlt : k < 8
    · have hb := nbits_lt k c hc
      go_wp2_with fail
      refine (pastBit_any (nbits k c) _ hb).mono ?_
      rintro e w1 ⟨rfl, rfl⟩
      go_wp2
      go_round
      case rel => exact ⟨k + 1, by omega, by go_num, rfl⟩
      case measure => simp [intOf]; omega
    · obtain rfl : k = 8 := by omega
      go_wp2
      go_ret
      exact ⟨rfl, rfl⟩

theorem more_any (s : Nat) (xv : Value) (bs : List UInt8) (w : World) (hs : s < 4294967296) (hx : Has w xv bs) :
    Calls Tryz.prog 81 #[.int .u32 s, xv] w fun e w' => e = .returned (.int .u32 (more s bs : Nat)) ∧ w' = w := by
  obtain ⟨ao, cap, hf, hlc, hm⟩ := hx.shape
  subst hf
  have hx1 : bits .xor .u32 (s : Int) 4294967295 = ((s ^^^ 4294967295 : Nat) : Int) := u32_xor_nat s 4294967295 hs (by omega)
  have hs1 := xor_lt s 4294967295 hs (by omega)
  obtain ⟨n, hn⟩ : ∃ n, n = bs.length := ⟨_, rfl⟩
  rw [← hn]
  rw [← hn] at hx hlc
  have hmx : n < 9223372036854775808 := by unfold maxLen at hm; omega
  have HN := hide hn
  clear hn
  go_enter Tryz.func81, Tryz.ntmps81
  go_wp2
  go_loop [5, 12] (fun a i => ∃ k : Nat, k ≤ n ∧ i = .int .i64 k ∧ a = .int .u32 (rem (s ^^^ 4294967295) (bs.take k) : Nat)) (fun _ i => n - (intOf i).toNat)
  case atStart => exact ⟨0, Nat.zero_le _, rfl, rfl⟩
  case round =>
    obtain ⟨k, hk, rfl, rfl⟩ := hrel
    have hrl := rem_lt (s ^^^ 4294967295) (bs.take k) hs1
    by_cases hlt : k < n
    · have hkb : k < bs.length := by have := unhide HN; omega
      obtain ⟨bb, off, hao, hq, hc⟩ := hx.at (by omega)
      subst hao
      clear hq
      have hck : w.cell? ⟨bb, off + k, none⟩ = some (.int .u8 ((bs[k]'hkb).toNat : Int)) := hc k hkb
      clear hc
      have hst := hide (rem_take (s ^^^ 4294967295) bs k hkb)
      have hb8 := (bs[k]'hkb).toNat_lt
      have hxb : bits .xor .u32 ((rem (s ^^^ 4294967295) (bs.take k) : Nat) : Int) ((bs[k]'hkb).toNat : Int) = ((rem (s ^^^ 4294967295) (bs.take k) ^^^ (bs[k]'hkb).toNat : Nat) : Int) := u32_xor_nat _ _ hrl (by omega)
      have hxl := xor_lt _ (bs[k]'hkb).toNat hrl (by omega)
      have hpast : Hid (past (rem (s ^^^ 4294967295) (bs.take k) ^^^ (bs[k]'hkb).toNat) = rem (s ^^^ 4294967295) (bs.take (k + 1))) := (unhide hst).symm
      clear hst
      generalize rem (s ^^^ 4294967295) (bs.take k) = r at *
      generalize (bs[k]'hkb).toNat = c at *
      go_wp2_with fail
      refine (pastByte_any (r ^^^ c) _ hxl).mono ?_
      rintro e w1 ⟨rfl, rfl⟩
      go_wp2
      go_round
      case rel => exact ⟨k + 1, by omega, by go_num, by rw [unhide hpast]⟩
      case measure => simp [intOf]; omega
    · obtain rfl : k = n := by omega
      have e : bs.take k = bs := List.take_of_length_le (by have := unhide HN; omega)
      rw [e] at hrl ⊢
      have hx2 : bits .xor .u32 ((rem (s ^^^ 4294967295) bs : Nat) : Int) 4294967295 = ((rem (s ^^^ 4294967295) bs ^^^ 4294967295 : Nat) : Int) := u32_xor_nat _ 4294967295 hrl (by omega)
      go_wp2
      go_ret
      exact ⟨rfl, rfl⟩

theorem sum_any (xv : Value) (bs : List UInt8) (w : World) (hx : Has w xv bs) :
    Calls Tryz.prog 72 #[xv] w fun e w' => e = .returned (.int .u32 (more 0 bs : Nat)) ∧ w' = w := by
  have HW := hide (more_any 0 xv bs w (by omega) hx)
  clear hx
  go_enter Tryz.func72, Tryz.ntmps72
  go_wp2_with fail
  refine (unhide HW).mono ?_
  rintro e w1 ⟨rfl, rfl⟩
  go_wp2
  go_ret
  exact ⟨rfl, rfl⟩

end Crc
end Go.Proofs.YtmcobkcnpnfobaaGreat
