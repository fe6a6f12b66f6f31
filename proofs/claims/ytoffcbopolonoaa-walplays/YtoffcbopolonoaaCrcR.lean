/-
  The reference's sum.
-/
import Derived.Test.YtoffcbopolonoaaCrcC
namespace Go.Proofs.Ytoffcbopolonoaa
open Go.RowKit
set_option linter.unusedSimpArgs false
set_option linter.unusedVariables false
namespace Crc

theorem not_u32 (c : Nat) (hc : c < 4294967296) : bits .xor .u32 IntKind.u32.max (c : Int) = ((c ^^^ 4294967295 : Nat) : Int) := by
  have h := u32_xor_nat 4294967295 c (by omega) hc
  rw [Nat.xor_comm] at h
  exact h

theorem rmore_any (s : Nat) (xv : Value) (bs : List UInt8) (w : World) (hs : s < 4294967296) (hx : Has w xv bs) :
    Calls Try.prog 81 #[.int .u32 s, xv] w fun e w' => e = .returned (.int .u32 (more s bs : Nat)) ∧ w' = w := by
  obtain ⟨ao, cap, hf, hlc, hm⟩ := hx.shape
  subst hf
  have hs1 := xor_lt s 4294967295 hs (by omega)
  have hsg : IntKind.u32.signed = false := rfl
  have hn1 := not_u32 s hs
  obtain ⟨n, hn⟩ : ∃ n, n = bs.length := ⟨_, rfl⟩
  rw [← hn]
  rw [← hn] at hx hlc
  have hmx : n < 9223372036854775808 := by unfold maxLen at hm; omega
  have HN := hide hn
  clear hn
  go_enter Try.func81, Try.ntmps81
  go_wp2
  go_loop [5, 6] (fun a i => ∃ k : Nat, k ≤ n ∧ i = .int .i64 k ∧ a = .int .u32 (rem (s ^^^ 4294967295) (bs.take k) : Nat)) (fun _ i => n - (intOf i).toNat)
  case atStart => exact ⟨0, Nat.zero_le _, rfl, rfl⟩
  case round =>
    obtain ⟨k, hk, rfl, rfl⟩ := hrel
    have hrl := rem_lt (s ^^^ 4294967295) (bs.take k) hs1
    by_cases hlt : k < n
    · have hkb : k < bs.length := by have := unhide HN; omega
      obtain ⟨bb, off, hao, hq, hc⟩ := hx.at (by omega)
      subst hao
      clear hq
      have hck : w.cell? ⟨bb, off + k, none⟩ = some (.int .u8 ((bs[k]'hkb).toNat : Int)) := hc k hkb
      clear hc
      have hst := hide (rem_take (s ^^^ 4294967295) bs k hkb)
      have hb8 := (bs[k]'hkb).toNat_lt
      have hxb : bits .xor .u32 ((rem (s ^^^ 4294967295) (bs.take k) : Nat) : Int) ((bs[k]'hkb).toNat : Int) = ((rem (s ^^^ 4294967295) (bs.take k) ^^^ (bs[k]'hkb).toNat : Nat) : Int) := u32_xor_nat _ _ hrl (by omega)
      have hxl := xor_lt _ (bs[k]'hkb).toNat hrl (by omega)
      have hpast : Hid (nbits 8 (rem (s ^^^ 4294967295) (bs.take k) ^^^ (bs[k]'hkb).toNat) = rem (s ^^^ 4294967295) (bs.take (k + 1))) := (unhide hst).symm
      clear hst
      generalize rem (s ^^^ 4294967295) (bs.take k) = r at *
      generalize (bs[k]'hkb).toNat = c at *
      generalize r ^^^ c = q at *
      go_wp2
      go_loop [5, 7] (fun a i => ∃ j : Nat, j ≤ 8 ∧ i = .int .i64 j ∧ a = .int .u32 (nbits j q : Nat)) (fun _ i => 8 - (intOf i).toNat)
      case atStart => exact ⟨0, Nat.zero_le _, rfl, rfl⟩
      case round =>
        obtain ⟨j, hj, rfl, rfl⟩ := hrel
        have hb := nbits_lt j q hxl
        by_cases hjt : j < 8
        · have hv : Hid (nbits (j + 1) q = bit (nbits j q)) := rfl
          generalize nbits j q = c at *
          by_cases h2 : c % 2 = 1
          · have hb2 : ((c : Int) % 2 == 1) = true := by simp; omega
            have hv2 : Hid (bit c = c / 2 ^^^ 3988292384) := by show bit c = _; unfold bit; rw [if_pos h2]
            have hp := xor_poly c hb
            clear h2
            go_wp2
            go_round
            case rel => exact ⟨j + 1, by omega, by go_num, by rw [unhide hv, unhide hv2]⟩
            case measure => simp [intOf]; omega
          · have hb2 : ((c : Int) % 2 == 1) = false := by simp; omega
            have hv2 : Hid (bit c = c / 2) := by show bit c = _; unfold bit; rw [if_neg h2]
            clear h2
            go_wp2
            go_round
            case rel => exact ⟨j + 1, by omega, by go_num, by rw [unhide hv, unhide hv2]; congr 1⟩
            case measure => simp [intOf]; omega
        · obtain rfl : j = 8 := by omega
          rw [unhide hpast] at hb ⊢
          go_wp2
          go_round
          case rel => exact ⟨k + 1, by omega, by go_num, rfl⟩
          case measure => simp [intOf]; omega
    · obtain rfl : k = n := by omega
      have e : bs.take k = bs := List.take_of_length_le (by have := unhide HN; omega)
      rw [e] at hrl ⊢
      have hx2 := not_u32 _ hrl
      go_wp2
      go_ret
      exact ⟨rfl, rfl⟩

theorem rsum_any (xv : Value) (bs : List UInt8) (w : World) (hx : Has w xv bs) :
    Calls Try.prog 55 #[xv] w fun e w' => e = .returned (.int .u32 (more 0 bs : Nat)) ∧ w' = w := by
  have HW := hide (rmore_any 0 xv bs w (by omega) hx)
  clear hx
  go_enter Try.func55, Try.ntmps55
  go_wp2_with fail
  refine (unhide HW).mono ?_
  rintro e w1 ⟨rfl, rfl⟩
  go_wp2
  go_ret
  exact ⟨rfl, rfl⟩

end Crc
end Go.Proofs.Ytoffcbopolonoaa
