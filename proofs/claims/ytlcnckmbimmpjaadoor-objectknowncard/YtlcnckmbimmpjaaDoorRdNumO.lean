/-
  octet's Reader: number.
-/
import Derived.Test.YtlcnckmbimmpjaaDoorRd
import Derived.Test.YtlcnckmbimmpjaaDoorDe
namespace Go.Proofs.YtlcnckmbimmpjaaDoor
open Go.RowKit
set_option linter.unusedSimpArgs false
set_option linter.unusedVariables false
namespace RO

set_option maxHeartbeats 400000 in
set_option maxRecDepth 100000 in
theorem number_yes (b : Nat) (v : Value) (lack : Bool) (rest : List UInt8) (n : Nat) (w : World) (h : RdAt 110 w b v lack rest) (hn : n ≤ rest.length) (h8 : n ≤ 8) :
    Calls Tryd.prog 98 #[.pointer (some ⟨b, 0, none⟩), .int .i64 n] w fun e w' => e = .returned (.int .u64 (de (rest.take n))) ∧ ∃ f v', Took 110 w b v lack rest n w' f v' := by
  have HW := hide (take_yes b v lack rest n w h hn)
  go_enter Tryd.func98, Tryd.ntmps98
  go_wp2_with fail
  refine (unhide HW).mono ?_
  rintro e w1 ⟨f, rfl, v', ht⟩
  have hlen : (rest.take n).length = n := by simp; omega
  have hfr := ht.front
  have HT := hide ht
  clear ht
  obtain ⟨fs, hfs⟩ : ∃ fs, fs = rest.take n := ⟨_, rfl⟩
  rw [← hfs] at hfr hlen
  have HF := hide hfs
  clear hfs
  obtain ⟨ao, cap, hf, hlc, hm⟩ := hfr.shape
  rw [hlen] at hf
  subst hf
  go_wp2
  go_loop [5, 12] (fun a i => ∃ k : Nat, k ≤ n ∧ i = .int .i64 k ∧ a = .int .u64 (de (fs.take k))) (fun _ i => n - (intOf i).toNat)
  case atStart => exact ⟨0, Nat.zero_le _, rfl, rfl⟩
  case round =>
    obtain ⟨k, hk, rfl, rfl⟩ := hrel
    by_cases hlt : k < n
    · obtain ⟨bb, off, hao, hq, hc⟩ := hfr.at (by omega)
      subst hao
      clear hq
      have hck : w1.cell? ⟨bb, off + k, none⟩ = some (.int .u8 ((fs[k]'(by omega)).toNat : Int)) := hc k (by omega)
      clear hc
      have hd := de_bound fs k (by omega)
      have hs := de_take fs k (by omega)
      have hb8 := (fs[k]'(by omega)).toNat_lt
      have HS := hide hs
      clear hs
      generalize de (fs.take k) = d at *
      generalize (fs[k]'(by omega)).toNat = c at *
      go_wp2
      go_round
      case rel =>
        refine ⟨k + 1, by omega, by go_num, ?_⟩
        rw [HS.out, or_byte d c hd (by omega)]
      case measure => simp [intOf]; omega
    · obtain rfl : k = n := by omega
      go_wp2
      go_ret
      have e : fs.take k = fs := List.take_of_length_le (by omega)
      rw [e, HF.out]
      exact ⟨rfl, _, _, unhide HT⟩

theorem number_no (b : Nat) (v : Value) (lack : Bool) (rest : List UInt8) (n : Nat) (w : World) (h : RdAt 110 w b v lack rest) (hn : rest.length < n) :
    Calls Tryd.prog 98 #[.pointer (some ⟨b, 0, none⟩), .int .i64 n] w fun e w' => e = .returned (.int .u64 0) ∧ Lacks 110 w b w' := by
  have HW := hide (take_no b v lack rest n w h (Or.inr (by omega)))
  go_enter Tryd.func98, Tryd.ntmps98
  go_wp2_with fail
  refine (unhide HW).mono ?_
  rintro e w1 ⟨rfl, hl⟩
  go_wp2
  refine wp_loop_rounds 1 ?_
  rw [rounds_succ]
  go_wp2
  go_ret
  exact ⟨rfl, hl⟩

end RO
end Go.Proofs.YtlcnckmbimmpjaaDoor
