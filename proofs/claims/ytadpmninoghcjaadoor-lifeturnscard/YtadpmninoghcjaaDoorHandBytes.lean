/-
  locksmithhand's Bytes: so many bytes of a raw number.
-/
import Derived.Test.YtadpmninoghcjaaDoorMem
namespace Go.Proofs.YtadpmninoghcjaaDoor
open Go.RowKit
set_option linter.unusedSimpArgs false
set_option linter.unusedVariables false

/-- the number behind k rounds -/
def rnd (s : Nat) : Nat → Nat
  | 0 => s
  | k + 1 => (rnd s k * 6364136223846793005 + 1442695040888963407) % 18446744073709551616

theorem rnd_lt (s k : Nat) (hs : s < 18446744073709551616) : rnd s k < 18446744073709551616 := by
  cases k with
  | zero => exact hs
  | succ k => exact Nat.mod_lt _ (by omega)

/-- k bytes of it -/
def rawTo (s : Nat) : Nat → List UInt8
  | 0 => []
  | k + 1 => rawTo s k ++ [UInt8.ofNat (rnd s (k + 1) / 1099511627776)]

theorem rawTo_length (s k : Nat) : (rawTo s k).length = k := by induction k with
  | zero => rfl
  | succ k ih => simp [rawTo, ih]

def toU64' (n : Int) : Nat := (n % 18446744073709551616).toNat

def rawBytes (n : Nat) (s : Int) : List UInt8 := rawTo (toU64' s) n

theorem rawBytes_length (n : Nat) (s : Int) : (rawBytes n s).length = n := rawTo_length _ _

theorem raw_step (s k n : Nat) (hk : k < n) : (rawTo s k ++ List.replicate (n - k) 0).set k (UInt8.ofNat (rnd s (k + 1) / 1099511627776)) = rawTo s (k + 1) ++ List.replicate (n - (k + 1)) 0 := by
  obtain ⟨m, hm⟩ : ∃ m, n - k = m + 1 := ⟨n - k - 1, by omega⟩
  have e : n - (k + 1) = m := by omega
  rw [hm, e, List.set_append_right _ _ (by rw [rawTo_length]; exact Nat.le_refl _), rawTo_length, Nat.sub_self, List.replicate_succ, List.set_cons_zero]
  simp [rawTo]

theorem rnd_wrap (r : Nat) : IntKind.u64.wrap (IntKind.u64.wrap ((r : Int) * 6364136223846793005) + 1442695040888963407) = (((r * 6364136223846793005 + 1442695040888963407) % 18446744073709551616 : Nat) : Int) := by
  rw [IntKind.wrap_u64, IntKind.wrap_u64]
  omega

theorem bv_shr40 (q : Nat) : Value.int .u8 ((q : Int) / 1099511627776 % 256) = bv (UInt8.ofNat (q / 1099511627776)) := by
  unfold bv
  congr 1

set_option maxRecDepth 100000 in
set_option maxHeartbeats 400000 in
theorem handBytes_any (n : Nat) (s : Int) (w : World) (hn : n ≤ 1000000) (h1 : -9223372036854775808 ≤ s) (h2 : s ≤ 9223372036854775807) :
    Calls Tryd.prog 29 #[.int .i64 n, .int .i64 s] w fun e w' => ∃ v, e = .returned v ∧ Made w w' v (rawBytes n s) := by
  obtain ⟨i0, hi, hz0, hz1, hz2⟩ := info_parts Tryd.info5
  have hs : toU64' s < 18446744073709551616 := by unfold toU64'; omega
  go_enter Tryd.func29, Tryd.ntmps29
  go_wp2_with (at_make; refine wpList_make_full _ rfl (.tmp 8) (.tmp 8) 22 rfl w.heap.size 5 i0 (.int .u8 0) 1 Tryd.underlying22 hi hz0 hz1 .i64 .i64 n n n rfl rfl rfl rfl (by rw [hz2]; omega) (by unfold maxLen; omega) (Nat.le_refl _) ?_; intro w1 own1 gr1; have ho1 : Only (fun _ => False) w w1 := (Only.refl _ _).grown gr1 (fun k h => by cases h))
  have hz : (madeCells (Value.int IntKind.u8 0).cells (n * 1)).toList = ((List.replicate n 0).map bv) := by
    rw [Nat.mul_one]
    show (madeCells #[Value.int IntKind.u8 0] n).toList = _
    rw [toList_madeCells_one]
    simp [bv]
  rw [hz] at own1
  clear hz
  have hu : IntKind.u64.wrap s = (toU64' s : Int) := by rw [IntKind.wrap_u64]; unfold toU64'; omega
  rw [hu]
  generalize hq : toU64' s = q at *
  have HQ := hide hq
  clear hq hu
  go_loopw [6, 7] (fun x i wr => ∃ k : Nat, k ≤ n ∧ i = .int .i64 k ∧ x = .int .u64 (rnd q k : Nat) ∧ wr.ownsRow w.heap.size 5 1 (.slice (some ⟨w.heap.size, 0, none⟩) n n) n ((rawTo q k ++ List.replicate (n - k) 0).map bv) ∧ Only (fun _ => False) w wr) (fun _ i _ => n - (intOf i).toNat)
  case atStart => exact ⟨0, Nat.zero_le _, rfl, rfl, own1, ho1⟩
  case round =>
    obtain ⟨k, hk, rfl, rfl, own, ho⟩ := hrel
    by_cases hlt : k < n
    · have hc := own.cellAt k (by omega)
      have hf := own.frozenAt k
      have hl : k < (rawTo q k ++ List.replicate (n - k) (0 : UInt8)).length := by simp [rawTo_length]; omega
      rw [List.getElem?_map, List.getElem?_eq_getElem hl] at hc
      simp only [Option.map_some, bv] at hc
      generalize ((rawTo q k ++ List.replicate (n - k) (0 : UInt8))[k]'hl).toNat = old at *
      have HS := hide (own.stored k (bv (UInt8.ofNat (rnd q (k + 1) / 1099511627776))))
      have hb := rnd_lt q k hs
      have hb1 := rnd_lt q (k + 1) hs
      have HR : Hid (rnd q (k + 1) = (rnd q k * 6364136223846793005 + 1442695040888963407) % 18446744073709551616) := rfl
      have HT := hide (raw_step q k n hlt)
      generalize hr1 : rnd q (k + 1) = r1 at *
      have HR1 := hide hr1
      clear hr1
      generalize rnd q k = r at *
      clear own
      go_wp2
      rw [rnd_wrap, ← unhide HR, bv_shr40]
      have hst := unhide HS
      rw [← List.map_set, unhide HT] at hst
      go_roundw
      case rel => exact ⟨k + 1, by omega, by go_num, by rw [unhide HR1], hst.1, ho.grown hst.2 (fun j hj hl => by simp at hj; omega)⟩
      case measure => simp [intOf]; omega
    · obtain rfl : k = n := by omega
      rw [Nat.sub_self, List.replicate_zero, List.append_nil] at own
      go_wp2
      go_ret
      refine ⟨.slice (some ⟨w.heap.size, 0, none⟩) k k, rfl, ?_⟩
      have e : rawBytes k s = rawTo q k := by unfold rawBytes; rw [unhide HQ]
      rw [e]
      exact ⟨by rw [rawTo_length], by rw [rawTo_length]; exact own, ho⟩

end Go.Proofs.YtadpmninoghcjaaDoor
