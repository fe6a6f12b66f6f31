/-
  The field's calls: the program's and the reference's.
-/
import Derived.Test.YtdmcnblnoiahcaaAeSpec
import Derived.Great.BuildSlice
import Derived.Laws.BitsAllLaws
namespace Go.Proofs.Ytdmcnblnoiahcaa
open Go.RowKit
set_option linter.unusedSimpArgs false
set_option linter.unusedVariables false
namespace Ae

theorem and_bv (x y : UInt8) : bits .and .u8 (x.toNat : Int) (y.toNat : Int) = ((x &&& y).toNat : Int) := by
  rw [u8_and_nat _ _ x.toNat_lt y.toNat_lt, UInt8.toNat_and]
theorem and1_bv (x : UInt8) : bits .and .u8 (x.toNat : Int) 1 = ((x &&& (1 : UInt8)).toNat : Int) := and_bv x 1
theorem or_bv (x y : UInt8) : bits .or .u8 (x.toNat : Int) (y.toNat : Int) = ((x ||| y).toNat : Int) := by
  rw [u8_or_nat _ _ x.toNat_lt y.toNat_lt, UInt8.toNat_or]
theorem xor_bv (x y : UInt8) : bits .xor .u8 (x.toNat : Int) (y.toNat : Int) = ((x ^^^ y).toNat : Int) := by
  rw [u8_xor_nat _ _ x.toNat_lt y.toNat_lt, UInt8.toNat_xor]
theorem mul_bv (x y : UInt8) : (x.toNat : Int) * (y.toNat : Int) % 256 = ((x * y).toNat : Int) := by
  rw [UInt8.toNat_mul]; omega
theorem mul27_bv (x : UInt8) : (x.toNat : Int) * 27 % 256 = ((x * (27 : UInt8)).toNat : Int) := mul_bv x 27
theorem shl1_bv (x : UInt8) : (x.toNat : Int) * 2 % 256 = ((x <<< (1 : UInt8)).toNat : Int) :=
  all_bytes (p := fun x => (x.toNat : Int) * 2 % 256 = ((x <<< (1 : UInt8)).toNat : Int)) (by decide +kernel) x
theorem shr7_bv (x : UInt8) : (x.toNat : Int) / 128 = ((x >>> (7 : UInt8)).toNat : Int) :=
  all_bytes (p := fun x => (x.toNat : Int) / 128 = ((x >>> (7 : UInt8)).toNat : Int)) (by decide +kernel) x
theorem shr1_bv (x : UInt8) : (x.toNat : Int) / 2 = ((x >>> (1 : UInt8)).toNat : Int) :=
  all_bytes (p := fun x => (x.toNat : Int) / 2 = ((x >>> (1 : UInt8)).toNat : Int)) (by decide +kernel) x
theorem shr1_toNat (x : UInt8) : (x >>> (1 : UInt8)).toNat = x.toNat / 2 := by have := shr1_bv x; omega

theorem mulK_succ (k : Nat) (a b : UInt8) : mulK (k + 1) a b = (a * (b &&& (1 : UInt8))) ^^^ mulK k (xt a) (b >>> (1 : UInt8)) := rfl

set_option maxRecDepth 100000 in
theorem times_any (a b : UInt8) (w : World) :
    Calls Try.prog 54 #[.int .u8 (a.toNat : Int), .int .u8 (b.toNat : Int)] w fun e w' => e = .returned (.int .u8 ((mul a b).toNat : Int)) ∧ w' = w := by
  go_enter Try.func54, Try.ntmps54
  go_wp2
  go_loop [0, 1, 5] (fun p q s => ∃ (k : Nat) (x y z : UInt8), k ≤ 8 ∧ y.toNat < 2 ^ (8 - k) ∧ p = .int .u8 (x.toNat : Int) ∧ q = .int .u8 (y.toNat : Int) ∧ s = .int .u8 (z.toNat : Int) ∧ z ^^^ mulK (8 - k) x y = mul a b) (fun _ q _ => (intOf q).toNat)
  case atStart => exact ⟨0, a, b, 0, Nat.zero_le _, b.toNat_lt, rfl, rfl, rfl, by simp [mul]⟩
  case round =>
    obtain ⟨k, x, y, z, hk, hy, rfl, rfl, rfl, hz⟩ := hrel
    by_cases h0 : y = 0
    · subst h0
      rw [mulK_zero] at hz
      have HZ := hide hz
      clear hz hy
      go_wp2
      go_ret
      rw [← unhide HZ]
      simp
    · have hne : ((y.toNat : Int) != 0) = true := by
        have : y.toNat ≠ 0 := fun e => h0 (UInt8.toNat_inj.1 e)
        simp; omega
      have hk8 : k < 8 := by
        rcases Nat.lt_or_ge k 8 with h | h
        · exact h
        · exfalso
          have : 8 - k = 0 := by omega
          rw [this] at hy
          exact h0 (UInt8.toNat_inj.1 (by simp at hy ⊢; omega))
      rw [show 8 - k = (8 - (k + 1)) + 1 by omega] at hz hy
      rw [mulK_succ, ← UInt8.xor_assoc] at hz
      have HZ := hide hz
      have HY := hide hy
      clear hz hy
      go_wp2
      go_round
      case rel =>
        refine ⟨k + 1, xt x, y >>> (1 : UInt8), z ^^^ (x * (y &&& (1 : UInt8))), by omega, ?_, ?_, ?_, ?_, unhide HZ⟩
        · rw [shr1_toNat]
          have := unhide HY
          rw [Nat.pow_succ] at this
          omega
        · rw [shl1_bv, shr7_bv, mul27_bv, xor_bv]; rfl
        · rw [shr1_bv]
        · rw [and1_bv, mul_bv, xor_bv]
      case measure =>
        simp only [intOf]
        have : y.toNat ≠ 0 := fun e => h0 (UInt8.toNat_inj.1 e)
        omega

theorem shrv_bv (x : UInt8) (n : Nat) : (x.toNat : Int) / 2 ^ n = ((shrN x n).toNat : Int) := by
  induction n with
  | zero => simp [shrN]
  | succ n ih =>
    show _ = ((shrN x n >>> (1 : UInt8)).toNat : Int)
    have e : (0 : Int) ≤ 2 ^ n := Int.pow_nonneg (by decide)
    rw [shr1_toNat, Int.pow_succ, ← Int.ediv_ediv_of_nonneg e, ih]
    omega
theorem shlv_bv (x : UInt8) (n : Nat) : (x.toNat : Int) * 2 ^ n % 256 = ((shlN x n).toNat : Int) := by
  have e : (2 : Int) ^ n = ((2 ^ n : Nat) : Int) := by push_cast; rfl
  unfold shlN
  rw [UInt8.toNat_ofNat', e, ← Int.natCast_mul]
  omega
theorem shr_num (b : UInt8) (n : Nat) (m : Int) (h : (2 : Int) ^ n = m) : (b.toNat : Int) / m = ((shrN b n).toNat : Int) := by rw [← h]; exact shrv_bv b n
theorem shl_num (b : UInt8) (n : Nat) (m : Int) (h : (2 : Int) ^ n = m) : (b.toNat : Int) * m % 256 = ((shlN b n).toNat : Int) := by rw [← h]; exact shlv_bv b n

theorem xor27_bv (x : UInt8) : bits .xor .u8 (x.toNat : Int) 27 = ((x ^^^ (27 : UInt8)).toNat : Int) := xor_bv x 27

set_option maxRecDepth 100000 in
theorem rtimes_any (a b : UInt8) (w : World) :
    Calls Try.prog 49 #[.int .u8 (a.toNat : Int), .int .u8 (b.toNat : Int)] w fun e w' => e = .returned (.int .u8 ((mul a b).toNat : Int)) ∧ w' = w := by
  go_enter Try.func49, Try.ntmps49
  go_wp2
  go_loop [0, 5, 6, 7] (fun p s i h => ∃ (k : Nat) (x z : UInt8), k ≤ 8 ∧ p = .int .u8 (x.toNat : Int) ∧ i = .int .i64 k ∧ s = .int .u8 (z.toNat : Int) ∧ z ^^^ mulK (8 - k) x (shrN b k) = mul a b) (fun _ _ i _ => 8 - (intOf i).toNat)
  case atStart => exact ⟨0, a, 0, Nat.zero_le _, rfl, rfl, rfl, by simp [mul, shrN]⟩
  case round =>
    obtain ⟨k, x, z, hk, rfl, rfl, rfl, hz⟩ := hrel
    by_cases hlt : k < 8
    · have hnext : shrN b k >>> (1 : UInt8) = shrN b (k + 1) := rfl
      have hb : bits .and .u8 ((b.toNat : Int) / 2 ^ k) 1 = ((shrN b k &&& (1 : UInt8)).toNat : Int) := by rw [shrv_bv b k, and1_bv]
      have ht := shr7_bv x
      rw [show 8 - k = (8 - (k + 1)) + 1 by omega, mulK_succ, ← UInt8.xor_assoc, hnext] at hz
      have HX : Hid (xt x = (x <<< (1 : UInt8)) ^^^ ((x >>> (7 : UInt8)) * (27 : UInt8))) := rfl
      have HZ := hide hz
      clear hz hnext
      rcases bit_of (shrN b k) with e1 | e1 <;> rcases top_of x with e2 | e2
      · rw [e1] at hb HZ
        rw [e2] at ht HX
        have hb' : (bits .and .u8 ((b.toNat : Int) / 2 ^ k) 1 == 1) = false := by rw [hb]; rfl
        have ht' : ((x.toNat : Int) / 128 == 1) = false := by rw [ht]; rfl
        clear e1 e2
        have HB := hide hb
        have HT := hide ht
        clear hb ht
        go_wp2
        go_round
        case rel => exact ⟨k + 1, xt x, z, by omega, by rw [shl1_bv, unhide HX]; simp, by go_num, rfl, by rw [← unhide HZ]; simp⟩
        case measure => simp [intOf]; omega
      · rw [e1] at hb HZ
        rw [e2] at ht HX
        have hb' : (bits .and .u8 ((b.toNat : Int) / 2 ^ k) 1 == 1) = false := by rw [hb]; rfl
        have ht' : ((x.toNat : Int) / 128 == 1) = true := by rw [ht]; rfl
        clear e1 e2
        have HB := hide hb
        have HT := hide ht
        clear hb ht
        go_wp2
        go_round
        case rel => exact ⟨k + 1, xt x, z, by omega, by rw [shl1_bv, xor27_bv, unhide HX]; rfl, by go_num, rfl, by rw [← unhide HZ]; simp⟩
        case measure => simp [intOf]; omega
      · rw [e1] at hb HZ
        rw [e2] at ht HX
        have hb' : (bits .and .u8 ((b.toNat : Int) / 2 ^ k) 1 == 1) = true := by rw [hb]; rfl
        have ht' : ((x.toNat : Int) / 128 == 1) = false := by rw [ht]; rfl
        clear e1 e2
        have HB := hide hb
        have HT := hide ht
        clear hb ht
        go_wp2
        go_round
        case rel => exact ⟨k + 1, xt x, z ^^^ x, by omega, by rw [shl1_bv, unhide HX]; simp, by go_num, by rw [xor_bv], by rw [← unhide HZ]; simp⟩
        case measure => simp [intOf]; omega
      · rw [e1] at hb HZ
        rw [e2] at ht HX
        have hb' : (bits .and .u8 ((b.toNat : Int) / 2 ^ k) 1 == 1) = true := by rw [hb]; rfl
        have ht' : ((x.toNat : Int) / 128 == 1) = true := by rw [ht]; rfl
        clear e1 e2
        have HB := hide hb
        have HT := hide ht
        clear hb ht
        go_wp2
        go_round
        case rel => exact ⟨k + 1, xt x, z ^^^ x, by omega, by rw [shl1_bv, xor27_bv, unhide HX]; rfl, by go_num, by rw [xor_bv], by rw [← unhide HZ]; simp⟩
        case measure => simp [intOf]; omega
    · obtain rfl : k = 8 := by omega
      have HZ := hide hz
      clear hz
      go_wp2
      go_ret
      rw [← unhide HZ]
      simp [mulK]

set_option maxRecDepth 100000 in
theorem rot1_any (b : UInt8) (w : World) :
    Calls Try.prog 70 #[.int .u8 (b.toNat : Int), .int .i64 1] w fun e w' => e = .returned (.int .u8 ((rotl b 1).toNat : Int)) ∧ w' = w := by
  have h7 : bits .and .u64 1 7 = 1 := by kernel_rfl
  go_enter Try.func70, Try.ntmps70
  go_wp2
  go_ret
  rw [shl_num b 1 _ (by decide), shr_num b 7 _ (by decide), or_bv]
  exact ⟨rfl, rfl⟩

set_option maxRecDepth 100000 in
theorem rot2_any (b : UInt8) (w : World) :
    Calls Try.prog 70 #[.int .u8 (b.toNat : Int), .int .i64 2] w fun e w' => e = .returned (.int .u8 ((rotl b 2).toNat : Int)) ∧ w' = w := by
  have h7 : bits .and .u64 2 7 = 2 := by kernel_rfl
  go_enter Try.func70, Try.ntmps70
  go_wp2
  go_ret
  rw [shl_num b 2 _ (by decide), shr_num b 6 _ (by decide), or_bv]
  exact ⟨rfl, rfl⟩

set_option maxRecDepth 100000 in
theorem rot3_any (b : UInt8) (w : World) :
    Calls Try.prog 70 #[.int .u8 (b.toNat : Int), .int .i64 3] w fun e w' => e = .returned (.int .u8 ((rotl b 3).toNat : Int)) ∧ w' = w := by
  have h7 : bits .and .u64 3 7 = 3 := by kernel_rfl
  go_enter Try.func70, Try.ntmps70
  go_wp2
  go_ret
  rw [shl_num b 3 _ (by decide), shr_num b 5 _ (by decide), or_bv]
  exact ⟨rfl, rfl⟩

set_option maxRecDepth 100000 in
theorem rot4_any (b : UInt8) (w : World) :
    Calls Try.prog 70 #[.int .u8 (b.toNat : Int), .int .i64 4] w fun e w' => e = .returned (.int .u8 ((rotl b 4).toNat : Int)) ∧ w' = w := by
  have h7 : bits .and .u64 4 7 = 4 := by kernel_rfl
  go_enter Try.func70, Try.ntmps70
  go_wp2
  go_ret
  rw [shl_num b 4 _ (by decide), shr_num b 4 _ (by decide), or_bv]
  exact ⟨rfl, rfl⟩

set_option maxRecDepth 100000 in
theorem rot6_any (b : UInt8) (w : World) :
    Calls Try.prog 70 #[.int .u8 (b.toNat : Int), .int .i64 6] w fun e w' => e = .returned (.int .u8 ((rotl b 6).toNat : Int)) ∧ w' = w := by
  have h7 : bits .and .u64 6 7 = 6 := by kernel_rfl
  go_enter Try.func70, Try.ntmps70
  go_wp2
  go_ret
  rw [shl_num b 6 _ (by decide), shr_num b 2 _ (by decide), or_bv]
  exact ⟨rfl, rfl⟩

/-- an array of bytes, at an index -/
theorem index_arr (t n : Nat) (vs : List Value) (k : IntKind) (i : Nat) (w : World) (hu : Try.prog.underlying t = some (.array n 5)) (hi : i < n) (v : Value) (hv : vs[i]? = some v) :
    (Instr.index t (.agg vs.toArray) (.int k (i : Int))).run Try.prog w = .ok v w := by
  have hs : (sizeOf 5).run Try.prog w = .ok 1 w := by
    obtain ⟨i0, hi0, hz0, hz1, hz2⟩ := info_parts Try.info5
    simp [sizeOf, typeInfo, hi0, hz1]
  have hin : (0 : Int) ≤ (i : Int) ∧ (i : Int) < (n : Int) := ⟨by omega, by omega⟩
  have hp : (part 5 vs.toArray i).run Try.prog w = .ok v w := by
    have ha : (isAgg 5).run Try.prog w = .ok false w := by
      unfold isAgg
      rw [Sem.run_bind, run_underlying Try.underlying5 w]
      rfl
    have hv' : vs.toArray[i]? = some v := by simpa using hv
    unfold part
    simp only [Sem.run_bind, ha, Result.andThen_ok]
    simp [hv']
  unfold Instr.index
  simp only [Sem.run_bind, asIntOf, Sem.run_pure, Result.andThen_ok, run_underlying hu w, if_pos hin, hs, Int.toNat_natCast, Nat.mul_one]
  exact hp

def invI : List Value := (invs.map fun x => (x.toNat : Int)).map (Value.int .u8)
set_option maxRecDepth 20000 in
theorem inv_at (b : UInt8) : invI[b.toNat]? = some (.int .u8 ((inv b).toNat : Int)) := by
  have hb := b.toNat_lt
  have hlen : invs.length = 256 := by kernel_rfl
  have hg : invs[b.toNat]? = some (inv b) := by
    unfold inv
    rw [List.getD_eq_getElem?_getD]
    cases h : invs[b.toNat]? with
    | none => rw [List.getElem?_eq_none_iff] at h; omega
    | some v => rfl
  unfold invI
  rw [List.getElem?_map, List.getElem?_map, hg]
  rfl

theorem Try.under256 : Try.prog.underlying 81 = some (.array 256 5) := by kernel_rfl

set_option maxRecDepth 20000 in
theorem inverse_any (b : UInt8) (w : World) :
    Calls Try.prog 69 #[.int .u8 (b.toNat : Int)] w fun e w' => e = .returned (.int .u8 ((inv b).toNat : Int)) ∧ w' = w := by
  obtain ⟨zs, hzs⟩ : ∃ zs, zs = invs.map fun x => (x.toNat : Int) := ⟨_, rfl⟩
  have hix : (Instr.index 81 (.agg (zs.map (Value.int .u8)).toArray) (.int .u8 (b.toNat : Int))).run Try.prog w = .ok (.int .u8 ((inv b).toNat : Int)) w :=
    index_arr _ 256 _ .u8 b.toNat w Try.under256 b.toNat_lt _ (by rw [hzs]; exact inv_at b)
  have HZ := hide hzs
  clear hzs
  go_enter Try.func69, Try.ntmps69
  go_wp2_with (refine wpList_buildFlatArrTo rfl 81 5 256 _ rfl .u8 zs (some 3) rfl (by kernel_rfl) (by kernel_rfl) (by rw [unhide HZ]; kernel_rfl) (by rw [unhide HZ]; kernel_rfl) ?_)
  go_ret
  exact ⟨rfl, rfl⟩

theorem xor99_bv (x : UInt8) : bits .xor .u8 (x.toNat : Int) 99 = ((x ^^^ (99 : UInt8)).toNat : Int) := xor_bv x 99

set_option maxRecDepth 100000 in
theorem box_any (b : UInt8) (w : World) :
    Calls Try.prog 53 #[.int .u8 (b.toNat : Int)] w fun e w' => e = .returned (.int .u8 ((box b).toNat : Int)) ∧ w' = w := by
  go_enter Try.func53, Try.ntmps53
  go_wp2_with fail
  refine (inverse_any b _).mono ?_
  rintro e w1 ⟨rfl, rfl⟩
  go_wp2_with (first
    | (go_at_call 70; with_reducible refine (rot1_any (inv b) _).mono ?_; rintro e w1 ⟨rfl, rfl⟩)
    | (go_at_call 70; with_reducible refine (rot2_any (inv b) _).mono ?_; rintro e w1 ⟨rfl, rfl⟩)
    | (go_at_call 70; with_reducible refine (rot3_any (inv b) _).mono ?_; rintro e w1 ⟨rfl, rfl⟩)
    | (go_at_call 70; with_reducible refine (rot4_any (inv b) _).mono ?_; rintro e w1 ⟨rfl, rfl⟩))
  go_ret
  rw [xor_bv, xor_bv, xor_bv, xor_bv, xor99_bv]
  exact ⟨rfl, rfl⟩

set_option maxRecDepth 100000 in
theorem unbox_any (b : UInt8) (w : World) :
    Calls Try.prog 66 #[.int .u8 (b.toNat : Int)] w fun e w' => e = .returned (.int .u8 ((unbox b).toNat : Int)) ∧ w' = w := by
  have hx := xor99_bv b
  have HU : Hid (unbox b = inv (rotl (b ^^^ 99) 1 ^^^ rotl (b ^^^ 99) 3 ^^^ rotl (b ^^^ 99) 6)) := rfl
  generalize b ^^^ 99 = c at *
  have h1 := xor_bv (rotl c 1) (rotl c 3)
  have h2 := xor_bv (rotl c 1 ^^^ rotl c 3) (rotl c 6)
  have r1 := rot1_any c w
  have r3 := rot3_any c w
  have r6 := rot6_any c w
  generalize rotl c 1 ^^^ rotl c 3 = p at *
  generalize p ^^^ rotl c 6 = q at *
  generalize rotl c 1 = c1 at *
  generalize rotl c 3 = c3 at *
  generalize rotl c 6 = c6 at *
  have HX := hide hx
  have R1 := hide r1
  have R3 := hide r3
  have R6 := hide r6
  clear r1 r3 r6
  go_enter Try.func66, Try.ntmps66
  go_wp2_with (first
    | (go_at_call 70; with_reducible refine (unhide R1).mono ?_; rintro e w1 ⟨rfl, rfl⟩)
    | (go_at_call 70; with_reducible refine (unhide R3).mono ?_; rintro e w1 ⟨rfl, rfl⟩)
    | (go_at_call 70; with_reducible refine (unhide R6).mono ?_; rintro e w1 ⟨rfl, rfl⟩)
    | (go_at_call 69; refine (inverse_any q _).mono ?_; rintro e w1 ⟨rfl, rfl⟩))
  go_ret
  rw [unhide HU]
  exact ⟨rfl, rfl⟩

set_option maxRecDepth 8000 in
theorem rinverse_any (b : UInt8) (w : World) :
    Calls Try.prog 74 #[.int .u8 (b.toNat : Int)] w fun e w' => e = .returned (.int .u8 ((inv b).toNat : Int)) ∧ w' = w := by
  obtain ⟨f, hf⟩ : ∃ f : Nat → UInt8, f = fun k => pw k b := ⟨_, rfl⟩
  have H0 : Hid (f 0 = 1) := by show f 0 = 1; rw [hf]; rfl
  have HS : Hid (∀ k, mul (f k) b = f (k + 1)) := by show ∀ k, mul (f k) b = f (k + 1); rw [hf]; intro k; rfl
  have HP : Hid (f 254 = inv b) := by show f 254 = inv b; rw [hf]; exact pw254 b
  clear hf
  go_enter Try.func74, Try.ntmps74
  go_wp2
  go_loop [3, 4] (fun a i => ∃ k : Nat, k ≤ 254 ∧ i = .int .i64 k ∧ a = .int .u8 ((f k).toNat : Int)) (fun _ i => 254 - (intOf i).toNat)
  case atStart => exact ⟨0, Nat.zero_le _, rfl, by rw [unhide H0]; rfl⟩
  case round =>
    obtain ⟨k, hk, rfl, rfl⟩ := hrel
    by_cases hlt : k < 254
    · go_wp2_with fail
      refine (rtimes_any (f k) b _).mono ?_
      rintro e w1 ⟨rfl, rfl⟩
      go_wp2
      go_round
      case rel => exact ⟨k + 1, by omega, by go_num, by rw [unhide HS]⟩
      case measure => simp [intOf]; omega
    · have hk2 : k = 254 := by omega
      have HF : Hid (f k = inv b) := by show f k = inv b; rw [hk2]; exact unhide HP
      clear hk2
      go_wp2
      go_ret
      rw [unhide HF]
      exact ⟨rfl, rfl⟩

theorem xor_num (x c : UInt8) (m : Int) (h : (c.toNat : Int) = m) : bits .xor .u8 (x.toNat : Int) m = ((x ^^^ c).toNat : Int) := by rw [← h]; exact xor_bv x c
theorem mod_bv (x : UInt8) : (x.toNat : Int) % 256 = ((shlN x 0).toNat : Int) := by have := shlv_bv x 0; simpa using this

set_option maxRecDepth 100000 in
theorem rbox_any (b : UInt8) (w : World) :
    Calls Try.prog 68 #[.int .u8 (b.toNat : Int)] w fun e w' => e = .returned (.int .u8 ((box b).toNat : Int)) ∧ w' = w := by
  have HB : Hid (rspread (inv b) 8 = box b) := rspread_eq (inv b)
  go_enter Try.func68, Try.ntmps68
  go_wp2_with fail
  refine (rinverse_any b _).mono ?_
  rintro e w1 ⟨rfl, rfl⟩
  generalize inv b = x at *
  go_wp2
  go_loop [4, 5, 6] (fun a i v => ∃ k : Nat, k ≤ 8 ∧ i = .int .i64 k ∧ a = .int .u8 ((rspread x k).toNat : Int)) (fun _ i _ => 8 - (intOf i).toNat)
  case atStart => exact ⟨0, Nat.zero_le _, rfl, rfl⟩
  case round =>
    obtain ⟨k, hk, rfl, rfl⟩ := hrel
    by_cases hlt : k < 8
    · have hk8 : k = 0 ∨ k = 1 ∨ k = 2 ∨ k = 3 ∨ k = 4 ∨ k = 5 ∨ k = 6 ∨ k = 7 := by omega
      clear hk hlt
      rcases hk8 with rfl | rfl | rfl | rfl | rfl | rfl | rfl | rfl
      · have HQ : Hid (rspread x 1 = rspread x 0 ||| shlN ((shrN x 0 ^^^ shrN x 4 ^^^ shrN x 5 ^^^ shrN x 6 ^^^ shrN x 7 ^^^ 99) &&& (1 : UInt8)) 0) := rfl
        go_wp2
        go_round
        case rel =>
          refine ⟨1, by omega, rfl, ?_⟩
          rw [unhide HQ]
          simp only [shr_num x 4 16 (by decide), shr_num x 5 32 (by decide), shr_num x 6 64 (by decide), shr_num x 7 128 (by decide)]
          have z0 : (x.toNat : Int) = ((shrN x 0).toNat : Int) := rfl
          rw [z0, xor_bv, xor_bv, xor_bv, xor_bv, xor_num _ 99 99 rfl, and1_bv, mod_bv, or_bv]
        case measure => simp [intOf]
      · have HQ : Hid (rspread x 2 = rspread x 1 ||| shlN ((shrN x 1 ^^^ shrN x 5 ^^^ shrN x 6 ^^^ shrN x 7 ^^^ shrN x 0 ^^^ 49) &&& (1 : UInt8)) 1) := rfl
        go_wp2
        go_round
        case rel =>
          refine ⟨2, by omega, rfl, ?_⟩
          rw [unhide HQ]
          simp only [shr_num x 1 2 (by decide), shr_num x 5 32 (by decide), shr_num x 6 64 (by decide), shr_num x 7 128 (by decide)]
          have z0 : (x.toNat : Int) = ((shrN x 0).toNat : Int) := rfl
          rw [z0, xor_bv, xor_bv, xor_bv, xor_bv, xor_num _ 49 49 rfl, and1_bv, shl_num _ 1 2 (by decide), or_bv]
        case measure => simp [intOf]
      · have HQ : Hid (rspread x 3 = rspread x 2 ||| shlN ((shrN x 2 ^^^ shrN x 6 ^^^ shrN x 7 ^^^ shrN x 0 ^^^ shrN x 1 ^^^ 24) &&& (1 : UInt8)) 2) := rfl
        go_wp2
        go_round
        case rel =>
          refine ⟨3, by omega, rfl, ?_⟩
          rw [unhide HQ]
          simp only [shr_num x 1 2 (by decide), shr_num x 2 4 (by decide), shr_num x 6 64 (by decide), shr_num x 7 128 (by decide)]
          have z0 : (x.toNat : Int) = ((shrN x 0).toNat : Int) := rfl
          rw [z0, xor_bv, xor_bv, xor_bv, xor_bv, xor_num _ 24 24 rfl, and1_bv, shl_num _ 2 4 (by decide), or_bv]
        case measure => simp [intOf]
      · have HQ : Hid (rspread x 4 = rspread x 3 ||| shlN ((shrN x 3 ^^^ shrN x 7 ^^^ shrN x 0 ^^^ shrN x 1 ^^^ shrN x 2 ^^^ 12) &&& (1 : UInt8)) 3) := rfl
        go_wp2
        go_round
        case rel =>
          refine ⟨4, by omega, rfl, ?_⟩
          rw [unhide HQ]
          simp only [shr_num x 1 2 (by decide), shr_num x 2 4 (by decide), shr_num x 3 8 (by decide), shr_num x 7 128 (by decide)]
          have z0 : (x.toNat : Int) = ((shrN x 0).toNat : Int) := rfl
          rw [z0, xor_bv, xor_bv, xor_bv, xor_bv, xor_num _ 12 12 rfl, and1_bv, shl_num _ 3 8 (by decide), or_bv]
        case measure => simp [intOf]
      · have HQ : Hid (rspread x 5 = rspread x 4 ||| shlN ((shrN x 4 ^^^ shrN x 0 ^^^ shrN x 1 ^^^ shrN x 2 ^^^ shrN x 3 ^^^ 6) &&& (1 : UInt8)) 4) := rfl
        go_wp2
        go_round
        case rel =>
          refine ⟨5, by omega, rfl, ?_⟩
          rw [unhide HQ]
          simp only [shr_num x 1 2 (by decide), shr_num x 2 4 (by decide), shr_num x 3 8 (by decide), shr_num x 4 16 (by decide)]
          have z0 : (x.toNat : Int) = ((shrN x 0).toNat : Int) := rfl
          rw [z0, xor_bv, xor_bv, xor_bv, xor_bv, xor_num _ 6 6 rfl, and1_bv, shl_num _ 4 16 (by decide), or_bv]
        case measure => simp [intOf]
      · have HQ : Hid (rspread x 6 = rspread x 5 ||| shlN ((shrN x 5 ^^^ shrN x 1 ^^^ shrN x 2 ^^^ shrN x 3 ^^^ shrN x 4 ^^^ 3) &&& (1 : UInt8)) 5) := rfl
        go_wp2
        go_round
        case rel =>
          refine ⟨6, by omega, rfl, ?_⟩
          rw [unhide HQ]
          simp only [shr_num x 1 2 (by decide), shr_num x 2 4 (by decide), shr_num x 3 8 (by decide), shr_num x 4 16 (by decide), shr_num x 5 32 (by decide)]
          rw [xor_bv, xor_bv, xor_bv, xor_bv, xor_num _ 3 3 rfl, and1_bv, shl_num _ 5 32 (by decide), or_bv]
        case measure => simp [intOf]
      · have HQ : Hid (rspread x 7 = rspread x 6 ||| shlN ((shrN x 6 ^^^ shrN x 2 ^^^ shrN x 3 ^^^ shrN x 4 ^^^ shrN x 5 ^^^ 1) &&& (1 : UInt8)) 6) := rfl
        go_wp2
        go_round
        case rel =>
          refine ⟨7, by omega, rfl, ?_⟩
          rw [unhide HQ]
          simp only [shr_num x 2 4 (by decide), shr_num x 3 8 (by decide), shr_num x 4 16 (by decide), shr_num x 5 32 (by decide), shr_num x 6 64 (by decide)]
          rw [xor_bv, xor_bv, xor_bv, xor_bv, xor_num _ 1 1 rfl, and1_bv, shl_num _ 6 64 (by decide), or_bv]
        case measure => simp [intOf]
      · have HQ : Hid (rspread x 8 = rspread x 7 ||| shlN ((shrN x 7 ^^^ shrN x 3 ^^^ shrN x 4 ^^^ shrN x 5 ^^^ shrN x 6 ^^^ 0) &&& (1 : UInt8)) 7) := rfl
        go_wp2
        go_round
        case rel =>
          refine ⟨8, by omega, rfl, ?_⟩
          rw [unhide HQ]
          simp only [shr_num x 3 8 (by decide), shr_num x 4 16 (by decide), shr_num x 5 32 (by decide), shr_num x 6 64 (by decide), shr_num x 7 128 (by decide)]
          rw [xor_bv, xor_bv, xor_bv, xor_bv, xor_num _ 0 0 rfl, and1_bv, shl_num _ 7 128 (by decide), or_bv]
        case measure => simp [intOf]
    · obtain rfl : k = 8 := by omega
      rw [unhide HB]
      go_wp2
      go_ret
      exact ⟨rfl, rfl⟩

end Ae
end Go.Proofs.Ytdmcnblnoiahcaa
