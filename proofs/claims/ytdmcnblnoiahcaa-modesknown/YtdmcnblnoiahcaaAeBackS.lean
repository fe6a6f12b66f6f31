/-
  What is sealed is opened: plain.
-/
import Derived.Test.YtdmcnblnoiahcaaAeCip
namespace Go.Proofs.Ytdmcnblnoiahcaa
open Go.RowKit
set_option linter.unusedSimpArgs false
set_option linter.unusedVariables false
namespace Ae

theorem sixteen (s : List UInt8) (hs : s.length = 16) : ∃ x0 x1 x2 x3 x4 x5 x6 x7 x8 x9 x10 x11 x12 x13 x14 x15, s = [x0, x1, x2, x3, x4, x5, x6, x7, x8, x9, x10, x11, x12, x13, x14, x15] := by
  match s, hs with
  | [x0, x1, x2, x3, x4, x5, x6, x7, x8, x9, x10, x11, x12, x13, x14, x15], _ => exact ⟨_, _, _, _, _, _, _, _, _, _, _, _, _, _, _, _, rfl⟩

def c4 (a b c d f0 f1 f2 f3 : UInt8) : UInt8 := (((0 ^^^ mul a f0) ^^^ mul b f1) ^^^ mul c f2) ^^^ mul d f3

theorem mixed_16 (x0 x1 x2 x3 x4 x5 x6 x7 x8 x9 x10 x11 x12 x13 x14 x15 : UInt8) (f0 f1 f2 f3 : UInt8) : times [x0, x1, x2, x3, x4, x5, x6, x7, x8, x9, x10, x11, x12, x13, x14, x15] [f0, f1, f2, f3] =
    [c4 x0 x1 x2 x3 f0 f1 f2 f3, c4 x1 x2 x3 x0 f0 f1 f2 f3, c4 x2 x3 x0 x1 f0 f1 f2 f3, c4 x3 x0 x1 x2 f0 f1 f2 f3,
     c4 x4 x5 x6 x7 f0 f1 f2 f3, c4 x5 x6 x7 x4 f0 f1 f2 f3, c4 x6 x7 x4 x5 f0 f1 f2 f3, c4 x7 x4 x5 x6 f0 f1 f2 f3,
     c4 x8 x9 x10 x11 f0 f1 f2 f3, c4 x9 x10 x11 x8 f0 f1 f2 f3, c4 x10 x11 x8 x9 f0 f1 f2 f3, c4 x11 x8 x9 x10 f0 f1 f2 f3,
     c4 x12 x13 x14 x15 f0 f1 f2 f3, c4 x13 x14 x15 x12 f0 f1 f2 f3, c4 x14 x15 x12 x13 f0 f1 f2 f3, c4 x15 x12 x13 x14 f0 f1 f2 f3] := by kernel_rfl

theorem back_a (a : UInt8) : ((mul (mul a 2) 14 ^^^ mul (mul a 1) 11) ^^^ mul (mul a 1) 13) ^^^ mul (mul a 3) 9 = a :=
  all_bytes (p := fun a => ((mul (mul a 2) 14 ^^^ mul (mul a 1) 11) ^^^ mul (mul a 1) 13) ^^^ mul (mul a 3) 9 = a) (by decide +kernel) a
theorem back_b (a : UInt8) : ((mul (mul a 3) 14 ^^^ mul (mul a 2) 11) ^^^ mul (mul a 1) 13) ^^^ mul (mul a 1) 9 = 0 :=
  all_bytes (p := fun a => ((mul (mul a 3) 14 ^^^ mul (mul a 2) 11) ^^^ mul (mul a 1) 13) ^^^ mul (mul a 1) 9 = 0) (by decide +kernel) a
theorem back_c (a : UInt8) : ((mul (mul a 1) 14 ^^^ mul (mul a 3) 11) ^^^ mul (mul a 2) 13) ^^^ mul (mul a 1) 9 = 0 :=
  all_bytes (p := fun a => ((mul (mul a 1) 14 ^^^ mul (mul a 3) 11) ^^^ mul (mul a 2) 13) ^^^ mul (mul a 1) 9 = 0) (by decide +kernel) a
theorem back_d (a : UInt8) : ((mul (mul a 1) 14 ^^^ mul (mul a 1) 11) ^^^ mul (mul a 3) 13) ^^^ mul (mul a 2) 9 = 0 :=
  all_bytes (p := fun a => ((mul (mul a 1) 14 ^^^ mul (mul a 1) 11) ^^^ mul (mul a 3) 13) ^^^ mul (mul a 2) 9 = 0) (by decide +kernel) a
theorem there_a (a : UInt8) : ((mul (mul a 14) 2 ^^^ mul (mul a 9) 3) ^^^ mul (mul a 13) 1) ^^^ mul (mul a 11) 1 = a :=
  all_bytes (p := fun a => ((mul (mul a 14) 2 ^^^ mul (mul a 9) 3) ^^^ mul (mul a 13) 1) ^^^ mul (mul a 11) 1 = a) (by decide +kernel) a
theorem there_b (a : UInt8) : ((mul (mul a 11) 2 ^^^ mul (mul a 14) 3) ^^^ mul (mul a 9) 1) ^^^ mul (mul a 13) 1 = 0 :=
  all_bytes (p := fun a => ((mul (mul a 11) 2 ^^^ mul (mul a 14) 3) ^^^ mul (mul a 9) 1) ^^^ mul (mul a 13) 1 = 0) (by decide +kernel) a
theorem there_c (a : UInt8) : ((mul (mul a 13) 2 ^^^ mul (mul a 11) 3) ^^^ mul (mul a 14) 1) ^^^ mul (mul a 9) 1 = 0 :=
  all_bytes (p := fun a => ((mul (mul a 13) 2 ^^^ mul (mul a 11) 3) ^^^ mul (mul a 14) 1) ^^^ mul (mul a 9) 1 = 0) (by decide +kernel) a
theorem there_d (a : UInt8) : ((mul (mul a 9) 2 ^^^ mul (mul a 13) 3) ^^^ mul (mul a 11) 1) ^^^ mul (mul a 14) 1 = 0 :=
  all_bytes (p := fun a => ((mul (mul a 9) 2 ^^^ mul (mul a 13) 3) ^^^ mul (mul a 11) 1) ^^^ mul (mul a 14) 1 = 0) (by decide +kernel) a

/-- sixteen summands, by columns in the place of rows -/
theorem turn16 (a0 a1 a2 a3 b0 b1 b2 b3 c0 c1 c2 c3 d0 d1 d2 d3 : UInt8) :
    (((0 ^^^ (((0 ^^^ a0) ^^^ b0) ^^^ c0 ^^^ d0)) ^^^ (((0 ^^^ b1) ^^^ c1) ^^^ d1 ^^^ a1)) ^^^ (((0 ^^^ c2) ^^^ d2) ^^^ a2 ^^^ b2)) ^^^ (((0 ^^^ d3) ^^^ a3) ^^^ b3 ^^^ c3) =
    ((((a0 ^^^ a1) ^^^ a2) ^^^ a3) ^^^ (((b0 ^^^ b1) ^^^ b2) ^^^ b3)) ^^^ ((((c0 ^^^ c1) ^^^ c2) ^^^ c3) ^^^ (((d0 ^^^ d1) ^^^ d2) ^^^ d3)) := by
  simp only [UInt8.zero_xor]
  ac_rfl

theorem mul_c4 (a b c d f0 f1 f2 f3 g : UInt8) : mul (c4 a b c d f0 f1 f2 f3) g = ((0 ^^^ mul (mul a f0) g) ^^^ mul (mul b f1) g) ^^^ mul (mul c f2) g ^^^ mul (mul d f3) g := by
  unfold c4
  rw [xor_mul, xor_mul, xor_mul, xor_mul]
  rw [show mul 0 g = 0 from (mul_lin_left g).zero]

theorem col_back (a b c d : UInt8) : c4 (c4 a b c d 2 3 1 1) (c4 b c d a 2 3 1 1) (c4 c d a b 2 3 1 1) (c4 d a b c 2 3 1 1) 14 11 13 9 = a := by
  show (((0 ^^^ mul (c4 a b c d 2 3 1 1) 14) ^^^ mul (c4 b c d a 2 3 1 1) 11) ^^^ mul (c4 c d a b 2 3 1 1) 13) ^^^ mul (c4 d a b c 2 3 1 1) 9 = a
  rw [mul_c4, mul_c4, mul_c4, mul_c4, turn16, back_a, back_b, back_c, back_d]
  simp
theorem col_there (a b c d : UInt8) : c4 (c4 a b c d 14 11 13 9) (c4 b c d a 14 11 13 9) (c4 c d a b 14 11 13 9) (c4 d a b c 14 11 13 9) 2 3 1 1 = a := by
  show (((0 ^^^ mul (c4 a b c d 14 11 13 9) 2) ^^^ mul (c4 b c d a 14 11 13 9) 3) ^^^ mul (c4 c d a b 14 11 13 9) 1) ^^^ mul (c4 d a b c 14 11 13 9) 1 = a
  rw [mul_c4, mul_c4, mul_c4, mul_c4, turn16, there_a, there_b, there_c, there_d]
  simp

theorem unmixed_mixed (s : List UInt8) (hs : s.length = 16) : unmixed (mixed s) = s := by
  obtain ⟨x0, x1, x2, x3, x4, x5, x6, x7, x8, x9, x10, x11, x12, x13, x14, x15, rfl⟩ := sixteen s hs
  unfold unmixed mixed
  rw [mixed_16, mixed_16]
  simp only [col_back]
theorem mixed_unmixed (s : List UInt8) (hs : s.length = 16) : mixed (unmixed s) = s := by
  obtain ⟨x0, x1, x2, x3, x4, x5, x6, x7, x8, x9, x10, x11, x12, x13, x14, x15, rfl⟩ := sixteen s hs
  unfold unmixed mixed
  rw [mixed_16, mixed_16]
  simp only [col_there]
theorem unshifted_shifted (s : List UInt8) (hs : s.length = 16) : unshifted (shifted s) = s := by
  obtain ⟨x0, x1, x2, x3, x4, x5, x6, x7, x8, x9, x10, x11, x12, x13, x14, x15, rfl⟩ := sixteen s hs
  kernel_rfl
theorem shifted_unshifted (s : List UInt8) (hs : s.length = 16) : shifted (unshifted s) = s := by
  obtain ⟨x0, x1, x2, x3, x4, x5, x6, x7, x8, x9, x10, x11, x12, x13, x14, x15, rfl⟩ := sixteen s hs
  kernel_rfl
theorem map_back (s : List UInt8) : (s.map box).map unbox = s := by
  rw [List.map_map]
  conv => rhs; rw [← List.map_id s]
  exact List.map_congr_left (fun x _ => unbox_box x)
theorem map_there (s : List UInt8) : (s.map unbox).map box = s := by
  rw [List.map_map]
  conv => rhs; rw [← List.map_id s]
  exact List.map_congr_left (fun x _ => box_unbox x)
theorem added_added (s k : List UInt8) (h : s.length = k.length) : added (added s k) k = s := by
  unfold added
  apply List.ext_getElem?
  intro i
  rw [List.getElem?_zipWith, List.getElem?_zipWith]
  by_cases hi : i < s.length
  · rw [gt_some s i hi, gt_some k i (by omega)]
    show some ((gt s i ^^^ gt k i) ^^^ gt k i) = _
    rw [UInt8.xor_assoc, UInt8.xor_self, UInt8.xor_zero]
  · rw [List.getElem?_eq_none (by omega : s.length ≤ i)]

theorem last_back (s k : List UInt8) (hs : s.length = 16) (hk : k.length = 16) : lastBack (last s k) k = s := by
  unfold lastBack last
  rw [added_added _ _ (by rw [shifted_length, hk]), unshifted_shifted _ (by simp [hs]), map_back]
theorem back_last (s k : List UInt8) (hs : s.length = 16) (hk : k.length = 16) : last (lastBack s k) k = s := by
  unfold lastBack last
  rw [map_there, shifted_unshifted _ (added_length hs hk), added_added _ _ (by rw [hs, hk])]
theorem middle_back (s k : List UInt8) (hs : s.length = 16) (hk : k.length = 16) : middleBack (middle s k) k = s := by
  unfold middleBack middle
  rw [added_added _ _ (by rw [mixed_length, hk]), unmixed_mixed _ (shifted_length _), unshifted_shifted _ (by simp [hs]), map_back]
theorem back_middle (s k : List UInt8) (hs : s.length = 16) (hk : k.length = 16) : middle (middleBack s k) k = s := by
  unfold middleBack middle
  rw [map_there, shifted_unshifted _ (unmixed_length _), mixed_unmixed _ (added_length hs hk), added_added _ _ (by rw [hs, hk])]

theorem sealT_succ (bs : List UInt8) (m : Nat) (s : List UInt8) (i : Nat) : sealT bs m s (i + 1) = if i = 0 then added (sealT bs m s i) (blkOf bs i) else if i + 1 = m then last (sealT bs m s i) (blkOf bs i) else middle (sealT bs m s i) (blkOf bs i) := rfl
theorem openT_succ (bs : List UInt8) (m : Nat) (s : List UInt8) (i : Nat) : openT bs m s (i + 1) = if i = 0 then lastBack (openT bs m s i) (blkOf bs (m - 1 - i)) else if i + 1 = m then added (openT bs m s i) (blkOf bs (m - 1 - i)) else middleBack (openT bs m s i) (blkOf bs (m - 1 - i)) := rfl
theorem open_seal (bs : List UInt8) (m : Nat) (hm : 2 ≤ m) (hl : bs.length = 16 * m) (s : List UInt8) (hs : s.length = 16) (j : Nat) (hj : j ≤ m) : openT bs m (sealT bs m s m) j = sealT bs m s (m - j) := by
  induction j with
  | zero => rfl
  | succ j ih =>
    have h := ih (by omega)
    obtain ⟨i, hi⟩ : ∃ i, m - j = i + 1 := ⟨m - j - 1, by omega⟩
    have hk := blkOf_length bs m i hl (by omega)
    have hsl := sealT_length bs m hl s hs i (by omega)
    rw [hi] at h
    rw [show m - (j + 1) = i by omega]
    rw [openT_succ, h, show m - 1 - j = i by omega, sealT_succ]
    by_cases h0 : j = 0
    · rw [if_pos h0, if_neg (by omega), if_pos (by omega)]
      exact last_back _ _ hsl hk
    · rw [if_neg h0]
      by_cases h1 : j + 1 = m
      · rw [if_pos h1, if_pos (by omega)]
        exact added_added _ _ (hsl.trans hk.symm)
      · rw [if_neg h1, if_neg (by omega), if_neg (by omega)]
        exact middle_back _ _ hsl hk
theorem seal_open (bs : List UInt8) (m : Nat) (hm : 2 ≤ m) (hl : bs.length = 16 * m) (s : List UInt8) (hs : s.length = 16) (j : Nat) (hj : j ≤ m) : sealT bs m (openT bs m s m) j = openT bs m s (m - j) := by
  induction j with
  | zero => rfl
  | succ j ih =>
    have h := ih (by omega)
    obtain ⟨i, hi⟩ : ∃ i, m - j = i + 1 := ⟨m - j - 1, by omega⟩
    have hk := blkOf_length bs m j hl (by omega)
    have hsl := openT_length bs m hl s hs i (by omega)
    rw [hi] at h
    rw [show m - (j + 1) = i by omega]
    rw [sealT_succ, h, openT_succ, show m - 1 - i = j by omega]
    by_cases h0 : j = 0
    · rw [if_pos h0, if_neg (by omega), if_pos (by omega)]
      exact added_added _ _ (hsl.trans hk.symm)
    · rw [if_neg h0]
      by_cases h1 : j + 1 = m
      · rw [if_pos h1, if_pos (by omega)]
        exact back_last _ _ hsl hk
      · rw [if_neg h1, if_neg (by omega), if_neg (by omega)]
        exact back_middle _ _ hsl hk

end Ae
end Go.Proofs.Ytdmcnblnoiahcaa
