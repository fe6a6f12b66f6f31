/-
  Chapter 6 in plain rules: which items are right, their bytes, and which bytes are an item; there and back.
-/
import Derived.Test.YtedmfjnmclbkpaaDoorTtSize
import Derived.Test.YtedmfjnmclbkpaaDoorDe
import Derived.Test.YtedmfjnmclbkpaaDoorU8
namespace Go.Proofs.YtedmfjnmclbkpaaDoor
open Go.RowKit
set_option linter.unusedSimpArgs false
set_option linter.unusedVariables false
namespace Tt

theorem toU64_eq (n : Int) : toU64 n = (n % 18446744073709551616).toNat := by unfold toU64; rw [IntKind.wrap_u64]
theorem be_de (bs : List UInt8) : be bs.length (de bs) = bs := by
  have key : ∀ (l : List UInt8) (a : Nat), be l.length (l.foldl (fun n b => n * 256 + b.toNat) a) = l := by
    intro l
    induction l with
    | nil => intro a; rfl
    | cons b r ih =>
      intro a
      rw [List.length_cons, be, List.foldl_cons, ih]
      congr 1
      have h : ∀ (m : List UInt8) (x : Nat), m.foldl (fun n b => n * 256 + b.toNat) x = x * 2 ^ (8 * m.length) + m.foldl (fun n b => n * 256 + b.toNat) 0 := by
        intro m
        induction m with
        | nil => intro x; simp
        | cons c t iht =>
          intro x
          rw [List.foldl_cons, List.foldl_cons, iht (x * 256 + c.toNat), iht (0 * 256 + c.toNat), List.length_cons, show 8 * (t.length + 1) = 8 + 8 * t.length by omega, Nat.pow_add, Nat.add_mul, Nat.add_mul, Nat.zero_mul]
          rw [Nat.mul_assoc, show (2 : Nat) ^ 8 = 256 from rfl]
          omega
      have hlt := foldl_lt r 0
      rw [h r (a * 256 + b.toNat)]
      have h8 : (256 : Nat) ^ r.length = 2 ^ (8 * r.length) := by rw [Nat.pow_mul]
      rw [h8, Nat.zero_add, Nat.one_mul] at hlt
      rw [Nat.mul_comm (a * 256 + b.toNat), Nat.mul_add_div (Nat.two_pow_pos _), Nat.div_eq_of_lt hlt, Nat.add_zero]
      apply UInt8.toNat_inj.1
      have := b.toNat_lt
      simp [UInt8.toNat_ofNat]
  exact key bs 0

theorem de_be (k n : Nat) : de (be k n) = n % 256 ^ k := by
  have key : ∀ (k a : Nat), (be k n).foldl (fun n b => n * 256 + b.toNat) a = a * 256 ^ k + n % 256 ^ k := by
    intro k
    induction k with
    | zero => intro a; simp [be, Nat.mod_one]
    | succ k ih =>
      intro a
      rw [be, List.foldl_cons, ih]
      have e : (UInt8.ofNat (n / 2 ^ (8 * k))).toNat = n / 2 ^ (8 * k) % 256 := by simp [UInt8.toNat_ofNat]
      have h8 : (2 : Nat) ^ (8 * k) = 256 ^ k := by rw [Nat.pow_mul]
      rw [e, h8, Nat.pow_succ, Nat.mod_mul (x := n) (a := 256 ^ k) (b := 256), Nat.add_mul]
      rw [Nat.mul_assoc a 256, Nat.mul_comm 256 (256 ^ k), Nat.mul_comm (n / 256 ^ k % 256)]
      omega
  simpa [de] using key k 0

def tagB (t : Int) : Bool := (decide (4325376 ≤ t) && decide (t ≤ 4390911)) || (decide (5505024 ≤ t) && decide (t ≤ 5570559))
/-- a type that there is -/
def typB (y : Int) : Bool := decide (1 ≤ y) && decide (y ≤ 10)
def isData (y : Int) : Prop := y = 4 ∨ y = 7 ∨ y = 8
instance (y : Int) : Decidable (isData y) := by unfold isData; exact inferInstance
def isNarrow (y : Int) : Prop := y = 2 ∨ y = 5 ∨ y = 10
instance (y : Int) : Decidable (isNarrow y) := by unfold isNarrow; exact inferInstance

/-- what may stand in an item of a type -/
def bodyB (y n : Int) (d : List UInt8) (k : Nat) : Bool :=
  if y = 1 then decide (n = 0) && decide (d.length = 0)
  else if isData y then decide (n = 0) && decide (k = 0) && (if y = 4 then decide (0 < d.length) && decide (d.length % 8 = 0) else if y = 7 then Lib.validD d else true)
  else decide (d.length = 0) && decide (k = 0) && (if y = 2 then decide (-2147483648 ≤ n) && decide (n ≤ 2147483647) else if y = 5 ∨ y = 10 then decide (0 ≤ n) && decide (n ≤ 4294967295) else if y = 6 then decide (n = 0) || decide (n = 1) else true)

/-- right, its kids apart -/
def fitsB : It → Bool
  | .mk t y n d ks => tagB t && typB y && bodyB y n d ks.length

/-- right, at most so deep -/
def okB : Nat → It → Bool
  | 0, _ => false
  | n + 1, i => fitsB i && i.kids.all (okB n)

/-- how long what stands in it is said to be -/
def lenOf (y : Int) (d ks : Nat) : Nat := if y = 1 then ks else if isData y then d else if isNarrow y then 4 else 8
def headL (t y : Int) (len : Nat) : List UInt8 := be 1 (t.toNat / 65536) ++ be 2 t.toNat ++ be 1 y.toNat ++ be 4 len
mutual
/-- chapter 6.2's bytes -/
def It.lay : It → List UInt8
  | .mk t y n d ks => headL t y (lenOf y d.length (It.sizeAll ks)) ++ (if y = 1 then It.layAll ks else if isData y then d ++ List.replicate (pad8 d.length - d.length) 0 else if isNarrow y then be 4 (toU64 n) ++ List.replicate 4 0 else be 8 (toU64 n))
def It.layAll : List It → List UInt8
  | [] => []
  | k :: r => k.lay ++ It.layAll r
end
theorem layAll_append (a b : List It) : It.layAll (a ++ b) = It.layAll a ++ It.layAll b := by
  induction a with
  | nil => simp [It.layAll]
  | cons x a ih => simp [It.layAll, ih]
theorem headL_length (t y : Int) (len : Nat) : (headL t y len).length = 8 := by simp [headL, be_length]
theorem pad8_ge (n : Nat) : n ≤ pad8 n := by unfold pad8; omega
mutual
theorem lay_length : ∀ (i : It), i.lay.length = i.size
  | .mk t y n d ks => by
    rw [It.lay, It.size, List.length_append, headL_length]
    congr 1
    have h := layAll_length ks
    have := pad8_ge d.length
    by_cases h1 : y = 1
    · rw [if_pos h1, if_pos h1, h]
    · rw [if_neg h1, if_neg h1]
      by_cases h2 : isData y
      · rw [if_pos h2, if_pos (show y = 4 ∨ y = 7 ∨ y = 8 from h2)]
        simp
        omega
      · rw [if_neg h2, if_neg (show ¬ (y = 4 ∨ y = 7 ∨ y = 8) from h2)]
        by_cases h3 : isNarrow y
        · rw [if_pos h3]; simp [be_length]
        · rw [if_neg h3, be_length]
theorem layAll_length : ∀ (ks : List It), (It.layAll ks).length = It.sizeAll ks
  | [] => rfl
  | k :: r => by rw [It.layAll, It.sizeAll, List.length_append, lay_length k, layAll_length r]
end
theorem size_ge (i : It) : 8 ≤ i.size := by
  obtain ⟨t, y, n, d, ks⟩ := i
  rw [It.size]
  omega
mutual
theorem size_mod : ∀ (i : It), i.size % 8 = 0
  | .mk t y n d ks => by
    have h := sizeAll_mod ks
    rw [It.size]
    split
    · omega
    · split
      · unfold pad8; omega
      · rfl
theorem sizeAll_mod : ∀ (ks : List It), It.sizeAll ks % 8 = 0
  | [] => rfl
  | k :: r => by have := size_mod k; have := sizeAll_mod r; rw [It.sizeAll]; omega
end

/-- the item is right -/
def rightB (i : It) : Bool := okB 12 i && decide (i.count ≤ 600) && decide (i.size ≤ 8192)

inductive RP where
  | err (e : Int) | ok (r : List UInt8)
inductive RK where
  | err (e : Int) | ok (ks : List It) (c : Nat)
inductive RI where
  | err (e : Int) | ok (i : It) (r : List UInt8) (c : Nat)

/-- what fills up -/
def pads : Nat → List UInt8 → RP
  | 0, r => .ok r
  | _ + 1, [] => .err 7
  | k + 1, b :: r => if b ≠ 0 then .err 11 else pads k r
/-- one by one -/
def many (f : List UInt8 → Nat → RI) : Nat → List UInt8 → Nat → List It → RK
  | _, [], c, acc => .ok acc c
  | 0, _ :: _, _, _ => .err 7
  | m + 1, b :: bs, c, acc => match f (b :: bs) c with
    | .err e => .err e
    | .ok i r c' => many f m r c' (acc ++ [i])
def sgn (m : Nat) (n : Nat) : Int := if 2 * n < m then n else (n : Int) - m
/-- the number that the bytes are -/
def numOf (y : Int) (b : List UInt8) : Int := if y = 2 then sgn 4294967296 (de b) else if isNarrow y then de b else sgn 18446744073709551616 (de b)
def lenB (y : Int) (len : Nat) : Bool := if isData y then true else if isNarrow y then decide (len = 4) else decide (len = 8)
def leafI (t y : Int) (b : List UInt8) : It := if isData y then .mk t y 0 b [] else .mk t y (numOf y b) [] []
def leafB (y : Int) (b : List UInt8) : Bool := lenB y b.length && (if isData y then bodyB y 0 b 0 else bodyB y (numOf y b) [] 0)
def fin (i : It) (c len : Nat) (r : List UInt8) : RI := match pads (pad8 len - len) r with
  | .err e => .err e
  | .ok r' => .ok i r' c
def tagOf (bs : List UInt8) : Nat := de (bs.take 1) * 65536 + de ((bs.drop 1).take 2)
def typOf (bs : List UInt8) : Nat := de ((bs.drop 3).take 1)
def lnOf (bs : List UInt8) : Nat := de ((bs.drop 4).take 4)
/-- chapter 6.3: one item from the front, at most so deep; c: the items so far -/
def dOne : Nat → List UInt8 → Nat → RI
  | 0, bs, _ => if bs.length < 8 then .err 7 else .err 10
  | n + 1, bs, c =>
    if bs.length < 8 then .err 7
    else if 600 ≤ c then .err 5
    else if (tagB (tagOf bs) && typB (typOf bs)) = false then .err 5
    else if bs.length - 8 < lnOf bs then .err 7
    else if typOf bs = 1 then (match many (dOne n) (lnOf bs) ((bs.drop 8).take (lnOf bs)) (c + 1) [] with
      | .err e => .err e
      | .ok ks c' => fin (.mk (tagOf bs) 1 0 [] ks) c' (lnOf bs) (bs.drop (8 + lnOf bs)))
    else if leafB (typOf bs) ((bs.drop 8).take (lnOf bs)) then fin (leafI (tagOf bs) (typOf bs) ((bs.drop 8).take (lnOf bs))) (c + 1) (lnOf bs) (bs.drop (8 + lnOf bs))
    else .err 5
/-- the whole -/
inductive RD where
  | err (e : Int) | ok (i : It)
def dAll (bs : List UInt8) : RD := if 8192 < bs.length then .err 6 else match dOne 12 bs 0 with
  | .err e => .err e
  | .ok i r _ => if r = [] then .ok i else .err 5

theorem pads_zeros (k : Nat) (r : List UInt8) : pads k (List.replicate k 0 ++ r) = .ok r := by
  induction k with
  | zero => simp [pads]
  | succ k ih => simp [pads, List.replicate_succ, ih]
theorem pads_ok : ∀ (k : Nat) (bs r : List UInt8), pads k bs = .ok r → bs = List.replicate k 0 ++ r
  | 0, bs, r, h => by simp [pads] at h; simp [h]
  | k + 1, [], r, h => by simp [pads] at h
  | k + 1, b :: bs, r, h => by
    rw [pads] at h
    by_cases hb : b = 0
    · rw [if_neg (by simpa using hb)] at h
      rw [pads_ok k bs r h, hb, List.replicate_succ]; rfl
    · rw [if_pos hb] at h; cases h

theorem take_drop_app (a b c : List UInt8) : ((a ++ (b ++ c)).drop a.length).take b.length = b := by simp
theorem head_reads (t y : Int) (len : Nat) (r : List UInt8) (ht : tagB t = true) (hy : typB y = true) (hl : len < 4294967296) :
    (tagOf (headL t y len ++ r) : Int) = t ∧ (typOf (headL t y len ++ r) : Int) = y ∧ lnOf (headL t y len ++ r) = len ∧ (headL t y len ++ r).drop 8 = r := by
  have ht' : 0 ≤ t ∧ t < 16777216 := by unfold tagB at ht; simp at ht; omega
  have hy' : 1 ≤ y ∧ y ≤ 10 := by unfold typB at hy; simpa using hy
  have e1 : (headL t y len ++ r).take 1 = be 1 (t.toNat / 65536) := by
    unfold headL; rw [List.append_assoc, List.append_assoc, List.append_assoc]; exact List.take_left' (be_length _ _)
  have e2 : ((headL t y len ++ r).drop 1).take 2 = be 2 t.toNat := by
    unfold headL; rw [List.append_assoc, List.append_assoc, List.append_assoc, List.drop_left' (be_length _ _)]; exact List.take_left' (be_length _ _)
  have e3 : ((headL t y len ++ r).drop 3).take 1 = be 1 y.toNat := by
    unfold headL; rw [List.append_assoc, List.append_assoc, List.drop_left' (by simp [be_length])]; exact List.take_left' (be_length _ _)
  have e4 : ((headL t y len ++ r).drop 4).take 4 = be 4 len := by
    unfold headL; rw [List.append_assoc, List.drop_left' (by simp [be_length])]; exact List.take_left' (be_length _ _)
  refine ⟨?_, ?_, ?_, List.drop_left' (headL_length _ _ _)⟩
  · unfold tagOf; rw [e1, e2, de_be, de_be]; omega
  · unfold typOf; rw [e3, de_be]; omega
  · unfold lnOf; rw [e4, de_be]; omega

theorem many_lay (f : List UInt8 → Nat → RI) : ∀ (ks : List It) (m c : Nat) (acc : List It), (∀ k ∈ ks, ∀ tail c, c + k.count ≤ 600 → f (k.lay ++ tail) c = .ok k tail (c + k.count)) → c + It.countAll ks ≤ 600 → It.sizeAll ks ≤ m →
    many f m (It.layAll ks) c acc = .ok (acc ++ ks) (c + It.countAll ks)
  | [], m, c, acc, h, hc, hm => by rw [It.layAll]; unfold many; simp [It.countAll]
  | k :: r, m, c, acc, h, hc, hm => by
    rw [It.countAll] at hc
    rw [It.sizeAll] at hm
    have h8 := size_ge k
    have hl : 8 ≤ (k.lay ++ It.layAll r).length := by rw [List.length_append, lay_length]; omega
    obtain ⟨m', rfl⟩ : ∃ m', m = m' + 1 := ⟨m - 1, by omega⟩
    have hf := h k (List.mem_cons_self ..) (It.layAll r) c (by omega)
    have ih := many_lay f r m' (c + k.count) (acc ++ [k]) (fun k hk => h k (List.mem_cons_of_mem _ hk)) (by omega) (by omega)
    rw [It.layAll]
    generalize hb : k.lay ++ It.layAll r = bs at hf hl
    cases bs with
    | nil => simp at hl
    | cons b bs =>
      rw [many, hf]
      simp only
      rw [ih, It.countAll]
      simp [Nat.add_assoc]

theorem sgn_4 (n : Int) (h : -2147483648 ≤ n ∧ n ≤ 2147483647) : sgn 4294967296 (toU64 n % 256 ^ 4) = n := by
  unfold sgn
  rw [toU64_eq, show 256 ^ 4 = 4294967296 from rfl]
  split <;> omega
theorem sgn_8 (n : Int) (h : W64 n) : sgn 18446744073709551616 (toU64 n % 256 ^ 8) = n := by
  unfold sgn
  unfold W64 at h
  rw [toU64_eq, show 256 ^ 8 = 18446744073709551616 from rfl]
  split <;> omega
mutual
theorem small_le : ∀ {m m' : Nat} (i : It), m ≤ m' → i.small m → i.small m'
  | m, m', .mk t y n d ks, hm, h => by
    rw [It.small] at h ⊢
    exact ⟨h.1, h.2.1, h.2.2.1, by omega, smallAll_le ks hm h.2.2.2.2⟩
theorem smallAll_le : ∀ {m m' : Nat} (ks : List It), m ≤ m' → It.smallAll m ks → It.smallAll m' ks
  | _, _, [], _, _ => trivial
  | m, m', k :: r, hm, h => by
    rw [It.smallAll] at h ⊢
    exact ⟨small_le k hm h.1, smallAll_le r hm h.2⟩
end
theorem size_le_all {ks : List It} {k : It} (h : k ∈ ks) : k.size ≤ It.sizeAll ks := by
  induction ks with
  | nil => cases h
  | cons x l ih =>
    rw [It.sizeAll]
    rcases List.mem_cons.1 h with rfl | h
    · omega
    · have := ih h; omega

/-- there and back -/
theorem dOne_lay : ∀ (n : Nat) (i : It) (tail : List UInt8) (c : Nat), okB n i = true → c + i.count ≤ 600 → i.size < 4294967296 → i.small 4294967295 → dOne n (i.lay ++ tail) c = .ok i tail (c + i.count)
  | 0, _, _, _, h, _, _, _ => by cases h
  | n + 1, .mk t y nn d ks, tail, c, h, hc, hs, hsm => by
    rw [okB, Bool.and_eq_true, fitsB, Bool.and_eq_true, Bool.and_eq_true] at h
    obtain ⟨⟨⟨ht, hy⟩, hb⟩, hk⟩ := h
    simp only [It.kids] at hk
    rw [It.count] at hc
    have hy' : 1 ≤ y ∧ y ≤ 10 := by unfold typB at hy; simpa using hy
    have hlen : lenOf y d.length (It.sizeAll ks) < 4294967296 := by
      rw [It.size] at hs
      have := pad8_ge d.length
      unfold lenOf
      by_cases h1 : y = 1
      · rw [if_pos h1] at hs ⊢; omega
      · rw [if_neg h1] at hs ⊢
        by_cases h2 : isData y
        · rw [if_pos (show y = 4 ∨ y = 7 ∨ y = 8 from h2)] at hs; rw [if_pos h2]; omega
        · rw [if_neg h2]; split <;> omega
    rw [It.lay, List.append_assoc, dOne]
    obtain ⟨e1, e2, e3, e4⟩ := head_reads t y (lenOf y d.length (It.sizeAll ks)) ((if y = 1 then It.layAll ks else if isData y then d ++ List.replicate (pad8 d.length - d.length) 0 else if isNarrow y then be 4 (toU64 nn) ++ List.replicate 4 0 else be 8 (toU64 nn)) ++ tail) ht hy hlen
    have hl8 : ¬ (headL t y (lenOf y d.length (It.sizeAll ks)) ++ ((if y = 1 then It.layAll ks else if isData y then d ++ List.replicate (pad8 d.length - d.length) 0 else if isNarrow y then be 4 (toU64 nn) ++ List.replicate 4 0 else be 8 (toU64 nn)) ++ tail)).length < 8 := by
      rw [List.length_append, headL_length]; omega
    have hlt : (headL t y (lenOf y d.length (It.sizeAll ks)) ++ ((if y = 1 then It.layAll ks else if isData y then d ++ List.replicate (pad8 d.length - d.length) 0 else if isNarrow y then be 4 (toU64 nn) ++ List.replicate 4 0 else be 8 (toU64 nn)) ++ tail)).length - 8 = ((if y = 1 then It.layAll ks else if isData y then d ++ List.replicate (pad8 d.length - d.length) 0 else if isNarrow y then be 4 (toU64 nn) ++ List.replicate 4 0 else be 8 (toU64 nn)) ++ tail).length := by
      rw [List.length_append, headL_length]; omega
    rw [if_neg hl8, if_neg (by omega), hlt, e1, e2, e3, ← List.drop_drop, e4, ht, hy]
    rw [if_neg (by simp)]
    have hyn : (typOf (headL t y (lenOf y d.length (It.sizeAll ks)) ++ ((if y = 1 then It.layAll ks else if isData y then d ++ List.replicate (pad8 d.length - d.length) 0 else if isNarrow y then be 4 (toU64 nn) ++ List.replicate 4 0 else be 8 (toU64 nn)) ++ tail)) = 1) = (y = 1) := by
      apply propext; constructor <;> intro h <;> omega
    simp only [hyn]
    rw [It.small] at hsm
    have hb0 := hb
    unfold bodyB at hb
    by_cases h1 : y = 1
    · subst h1
      simp only [if_true, lenOf] at hb ⊢
      simp only [Bool.and_eq_true, decide_eq_true_eq] at hb
      have hd : d = [] := List.eq_nil_of_length_eq_zero hb.2
      rw [if_neg (by rw [List.length_append, layAll_length]; omega), List.take_left' (layAll_length ks), List.drop_left' (layAll_length ks)]
      rw [It.size, if_pos rfl] at hs
      rw [many_lay (dOne n) ks _ (c + 1) [] (fun k hk' tail c hcc => dOne_lay n k tail c (List.all_eq_true.1 hk k hk') hcc (by
          have := size_le_all hk'; omega) ((smallAll_iff _ ks).1 hsm.2.2.2.2 k hk')) (by omega) (Nat.le_refl _)]
      simp only [fin]
      rw [show pad8 (It.sizeAll ks) - It.sizeAll ks = 0 by have := sizeAll_mod ks; unfold pad8; omega, pads]
      simp [hb.1, hd, It.count, Nat.add_assoc]
    · simp only [if_neg h1] at hb ⊢
      by_cases h2 : isData y
      · simp only [if_pos h2, lenOf, if_neg h1] at hb ⊢
        simp only [Bool.and_eq_true, decide_eq_true_eq] at hb
        have hk0 : ks = [] := List.eq_nil_of_length_eq_zero hb.1.2
        rw [if_neg (by simp)]
        rw [List.append_assoc, List.take_left' rfl, List.drop_left' rfl]
        rw [if_pos (by unfold leafB lenB; rw [if_pos h2, if_pos h2, Bool.true_and]; rw [hb.1.1, hk0] at hb0; exact hb0)]
        simp only [fin, pads_zeros, leafI, if_pos h2]
        simp [hb.1.1, hk0, It.count, It.countAll]
      · simp only [if_neg h2] at hb ⊢
        simp only [Bool.and_eq_true, decide_eq_true_eq] at hb
        have hk0 : ks = [] := List.eq_nil_of_length_eq_zero hb.1.2
        have hd0 : d = [] := List.eq_nil_of_length_eq_zero hb.1.1
        by_cases h3 : isNarrow y
        · simp only [if_pos h3, lenOf, if_neg h1, if_neg h2]
          rw [if_neg (by simp [be_length])]
          rw [List.append_assoc, List.take_left' (be_length _ _), List.drop_left' (be_length _ _)]
          have hnum : numOf y (be 4 (toU64 nn)) = nn := by
            unfold numOf
            rw [de_be]
            by_cases h4 : y = 2
            · rw [if_pos h4] at hb ⊢
              simp at hb
              exact sgn_4 nn hb.2
            · rw [if_neg h4] at hb ⊢
              rw [if_pos h3]
              rw [if_pos (show y = 5 ∨ y = 10 from by rcases h3 with h | h | h; exact absurd h h4; exact Or.inl h; exact Or.inr h)] at hb
              simp at hb
              rw [toU64_eq]
              omega
          rw [if_pos (by unfold leafB lenB; rw [if_neg h2, if_neg h2, if_pos h3, hnum, be_length, decide_eq_true rfl, Bool.true_and]; rw [hd0, hk0] at hb0; exact hb0)]
          simp only [fin, leafI, if_neg h2, hnum]
          rw [show pad8 4 - 4 = 4 from rfl, pads_zeros]
          simp [hd0, hk0, It.count, It.countAll]
        · simp only [if_neg h3, lenOf, if_neg h1, if_neg h2]
          rw [if_neg (by simp [be_length])]
          rw [List.take_left' (be_length _ _), List.drop_left' (be_length _ _)]
          have hnum : numOf y (be 8 (toU64 nn)) = nn := by
            unfold numOf
            rw [de_be, if_neg (fun e => h3 (Or.inl e)), if_neg h3]
            exact sgn_8 nn hsm.2.2.1
          rw [if_pos (by unfold leafB lenB; rw [if_neg h2, if_neg h2, if_neg h3, hnum, be_length, decide_eq_true rfl, Bool.true_and]; rw [hd0, hk0] at hb0; exact hb0)]
          simp only [fin, leafI, if_neg h2, hnum]
          rw [show pad8 8 - 8 = 0 from rfl, pads]
          simp [hd0, hk0, It.count, It.countAll]

theorem many_ok {P : It → Prop} {M : Nat} (f : List UInt8 → Nat → RI) (hf : ∀ bs c i r c', bs.length ≤ M → f bs c = .ok i r c' → bs = i.lay ++ r ∧ c' = c + i.count ∧ c' ≤ 600 ∧ P i) :
    ∀ (m : Nat) (bs : List UInt8) (c : Nat) (acc ks : List It) (c' : Nat), bs.length ≤ M → c ≤ 600 → many f m bs c acc = .ok ks c' → ∃ ks', ks = acc ++ ks' ∧ bs = It.layAll ks' ∧ c' = c + It.countAll ks' ∧ c' ≤ 600 ∧ ∀ k ∈ ks', P k
  | m, [], c, acc, ks, c', hM, hc, h => by
    unfold many at h
    simp only [RK.ok.injEq] at h
    exact ⟨[], by simp [h.1], rfl, by simp [It.countAll, h.2], by omega, fun k hk => by cases hk⟩
  | 0, b :: bs, c, acc, ks, c', hM, hc, h => by rw [many] at h; cases h
  | m + 1, b :: bs, c, acc, ks, c', hM, hc, h => by
    rw [many] at h
    cases hx : f (b :: bs) c with
    | err e => rw [hx] at h; cases h
    | ok i r c1 =>
      rw [hx] at h
      simp only at h
      obtain ⟨h1, h2, h3, h4⟩ := hf _ _ _ _ _ hM hx
      have hl : (b :: bs).length = i.lay.length + r.length := by rw [h1, List.length_append]
      obtain ⟨ks', e1, e2, e3, e4, e5⟩ := many_ok f hf m r c1 _ ks c' (by omega) h3 h
      refine ⟨i :: ks', by simp [e1], by rw [h1, It.layAll, e2], by rw [It.countAll]; omega, e4, fun k hk => ?_⟩
      rcases List.mem_cons.1 hk with rfl | hk
      · exact h4
      · exact e5 k hk

theorem fin_ok {i : It} {c len : Nat} {r : List UInt8} {i' : It} {r' : List UInt8} {c' : Nat} (h : fin i c len r = .ok i' r' c') : i' = i ∧ c' = c ∧ r = List.replicate (pad8 len - len) 0 ++ r' := by
  unfold fin at h
  cases hp : pads (pad8 len - len) r with
  | err e => rw [hp] at h; cases h
  | ok r2 =>
    rw [hp] at h
    simp only [RI.ok.injEq] at h
    obtain ⟨rfl, rfl, rfl⟩ := h
    exact ⟨rfl, rfl, pads_ok _ _ _ hp⟩

theorem de_take_lt (bs : List UInt8) (k : Nat) : de (bs.take k) < 256 ^ k := by
  refine Nat.lt_of_lt_of_le (de_lt _) (Nat.pow_le_pow_right (by decide) ?_)
  have := List.length_take_le k bs; omega
theorem de_append (a b : List UInt8) : de (a ++ b) = de a * 256 ^ b.length + de b := by
  have h : ∀ (m : List UInt8) (x : Nat), m.foldl (fun n b => n * 256 + b.toNat) x = x * 256 ^ m.length + m.foldl (fun n b => n * 256 + b.toNat) 0 := by
    intro m
    induction m with
    | nil => intro x; simp
    | cons c t ih =>
      intro x
      rw [List.foldl_cons, List.foldl_cons, ih (x * 256 + c.toNat), ih (0 * 256 + c.toNat), List.length_cons, Nat.pow_succ, Nat.add_mul, Nat.add_mul, Nat.zero_mul, Nat.mul_assoc, Nat.mul_comm 256]
      simp [Nat.add_assoc]
  unfold de
  rw [List.foldl_append, h]
theorem head_of (bs : List UInt8) (h : 8 ≤ bs.length) : headL (tagOf bs) (typOf bs) (lnOf bs) = bs.take 8 := by
  have hx : ∀ (k m : Nat), k + m ≤ bs.length → be m (de ((bs.drop k).take m)) = (bs.drop k).take m := fun k m hk => by
    have := be_de ((bs.drop k).take m)
    rwa [List.length_take, List.length_drop, Nat.min_eq_left (by omega)] at this
  have b1 := hx 0 1 (by omega)
  have b2 := hx 1 2 (by omega)
  have b3 := hx 3 1 (by omega)
  have b4 := hx 4 4 (by omega)
  rw [List.drop_zero] at b1
  have l2 := de_take_lt (bs.drop 1) 2
  have e1 : be 1 (((tagOf bs : Int)).toNat / 65536) = bs.take 1 := by
    rw [Int.toNat_natCast, tagOf, show (de (bs.take 1) * 65536 + de ((bs.drop 1).take 2)) / 65536 = de (bs.take 1) by omega, b1]
  have e2 : be 2 ((tagOf bs : Int)).toNat = (bs.drop 1).take 2 := by
    rw [Int.toNat_natCast, tagOf]
    have hd : be 2 (de (bs.take 1) * 65536 + de ((bs.drop 1).take 2)) = be 2 (de ((bs.drop 1).take 2)) := by
      simp only [be, List.cons.injEq, and_true]
      constructor
      · apply UInt8.toNat_inj.1; simp; omega
      · apply UInt8.toNat_inj.1; simp
    rw [hd, b2]
  have e3 : be 1 ((typOf bs : Int)).toNat = (bs.drop 3).take 1 := by rw [Int.toNat_natCast, typOf, b3]
  have e4 : be 4 (lnOf bs) = (bs.drop 4).take 4 := by rw [lnOf, b4]
  unfold headL
  rw [e1, e2, e3, e4]
  have s1 : bs.take 8 = bs.take 4 ++ (bs.drop 4).take 4 := by rw [← List.take_add]
  have s2 : bs.take 4 = bs.take 3 ++ (bs.drop 3).take 1 := by rw [← List.take_add]
  have s3 : bs.take 3 = bs.take 1 ++ (bs.drop 1).take 2 := by rw [← List.take_add]
  rw [s1, s2, s3]

theorem toU64_sgn4 (n : Nat) (h : n < 4294967296) : toU64 (sgn 4294967296 n) % 256 ^ 4 = n := by
  unfold sgn
  rw [toU64_eq, show 256 ^ 4 = 4294967296 from rfl]
  split <;> omega
theorem toU64_sgn8 (n : Nat) (h : n < 18446744073709551616) : toU64 (sgn 18446744073709551616 n) = n := by
  unfold sgn
  rw [toU64_eq]
  split <;> omega
theorem be_mod (k n : Nat) : be k n = be k (n % 256 ^ k) := by
  have h := be_de (be k n)
  rw [be_length, de_be] at h
  exact h.symm
theorem be_of (b : List UInt8) (k : Nat) (hb : b.length = k) (n : Nat) (h : n % 256 ^ k = de b) : be k n = b := by
  rw [be_mod, h, ← hb, be_de]

theorem leaf_lay (t y : Int) (b : List UInt8) (h1 : y ≠ 1) (h : leafB y b = true) : (leafI t y b).lay = headL t y b.length ++ b ++ List.replicate (pad8 b.length - b.length) 0 := by
  unfold leafB at h
  rw [Bool.and_eq_true] at h
  obtain ⟨hl, hb⟩ := h
  unfold lenB at hl
  unfold leafI
  by_cases h2 : isData y
  · rw [if_pos h2, It.lay, if_neg h1, if_pos h2, lenOf, if_neg h1, if_pos h2, List.append_assoc]
  · rw [if_neg h2, It.lay, if_neg h1, if_neg h2, lenOf, if_neg h1, if_neg h2]
    rw [if_neg h2] at hl
    have hdl := de_lt b
    by_cases h3 : isNarrow y
    · rw [if_pos h3] at hl ⊢
      have hl4 : b.length = 4 := of_decide_eq_true hl
      rw [if_pos h3, hl4, show pad8 4 - 4 = 4 from rfl, List.append_assoc]
      rw [hl4] at hdl
      rw [be_of b 4 hl4]
      unfold numOf
      by_cases h4 : y = 2
      · rw [if_pos h4]; exact toU64_sgn4 _ hdl
      · rw [if_neg h4, if_pos h3, toU64_eq, show 256 ^ 4 = 4294967296 from rfl]
        rw [show 256 ^ 4 = 4294967296 from rfl] at hdl
        omega
    · rw [if_neg h3] at hl ⊢
      have hl8 : b.length = 8 := of_decide_eq_true hl
      rw [if_neg h3, hl8, show pad8 8 - 8 = 0 from rfl]
      rw [hl8] at hdl
      unfold numOf
      rw [if_neg (fun e => h3 (Or.inl e)), if_neg h3, toU64_sgn8 _ hdl, be_of b 8 hl8 _ (Nat.mod_eq_of_lt hdl)]
      simp
theorem leaf_fits (t y : Int) (b : List UInt8) (ht : tagB t = true) (hy : typB y = true) (h : leafB y b = true) : fitsB (leafI t y b) = true := by
  unfold leafB at h
  rw [Bool.and_eq_true] at h
  unfold leafI
  by_cases h2 : isData y
  · rw [if_pos h2] at h ⊢; rw [fitsB, ht, hy]; exact h.2
  · rw [if_neg h2] at h ⊢; rw [fitsB, ht, hy]; exact h.2
theorem leaf_kids (t y : Int) (b : List UInt8) : (leafI t y b).kids = [] := by unfold leafI; split <;> rfl
theorem leaf_count (t y : Int) (b : List UInt8) : (leafI t y b).count = 1 := by unfold leafI; split <;> rfl
theorem sgn_w64 (m n : Nat) (h : n < m) (hm : m ≤ 18446744073709551616) : W64 (sgn m n) := by unfold sgn W64; split <;> omega
theorem leaf_small (t y : Int) (b : List UInt8) (M : Nat) (ht : W64 t) (hy : W64 y) (hb : b.length ≤ M) (h : leafB y b = true) : (leafI t y b).small M := by
  unfold leafB at h
  rw [Bool.and_eq_true] at h
  unfold leafI
  by_cases h2 : isData y
  · rw [if_pos h2, It.small]; exact ⟨ht, hy, by unfold W64; omega, hb, trivial⟩
  · rw [if_neg h2, It.small]
    refine ⟨ht, hy, ?_, Nat.zero_le _, trivial⟩
    have hl := h.1
    unfold lenB at hl
    rw [if_neg h2] at hl
    have hdl := de_lt b
    unfold numOf
    by_cases h3 : isNarrow y
    · rw [if_pos h3] at hl
      rw [of_decide_eq_true hl, show 256 ^ 4 = 4294967296 from rfl] at hdl
      by_cases h4 : y = 2
      · rw [if_pos h4]; exact sgn_w64 _ _ hdl (by decide)
      · rw [if_neg h4, if_pos h3]; unfold W64; omega
    · rw [if_neg h3] at hl
      rw [of_decide_eq_true hl, show 256 ^ 8 = 18446744073709551616 from rfl] at hdl
      rw [if_neg (fun e => h3 (Or.inl e)), if_neg h3]
      exact sgn_w64 _ _ hdl (by decide)

theorem tag_w64 {t : Int} (h : tagB t = true) : W64 t := by unfold tagB at h; simp at h; unfold W64; omega
theorem typ_w64 {t : Int} (h : typB t = true) : W64 t := by unfold typB at h; simp at h; unfold W64; omega

/-- back and there -/
theorem dOne_ok {M : Nat} : ∀ (n : Nat) (bs : List UInt8) (c : Nat) (i : It) (r : List UInt8) (c' : Nat), bs.length ≤ M → dOne n bs c = .ok i r c' → bs = i.lay ++ r ∧ c' = c + i.count ∧ c' ≤ 600 ∧ (okB n i = true ∧ i.small M)
  | 0, bs, c, i, r, c', hM, h => by rw [dOne] at h; split at h <;> cases h
  | n + 1, bs, c, i, r, c', hM, h => by
    rw [dOne] at h
    by_cases h8 : bs.length < 8
    · rw [if_pos h8] at h; cases h
    rw [if_neg h8] at h
    by_cases hc : 600 ≤ c
    · rw [if_pos hc] at h; cases h
    rw [if_neg hc] at h
    by_cases hty : (tagB (tagOf bs) && typB (typOf bs)) = false
    · rw [if_pos hty] at h; cases h
    rw [if_neg hty] at h
    rw [Bool.not_eq_false, Bool.and_eq_true] at hty
    by_cases hln : bs.length - 8 < lnOf bs
    · rw [if_pos hln] at h; cases h
    rw [if_neg hln] at h
    have hhd := head_of bs (by omega)
    have hbody : ((bs.drop 8).take (lnOf bs)).length = lnOf bs := by rw [List.length_take, List.length_drop]; omega
    have hsplit : bs = bs.take 8 ++ ((bs.drop 8).take (lnOf bs) ++ bs.drop (8 + lnOf bs)) := by
      rw [← List.drop_drop, List.take_append_drop, List.take_append_drop]
    by_cases h1 : typOf bs = 1
    · rw [if_pos h1] at h
      cases hm : many (dOne n) (lnOf bs) ((bs.drop 8).take (lnOf bs)) (c + 1) [] with
      | err e => rw [hm] at h; cases h
      | ok ks c1 =>
        rw [hm] at h
        simp only at h
        obtain ⟨rfl, rfl, hr⟩ := fin_ok h
        obtain ⟨ks', e1, e2, e3, e4, e5⟩ := many_ok (M := M) (dOne n) (dOne_ok n) _ _ _ _ _ _ (by omega) (by omega) hm
        rw [List.nil_append] at e1
        subst e1
        have hsz : lnOf bs = It.sizeAll ks := by rw [← layAll_length, ← e2, hbody]
        have hpad : pad8 (lnOf bs) - lnOf bs = 0 := by rw [hsz]; have := sizeAll_mod ks; unfold pad8; omega
        rw [hpad] at hr
        simp only [List.replicate_zero, List.nil_append] at hr
        have hlen : lenOf 1 0 (It.sizeAll ks) = lnOf bs := by rw [lenOf, if_pos rfl, hsz]
        refine ⟨?_, by rw [It.count]; omega, e4, ?_, ?_⟩
        · rw [It.lay, if_pos rfl, List.length_nil, hlen, ← e2, ← hr]
          rw [h1] at hhd
          rw [show (1 : Int) = ((1 : Nat) : Int) from rfl, hhd, List.append_assoc]
          exact hsplit
        · rw [h1] at hty
          have hy1 : typB ((1 : Nat) : Int) = true := by decide
          rw [okB, fitsB, hty.1]
          simp only [It.kids]
          rw [show typB 1 = true by decide, show bodyB 1 0 [] ks.length = true by simp [bodyB]]
          simp only [Bool.and_self, Bool.true_and, List.all_eq_true]
          exact fun k hk => (e5 k hk).1
        · rw [It.small]
          exact ⟨tag_w64 hty.1, by unfold W64; omega, by unfold W64; omega, Nat.zero_le _, (smallAll_iff _ _).2 fun k hk => (e5 k hk).2⟩
    · rw [if_neg h1] at h
      by_cases hlf : leafB (typOf bs) ((bs.drop 8).take (lnOf bs)) = true
      · rw [if_pos hlf] at h
        obtain ⟨rfl, rfl, hr⟩ := fin_ok h
        have hl := leaf_lay (tagOf bs) (typOf bs) _ (by omega) hlf
        rw [hbody, hhd] at hl
        refine ⟨?_, by rw [leaf_count], by omega, ?_, leaf_small _ _ _ M (tag_w64 hty.1) (typ_w64 hty.2) (by omega) hlf⟩
        · rw [hl, List.append_assoc, List.append_assoc, ← hr]
          exact hsplit
        · rw [okB, leaf_fits _ _ _ hty.1 hty.2 hlf, leaf_kids]
          rfl
      · rw [if_neg hlf] at h; cases h

/-- 6.4 -/
theorem dAll_lay (i : It) (h : rightB i = true) (hs : i.small 4294967295) : dAll i.lay = .ok i := by
  unfold rightB at h
  simp only [Bool.and_eq_true, decide_eq_true_eq] at h
  unfold dAll
  have h1 := dOne_lay 12 i [] 0 h.1.1 (by omega) (by omega) hs
  rw [List.append_nil] at h1
  rw [if_neg (by rw [lay_length]; omega), h1]
  rfl
theorem dAll_ok (bs : List UInt8) (i : It) (h : dAll bs = .ok i) : bs = i.lay ∧ rightB i = true ∧ i.small 8192 := by
  unfold dAll at h
  by_cases hl : 8192 < bs.length
  · rw [if_pos hl] at h; cases h
  rw [if_neg hl] at h
  cases hx : dOne 12 bs 0 with
  | err e => rw [hx] at h; cases h
  | ok j r c =>
    rw [hx] at h
    simp only at h
    by_cases hr : r = []
    · rw [if_pos hr] at h
      cases h
      obtain ⟨e1, e2, e3, e4, e5⟩ := dOne_ok (M := 8192) 12 bs 0 i r c (by omega) hx
      rw [hr, List.append_nil] at e1
      refine ⟨e1, ?_, e5⟩
      unfold rightB
      have hsz := lay_length i
      rw [← e1] at hsz
      simp only [Bool.and_eq_true, decide_eq_true_eq]
      exact ⟨⟨e4, by omega⟩, by omega⟩
    · rw [if_neg hr] at h; cases h

/-- cut anywhere -/
theorem dAll_cut (i : It) (h : rightB i = true) (hs : i.small 4294967295) (k : Nat) (hk : k < i.lay.length) (j : It) : dAll (i.lay.take k) ≠ .ok j := by
  intro he
  obtain ⟨e1, e2, e3⟩ := dAll_ok _ _ he
  unfold rightB at h e2
  simp only [Bool.and_eq_true, decide_eq_true_eq] at h e2
  have hsm : j.small 4294967295 := small_le _ (by decide) e3
  have h1 := dOne_lay 12 j (i.lay.drop k) 0 e2.1.1 (by omega) (by omega) hsm
  rw [← e1, List.take_append_drop] at h1
  have h2 := dOne_lay 12 i [] 0 h.1.1 (by omega) (by omega) hs
  rw [List.append_nil, h1] at h2
  simp only [RI.ok.injEq] at h2
  have := congrArg List.length h2.2.1
  rw [List.length_drop] at this
  simp at this
  omega
theorem dAll_more (i : It) (h : rightB i = true) (hs : i.small 4294967295) (b : UInt8) (j : It) : dAll (i.lay ++ [b]) ≠ .ok j := by
  intro he
  unfold rightB at h
  simp only [Bool.and_eq_true, decide_eq_true_eq] at h
  have h2 := dOne_lay 12 i [b] 0 h.1.1 (by omega) (by omega) hs
  unfold dAll at he
  rw [h2] at he
  split at he
  · cases he
  · simp at he

end Tt
end Go.Proofs.YtedmfjnmclbkpaaDoor
