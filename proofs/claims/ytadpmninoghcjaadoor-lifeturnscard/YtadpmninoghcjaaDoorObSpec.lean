/-
  Chapter 10 in plain words: an object, whether it may be, its bytes, and back.
-/
import Derived.Test.YtadpmninoghcjaaDoorRdUni
import Derived.Lib.ValidLaws
namespace Go.Proofs.YtadpmninoghcjaaDoor
set_option linter.unusedSimpArgs false
set_option linter.unusedVariables false

/-- an object -/
structure Ob where
  id : List UInt8
  typ : Int
  alg : Int
  len : Int
  mask : Int
  mat : List UInt8
  state : Int
  dates : List (Bool × Int)
  reason : Int
  msg : List UInt8
  names : List (List UInt8)
  links : List (Int × List UInt8)
  custom : List (List UInt8 × List UInt8)
  lh : Bool
  lt : Int
  lc : Int
  lu : Int
  arch : Bool
  deriving DecidableEq

namespace Ob

def isMsg (s : List UInt8) : Bool := decide (s.length ≤ 120) && Lib.validD s
def isText (s : List UInt8) : Bool := decide (0 < s.length) && isMsg s
def isCust (s : List UInt8) : Bool := isText s && decide (s.take 2 = [120, 45])
def within (n lo hi : Int) : Bool := decide (lo ≤ n) && decide (n ≤ hi)
def typB (n : Int) : Bool := decide (n = 2) || decide (n = 3) || decide (n = 4) || decide (n = 7)
def numB (o : Ob) : Bool := typB o.typ && within o.alg 0 100 && within o.len 0 100000 && within o.mask 0 1048575 && within o.state 1 6
def dateB (d : Bool × Int) : Bool := if d.1 then within d.2 (-1099511627776) 1099511627776 else decide (d.2 = 0)
def reasB (o : Ob) : Bool := if o.reason = 0 then decide (o.msg = []) else within o.reason 0 7 && isMsg o.msg
/-- each part is right, and none is there twice: the ones behind 'seen' -/
def eachB {α : Type} [DecidableEq α] (is : α → Bool) : List α → List α → Bool
  | _, [] => true
  | seen, x :: r => is x && !seen.contains x && eachB is (seen ++ [x]) r
def listB {α : Type} [DecidableEq α] (is : α → Bool) (most : Nat) (l : List α) : Bool := decide (l.length ≤ most) && eachB is [] l
def linkB (k : Int × List UInt8) : Bool := within k.1 101 110 && isText k.2
def custB (c : List UInt8 × List UInt8) : Bool := isCust c.1 && isText c.2
def listsB (o : Ob) : Bool := listB isText 6 o.names && listB linkB 8 o.links && listB custB 6 o.custom
def limB (o : Ob) : Bool := if o.lh then within o.lt 1 1099511627776 && within o.lc 0 o.lt && within o.lu 1 2 else decide (o.lt = 0) && decide (o.lc = 0) && decide (o.lu = 0)
def rightB (o : Ob) : Bool := isText o.id && numB o && decide (o.mat.length ≤ 128) && o.dates.all dateB && reasB o && listsB o && limB o

/-! ### bytes -/
def b1 (n : Int) : List UInt8 := be 1 (toU64 n)
def b4 (n : Int) : List UInt8 := be 4 (toU64 n)
def b8 (n : Int) : List UInt8 := be 8 (toU64 n)
def flagL (b : Bool) : List UInt8 := b1 (if b then 1 else 0)
def textL (s : List UInt8) : List UInt8 := be 2 s.length ++ s
def dateL (d : Bool × Int) : List UInt8 := flagL d.1 ++ if d.1 then b8 d.2 else []
def linkL (k : Int × List UInt8) : List UInt8 := b1 k.1 ++ textL k.2
def custL (c : List UInt8 × List UInt8) : List UInt8 := textL c.1 ++ textL c.2
def allL {α : Type} (f : α → List UInt8) (l : List α) : List UInt8 := b1 l.length ++ l.flatMap f
def limL (o : Ob) : List UInt8 := flagL o.lh ++ if o.lh then b8 o.lt ++ (b8 o.lc ++ b1 o.lu) else []
def lay (o : Ob) : List UInt8 :=
  textL o.id ++ (b1 o.typ ++ (b1 o.alg ++ (b4 o.len ++ (b4 o.mask ++ (textL o.mat ++ (b1 o.state ++ (o.dates.flatMap dateL ++ (b1 o.reason ++ (textL o.msg ++
  (allL textL o.names ++ (allL linkL o.links ++ (allL custL o.custom ++ (limL o ++ flagL o.arch)))))))))))))

/-! ### back -/
abbrev Rs := Bool × List UInt8
def rU (n : Nat) (s : Rs) : Nat × Rs := (de (rdBytes s.1 s.2 n), (rdLack s.1 s.2 n, rdRest s.1 s.2 n))
def rS (s : Rs) : List UInt8 × Rs := (shBytes s.1 s.2, (shLack s.1 s.2, shRest s.1 s.2))
def rFlag (s : Rs) : Bool × Rs := (decide ((rU 1 s).1 = 1), (rU 1 s).2)
def i64 (n : Nat) : Int := IntKind.i64.wrap n
def rDate (s : Rs) : (Bool × Int) × Rs := if (rFlag s).1 then ((true, i64 (rU 8 (rFlag s).2).1), (rU 8 (rFlag s).2).2) else ((false, 0), (rFlag s).2)
def rLink (s : Rs) : (Int × List UInt8) × Rs := ((((rU 1 s).1 : Int), (rS (rU 1 s).2).1), (rS (rU 1 s).2).2)
def rCust (s : Rs) : (List UInt8 × List UInt8) × Rs := (((rS s).1, (rS (rS s).2).1), (rS (rS s).2).2)
def rMany {α : Type} (f : Rs → α × Rs) : Nat → Rs → List α × Rs
  | 0, s => ([], s)
  | n + 1, s => ((f s).1 :: (rMany f n (f s).2).1, (rMany f n (f s).2).2)
def rAll {α : Type} (f : Rs → α × Rs) (s : Rs) : List α × Rs := rMany f (rU 1 s).1 (rU 1 s).2
structure Lim where
  h : Bool
  t : Int
  c : Int
  u : Int
def rLim (s : Rs) : Lim × Rs :=
  if (rFlag s).1 then
    let a := rU 8 (rFlag s).2
    let b := rU 8 a.2
    let c := rU 1 b.2
    (⟨true, i64 a.1, i64 b.1, c.1⟩, c.2)
  else (⟨false, 0, 0, 0⟩, (rFlag s).2)
def rOb (s : Rs) : Ob × Rs :=
  let a1 := rS s
  let a2 := rU 1 a1.2
  let a3 := rU 1 a2.2
  let a4 := rU 4 a3.2
  let a5 := rU 4 a4.2
  let a6 := rS a5.2
  let a7 := rU 1 a6.2
  let a8 := rMany rDate 10 a7.2
  let a9 := rU 1 a8.2
  let a10 := rS a9.2
  let a11 := rAll rS a10.2
  let a12 := rAll rLink a11.2
  let a13 := rAll rCust a12.2
  let a14 := rLim a13.2
  let a15 := rFlag a14.2
  (⟨a1.1, a2.1, a3.1, a4.1, a5.1, a6.1, a7.1, a8.1, a9.1, a10.1, a11.1, a12.1, a13.1, a14.1.h, a14.1.t, a14.1.c, a14.1.u, a15.1⟩, a15.2)

/-- Read: the object, where its bytes are these again -/
def fits (b : List UInt8) : Bool := rightB (rOb (false, b)).1 && decide (lay (rOb (false, b)).1 = b)
def zero : Ob := ⟨[], 0, 0, 0, 0, [], 0, List.replicate 10 (false, 0), 0, [], [], [], [], false, 0, 0, 0, false⟩
def read (b : List UInt8) : Ob := if fits b then (rOb (false, b)).1 else zero

/-! ### what is laid is read back -/
theorem toU64_nn (n : Int) (h0 : 0 ≤ n) (h1 : n < 18446744073709551616) : toU64 n = n.toNat := by unfold toU64; rw [IntKind.wrap_u64]; omega

theorem de_be (k : Nat) : ∀ (n a : Nat), (be k n).foldl (fun n b => n * 256 + b.toNat) a = a * 256 ^ k + n % 256 ^ k := by
  induction k with
  | zero => intro n a; simp [be, Nat.mod_one]
  | succ k ih =>
    intro n a
    simp only [be, List.foldl_cons]
    rw [ih]
    have e : (UInt8.ofNat (n / 2 ^ (8 * k))).toNat = n / 256 ^ k % 256 := by
      rw [UInt8.toNat_ofNat', Nat.pow_mul]
    rw [e, Nat.pow_succ, Nat.mod_mul]
    rw [Nat.add_mul, Nat.mul_comm (256 ^ k) 256, ← Nat.mul_assoc, Nat.mul_comm (256 ^ k) (n / 256 ^ k % 256)]
    omega
theorem de_be0 (k n : Nat) (h : n < 256 ^ k) : de (be k n) = n := by
  unfold de
  rw [de_be, Nat.mod_eq_of_lt h]
  omega

theorem rU_lay (k n : Nat) (h : n < 256 ^ k) (t : List UInt8) : rU k (false, be k n ++ t) = (n, (false, t)) := by
  have hl := be_length k n
  have h1 : rdOk false (be k n ++ t) (k : Int) = true := rdOk_yes rfl (by rw [List.length_append]; omega)
  unfold rU rdBytes rdLack rdRest
  simp only [h1, if_true, Int.toNat_natCast, Bool.not_true]
  rw [List.take_append_of_le_length (by omega), List.take_of_length_le (by omega), de_be0 k n h, List.drop_append_of_le_length (by omega), List.drop_of_length_le (by omega), List.nil_append]

theorem rS_lay (s : List UInt8) (h : s.length < 65536) (t : List UInt8) : rS (false, textL s ++ t) = (s, (false, t)) := by
  have e := rU_lay 2 s.length (by omega) (s ++ t)
  unfold rU at e
  simp only [Prod.mk.injEq] at e
  obtain ⟨e1, e2, e3⟩ := e
  unfold rS shBytes shLack shRest textL
  simp only [List.append_assoc]
  rw [show ((2 : Nat) : Int) = 2 from rfl] at e1 e2 e3
  rw [e1, e2, e3]
  have h1 : rdOk false (s ++ t) (s.length : Int) = true := rdOk_yes rfl (by rw [List.length_append]; omega)
  unfold rdBytes rdLack rdRest
  simp only [h1, if_true, Int.toNat_natCast, Bool.not_true]
  rw [List.take_left, List.drop_left]

theorem rFlag_lay (b : Bool) (t : List UInt8) : rFlag (false, flagL b ++ t) = (b, (false, t)) := by
  unfold rFlag flagL b1
  rw [toU64_nn _ (by split <;> omega) (by split <;> omega), rU_lay 1 _ (by split <;> decide)]
  cases b <;> rfl

theorem i64_back (n : Int) (h0 : -9223372036854775808 ≤ n) (h1 : n ≤ 9223372036854775807) : i64 (toU64 n) = n := by
  unfold i64 toU64
  rw [IntKind.wrap_u64, IntKind.wrap_i64]
  omega

theorem rU8_lay (n : Int) (h0 : -9223372036854775808 ≤ n) (h1 : n ≤ 9223372036854775807) (t : List UInt8) : (i64 (rU 8 (false, b8 n ++ t)).1, (rU 8 (false, b8 n ++ t)).2) = (n, (false, t)) := by
  unfold b8
  rw [rU_lay 8 _ (by unfold toU64; rw [IntKind.wrap_u64]; omega), i64_back n h0 h1]

theorem rU1_lay (n : Int) (h0 : 0 ≤ n) (h1 : n < 256) (t : List UInt8) : (((rU 1 (false, b1 n ++ t)).1 : Int), (rU 1 (false, b1 n ++ t)).2) = (n, (false, t)) := by
  unfold b1
  rw [toU64_nn n h0 (by omega), rU_lay 1 _ (by omega)]
  simp only [Prod.mk.injEq, and_true]
  omega
theorem rU4_lay (n : Int) (h0 : 0 ≤ n) (h1 : n < 4294967296) (t : List UInt8) : (((rU 4 (false, b4 n ++ t)).1 : Int), (rU 4 (false, b4 n ++ t)).2) = (n, (false, t)) := by
  unfold b4
  rw [toU64_nn n h0 (by omega), rU_lay 4 _ (by omega)]
  simp only [Prod.mk.injEq, and_true]
  omega

theorem rMany_lay {α : Type} (f : Rs → α × Rs) (l : α → List UInt8) (xs : List α) (h : ∀ x ∈ xs, ∀ t, f (false, l x ++ t) = (x, (false, t))) (t : List UInt8) : rMany f xs.length (false, xs.flatMap l ++ t) = (xs, (false, t)) := by
  induction xs with
  | nil => simp [rMany]
  | cons x r ih =>
    simp only [List.length_cons, rMany, List.flatMap_cons, List.append_assoc]
    rw [h x (by simp), ih (fun y hy => h y (by simp [hy]))]

theorem rAll_lay {α : Type} (f : Rs → α × Rs) (l : α → List UInt8) (xs : List α) (hl : xs.length < 256) (h : ∀ x ∈ xs, ∀ t, f (false, l x ++ t) = (x, (false, t))) (t : List UInt8) : rAll f (false, allL l xs ++ t) = (xs, (false, t)) := by
  unfold rAll allL b1
  rw [List.append_assoc, toU64_nn _ (by omega) (by omega), Int.toNat_natCast, rU_lay 1 _ (by omega)]
  exact rMany_lay f l xs h t

theorem eachB_all {α : Type} [DecidableEq α] (is : α → Bool) : ∀ (xs seen : List α), eachB is seen xs = true → ∀ x ∈ xs, is x = true
  | [], _, _, x, hx => by cases hx
  | y :: r, seen, h, x, hx => by
    simp only [eachB, Bool.and_eq_true] at h
    rcases List.mem_cons.1 hx with rfl | hx
    · exact h.1.1
    · exact eachB_all is r _ h.2 x hx

theorem isMsg_len {s : List UInt8} (h : isMsg s = true) : s.length ≤ 120 := by unfold isMsg at h; simp at h; exact h.1
theorem isText_len {s : List UInt8} (h : isText s = true) : s.length ≤ 120 := by unfold isText at h; rw [Bool.and_eq_true] at h; exact isMsg_len h.2
theorem within_iff {n lo hi : Int} : within n lo hi = true ↔ lo ≤ n ∧ n ≤ hi := by unfold within; simp

theorem rDate_lay (d : Bool × Int) (h : dateB d = true) (t : List UInt8) : rDate (false, dateL d ++ t) = (d, (false, t)) := by
  obtain ⟨b, n⟩ := d
  unfold rDate dateL
  rw [List.append_assoc, rFlag_lay]
  unfold dateB at h
  cases b with
  | false => simp at h; simp [h]
  | true =>
    simp only [if_true, within_iff] at h ⊢
    have e := rU8_lay n (by omega) (by omega) t
    simp only [Prod.mk.injEq] at e
    obtain ⟨e1, e2⟩ := e
    rw [e1, e2]

theorem rLink_lay (k : Int × List UInt8) (h : linkB k = true) (t : List UInt8) : rLink (false, linkL k ++ t) = (k, (false, t)) := by
  obtain ⟨n, s⟩ := k
  unfold linkB at h
  simp only [Bool.and_eq_true, within_iff] at h
  unfold rLink linkL
  simp only [List.append_assoc]
  have e := rU1_lay n (by omega) (by omega) (textL s ++ t)
  simp only [Prod.mk.injEq] at e
  rw [e.1, e.2, rS_lay s (by have := isText_len h.2; omega)]

theorem rCust_lay (c : List UInt8 × List UInt8) (h : custB c = true) (t : List UInt8) : rCust (false, custL c ++ t) = (c, (false, t)) := by
  obtain ⟨a, b⟩ := c
  unfold custB isCust at h
  simp only [Bool.and_eq_true] at h
  unfold rCust custL
  simp only [List.append_assoc]
  rw [rS_lay a (by have := isText_len h.1.1; omega)]
  simp only []
  rw [rS_lay b (by have := isText_len h.2; omega)]

theorem listB_len {α : Type} [DecidableEq α] {is : α → Bool} {most : Nat} {l : List α} (h : listB is most l = true) : l.length ≤ most := by unfold listB at h; simp at h; exact h.1
theorem listB_all {α : Type} [DecidableEq α] {is : α → Bool} {most : Nat} {l : List α} (h : listB is most l = true) : ∀ x ∈ l, is x = true := by unfold listB at h; rw [Bool.and_eq_true] at h; exact eachB_all is l [] h.2

/-- what may be is read back from its bytes -/
theorem rOb_lay (o : Ob) (hd : o.dates.length = 10) (h : rightB o = true) : rOb (false, lay o) = (o, (false, [])) := by
  unfold rightB listsB at h
  simp only [Bool.and_eq_true, decide_eq_true_eq] at h
  obtain ⟨⟨⟨⟨⟨⟨hid, hn⟩, hm⟩, hda⟩, hre⟩, ⟨⟨hna, hli⟩, hcu⟩⟩, hlim⟩ := h
  unfold numB typB at hn
  simp only [Bool.and_eq_true, Bool.or_eq_true, decide_eq_true_eq, within_iff] at hn
  obtain ⟨⟨⟨⟨ht, ha⟩, hle⟩, hma⟩, hst⟩ := hn
  have hr : 0 ≤ o.reason ∧ o.reason ≤ 7 ∧ o.msg.length ≤ 120 := by
    unfold reasB at hre
    split at hre
    · simp at hre; rw [hre]; simp; omega
    · simp only [Bool.and_eq_true, within_iff] at hre; exact ⟨hre.1.1, hre.1.2, isMsg_len hre.2⟩
  have e1 := fun t => rS_lay o.id (by have := isText_len hid; omega) t
  have e2 := fun t => rU1_lay o.typ (by omega) (by omega) t
  have e3 := fun t => rU1_lay o.alg (by omega) (by omega) t
  have e4 := fun t => rU4_lay o.len (by omega) (by omega) t
  have e5 := fun t => rU4_lay o.mask (by omega) (by omega) t
  have e6 := fun t => rS_lay o.mat (by omega) t
  have e7 := fun t => rU1_lay o.state (by omega) (by omega) t
  have e8 := fun t => rMany_lay rDate dateL o.dates (fun d hx t => rDate_lay d (List.all_eq_true.1 hda d hx) t) t
  rw [hd] at e8
  have e9 := fun t => rU1_lay o.reason (by omega) (by omega) t
  have e10 := fun t => rS_lay o.msg (by omega) t
  have e11 := fun t => rAll_lay rS textL o.names (by have := listB_len hna; omega) (fun s hx t => rS_lay s (by have := isText_len (listB_all hna s hx); omega) t) t
  have e12 := fun t => rAll_lay rLink linkL o.links (by have := listB_len hli; omega) (fun s hx t => rLink_lay s (listB_all hli s hx) t) t
  have e13 := fun t => rAll_lay rCust custL o.custom (by have := listB_len hcu; omega) (fun s hx t => rCust_lay s (listB_all hcu s hx) t) t
  have e14 : ∀ t, rLim (false, limL o ++ t) = (⟨o.lh, o.lt, o.lc, o.lu⟩, (false, t)) := by
    intro t
    unfold limB at hlim
    unfold rLim limL
    rw [List.append_assoc, rFlag_lay]
    cases hh : o.lh with
    | false =>
      rw [hh] at hlim
      simp only [Bool.false_eq_true, if_false, Bool.and_eq_true, decide_eq_true_eq] at hlim
      simp [hlim]
    | true =>
      rw [hh] at hlim
      simp only [if_true, Bool.and_eq_true, within_iff] at hlim
      simp only [if_true, List.append_assoc]
      have q1 := rU8_lay o.lt (by omega) (by omega) (b8 o.lc ++ (b1 o.lu ++ t))
      have q2 := rU8_lay o.lc (by omega) (by omega) (b1 o.lu ++ t)
      have q3 := rU1_lay o.lu (by omega) (by omega) t
      simp only [Prod.mk.injEq] at q1 q2 q3
      rw [q1.1, q1.2, q2.1, q2.2, q3.1, q3.2]
  have e15 := rFlag_lay o.arch []
  rw [List.append_nil] at e15
  simp only [Prod.mk.injEq] at e2 e3 e4 e5 e7 e9
  unfold rOb lay
  simp only [e1, (e2 _).1, (e2 _).2, (e3 _).1, (e3 _).2, (e4 _).1, (e4 _).2, (e5 _).1, (e5 _).2, e6, (e7 _).1, (e7 _).2, e8, (e9 _).1, (e9 _).2, e10, e11, e12, e13, e14, e15]

theorem fits_lay (o : Ob) (hd : o.dates.length = 10) (h : rightB o = true) : fits (lay o) = true ∧ read (lay o) = o := by
  have e := rOb_lay o hd h
  have f : fits (lay o) = true := by unfold fits; rw [e]; simp [h]
  exact ⟨f, by unfold read; rw [f, if_pos rfl, e]⟩

theorem lay_inj (a b : Ob) (ha : a.dates.length = 10) (hb : b.dates.length = 10) (h1 : rightB a = true) (h2 : rightB b = true) : lay a = lay b ↔ a = b := by
  constructor
  · intro e
    rw [← (fits_lay a ha h1).2, e, (fits_lay b hb h2).2]
  · rintro rfl; rfl

/-! ### nothing lacks where the bytes are those again -/
/-- where the part's bytes stand at the front, it was there whole -/
def Whole {α : Type} (f : Rs → α × Rs) (l : α → List UInt8) : Prop := ∀ (r t : List UInt8), l (f (false, r)).1 ++ t = r → (f (false, r)).2 = (false, t)

theorem rU_whole (k : Nat) : Whole (rU k) (be k) := by
  intro r t h
  have hl : k ≤ r.length := by rw [← h, List.length_append, be_length]; omega
  have h1 : rdOk false r (k : Int) = true := rdOk_yes rfl hl
  unfold rU at h ⊢
  unfold rdBytes rdLack rdRest at *
  simp only [h1, if_true, Int.toNat_natCast, Bool.not_true] at h ⊢
  rw [← h, List.drop_append_of_le_length (by rw [be_length]; omega), List.drop_of_length_le (by rw [be_length]; omega), List.nil_append]

theorem rU1_whole : Whole (rU 1) (fun n => b1 (n : Int)) := by
  intro r t h
  refine rU_whole 1 r t ?_
  have e : be 1 (rU 1 (false, r)).1 = b1 ((rU 1 (false, r)).1 : Int) := by
    unfold b1
    have := de_rd false r 1 256 (by decide)
    have h2 : (rU 1 (false, r)).1 < 256 := this
    rw [toU64_nn _ (by omega) (by omega), Int.toNat_natCast]
  rw [e]; exact h
theorem rU4_whole : Whole (rU 4) (fun n => b4 (n : Int)) := by
  intro r t h
  refine rU_whole 4 r t ?_
  have e : be 4 (rU 4 (false, r)).1 = b4 ((rU 4 (false, r)).1 : Int) := by
    unfold b4
    have := de_rd false r 4 4294967296 (by decide)
    have h2 : (rU 4 (false, r)).1 < 4294967296 := this
    rw [toU64_nn _ (by omega) (by omega), Int.toNat_natCast]
  rw [e]; exact h
theorem rU8_whole : Whole (rU 8) (fun n => b8 (i64 n)) := by
  intro r t h
  refine rU_whole 8 r t ?_
  have e : be 8 (rU 8 (false, r)).1 = b8 (i64 (rU 8 (false, r)).1) := by
    unfold b8
    have := de_rd false r 8 18446744073709551616 (by decide)
    have h2 : (rU 8 (false, r)).1 < 18446744073709551616 := this
    congr 1
    unfold i64 toU64
    rw [IntKind.wrap_i64, IntKind.wrap_u64]
    omega
  rw [e]; exact h

theorem rS_whole : Whole rS textL := by
  intro r t h
  unfold textL at h
  rw [List.append_assoc] at h
  have hl : 2 ≤ r.length := by rw [← h, List.length_append, be_length]; omega
  have h1 : rdOk false r (2 : Int) = true := rdOk_yes (n := 2) rfl hl
  unfold rS at h ⊢
  have hn : de (rdBytes false r 2) < 65536 := de_rd false r 2 65536 (by decide)
  have hr : rdRest false r 2 = r.drop 2 := by unfold rdRest; rw [h1, if_pos rfl]; rfl
  have hk : rdLack false r 2 = false := by unfold rdLack; rw [h1]; rfl
  have hb : rdBytes false r 2 = r.take 2 := by unfold rdBytes; rw [h1, if_pos rfl]; rfl
  unfold shBytes shLack shRest at *
  simp only [hr, hk] at h ⊢
  generalize hde : de (rdBytes false r 2) = n at *
  by_cases hle : n ≤ (r.drop 2).length
  · have h3 : rdOk false (r.drop 2) (n : Int) = true := rdOk_yes rfl hle
    unfold rdBytes rdLack rdRest at *
    simp only [h3, if_true, Int.toNat_natCast, Bool.not_true] at h ⊢
    have e2 : r.drop 2 = (r.drop 2).take n ++ t := by
      have := congrArg (List.drop 2) h
      rw [List.drop_append_of_le_length (by rw [be_length]; omega), List.drop_of_length_le (by rw [be_length]; omega), List.nil_append] at this
      exact this.symm
    rw [Prod.mk.injEq]
    refine ⟨rfl, ?_⟩
    have e3 := congrArg (List.drop n) e2
    rw [e3, List.drop_append_of_le_length (by rw [List.length_take]; omega), List.drop_of_length_le (by rw [List.length_take]; omega), List.nil_append]
  · have h3 : rdOk false (r.drop 2) (n : Int) = false := rdOk_no (Or.inr (Or.inr (by omega)))
    unfold rdBytes at h
    simp only [h3, Bool.false_eq_true, if_false, List.length_nil, List.nil_append] at h
    exfalso
    have e2 : r.take 2 = be 2 0 := by
      rw [← h, List.take_append_of_le_length (by rw [be_length]; omega), List.take_of_length_le (by rw [be_length]; omega)]
    rw [hb, e2, de_be0 2 0 (by decide)] at hde
    omega

theorem rFlag_whole : Whole rFlag flagL := by
  intro r t h
  unfold rFlag at h ⊢
  refine rU_whole 1 r t ?_
  have hl : 1 ≤ r.length := by rw [← h, List.length_append]; unfold flagL b1; rw [be_length]; omega
  match r, hl with
  | x :: r, _ =>
    have e : (rU 1 (false, x :: r)).1 = x.toNat := by
      unfold rU rdBytes
      rw [rdOk_yes (n := 1) rfl (by simp), if_pos rfl]
      simp [de]
    rw [e] at h ⊢
    have hx : x = UInt8.ofNat (if x.toNat = 1 then 1 else 0) ∧ t = r := by
      have h2 : flagL (decide (x.toNat = 1)) = [UInt8.ofNat (if x.toNat = 1 then 1 else 0)] := by
        unfold flagL b1
        split <;> simp_all <;> rfl
      rw [h2] at h
      simp only [List.cons_append, List.nil_append, List.cons.injEq] at h
      exact ⟨h.1.symm, h.2⟩
    obtain ⟨h1, rfl⟩ := hx
    show be 1 x.toNat ++ t = x :: t
    simp [be]

theorem step {α : Type} {f : Rs → α × Rs} {l : α → List UInt8} (hf : Whole f l) (s : Rs) (r t : List UInt8) (hs : s = (false, r)) (h : l (f s).1 ++ t = r) : (f s).2 = (false, t) := by
  subst hs; exact hf r t h

theorem many_whole {α : Type} {f : Rs → α × Rs} {l : α → List UInt8} (hf : Whole f l) (n : Nat) : Whole (rMany f n) (fun xs => xs.flatMap l) := by
  induction n with
  | zero => intro r t h; simp [rMany] at h ⊢; exact h.symm
  | succ n ih =>
    intro r t h
    simp only [rMany, List.flatMap_cons, List.append_assoc] at h ⊢
    exact step ih _ _ t (step hf _ r _ rfl h) rfl

theorem many_len {α : Type} (f : Rs → α × Rs) (n : Nat) : ∀ s, (rMany f n s).1.length = n := by
  induction n with
  | zero => intro s; rfl
  | succ n ih => intro s; simp [rMany, ih]

theorem all_whole {α : Type} {f : Rs → α × Rs} {l : α → List UInt8} (hf : Whole f l) : Whole (rAll f) (allL l) := by
  intro r t h
  unfold rAll at h ⊢
  unfold allL at h
  rw [many_len, List.append_assoc] at h
  exact step (many_whole hf _) _ _ t (step rU1_whole _ r _ rfl h) rfl

theorem date_whole : Whole rDate dateL := by
  intro r t h
  unfold rDate at h ⊢
  split at h
  · rename_i hb
    simp only [dateL, if_true, List.append_assoc] at h
    rw [if_pos hb]
    rw [← hb] at h
    exact step rU8_whole _ _ t (step rFlag_whole _ r _ rfl h) rfl
  · rename_i hb
    simp only [dateL, Bool.false_eq_true, if_false, List.append_nil] at h
    rw [if_neg hb]
    rw [Bool.not_eq_true] at hb
    rw [← hb] at h
    exact step rFlag_whole _ r t rfl h

theorem link_whole : Whole rLink linkL := by
  intro r t h
  unfold rLink linkL at h
  unfold rLink
  simp only [List.append_assoc] at h
  exact step rS_whole _ _ t (step rU1_whole _ r _ rfl h) rfl

theorem cust_whole : Whole rCust custL := by
  intro r t h
  unfold rCust custL at h
  unfold rCust
  simp only [List.append_assoc] at h
  exact step rS_whole _ _ t (step rS_whole _ r _ rfl h) rfl

def lL (l : Lim) : List UInt8 := flagL l.h ++ if l.h then b8 l.t ++ (b8 l.c ++ b1 l.u) else []
theorem lim_whole : Whole rLim lL := by
  intro r t h
  unfold rLim at h ⊢
  split at h
  · rename_i hb
    simp only [lL, if_true, List.append_assoc] at h
    rw [if_pos hb]
    rw [← hb] at h
    exact step rU1_whole _ _ t (step rU8_whole _ _ _ (step rU8_whole _ _ _ (step rFlag_whole _ r _ rfl h) rfl) rfl) rfl
  · rename_i hb
    simp only [lL, Bool.false_eq_true, if_false, List.append_nil] at h
    rw [if_neg hb]
    rw [Bool.not_eq_true] at hb
    rw [← hb] at h
    exact step rFlag_whole _ r t rfl h

theorem step' {α : Type} {f : Rs → α × Rs} {l : α → List UInt8} (hf : Whole f l) {s : Rs} {a : α × Rs} (ha : a = f s) {r t : List UInt8} (hs : s = (false, r)) (h : l a.1 ++ t = r) : a.2 = (false, t) := by
  subst ha; exact step hf s r t hs h

theorem rOb_whole (b : List UInt8) (h : lay (rOb (false, b)).1 = b) : (rOb (false, b)).2 = (false, []) := by
  obtain ⟨a1, e1⟩ : ∃ x, x = rS (false, b) := ⟨_, rfl⟩
  obtain ⟨a2, e2⟩ : ∃ x, x = rU 1 a1.2 := ⟨_, rfl⟩
  obtain ⟨a3, e3⟩ : ∃ x, x = rU 1 a2.2 := ⟨_, rfl⟩
  obtain ⟨a4, e4⟩ : ∃ x, x = rU 4 a3.2 := ⟨_, rfl⟩
  obtain ⟨a5, e5⟩ : ∃ x, x = rU 4 a4.2 := ⟨_, rfl⟩
  obtain ⟨a6, e6⟩ : ∃ x, x = rS a5.2 := ⟨_, rfl⟩
  obtain ⟨a7, e7⟩ : ∃ x, x = rU 1 a6.2 := ⟨_, rfl⟩
  obtain ⟨a8, e8⟩ : ∃ x, x = rMany rDate 10 a7.2 := ⟨_, rfl⟩
  obtain ⟨a9, e9⟩ : ∃ x, x = rU 1 a8.2 := ⟨_, rfl⟩
  obtain ⟨a10, e10⟩ : ∃ x, x = rS a9.2 := ⟨_, rfl⟩
  obtain ⟨a11, e11⟩ : ∃ x, x = rAll rS a10.2 := ⟨_, rfl⟩
  obtain ⟨a12, e12⟩ : ∃ x, x = rAll rLink a11.2 := ⟨_, rfl⟩
  obtain ⟨a13, e13⟩ : ∃ x, x = rAll rCust a12.2 := ⟨_, rfl⟩
  obtain ⟨a14, e14⟩ : ∃ x, x = rLim a13.2 := ⟨_, rfl⟩
  obtain ⟨a15, e15⟩ : ∃ x, x = rFlag a14.2 := ⟨_, rfl⟩
  have e : rOb (false, b) = (⟨a1.1, a2.1, a3.1, a4.1, a5.1, a6.1, a7.1, a8.1, a9.1, a10.1, a11.1, a12.1, a13.1, a14.1.h, a14.1.t, a14.1.c, a14.1.u, a15.1⟩, a15.2) := by
    rw [e15, e14, e13, e12, e11, e10, e9, e8, e7, e6, e5, e4, e3, e2, e1]
    rfl
  rw [e] at h ⊢
  unfold lay at h
  simp only at h ⊢
  have h1 : a1.2 = (false, _) := step' rS_whole e1 rfl h
  have h2 : a2.2 = (false, _) := step' rU1_whole e2 h1 rfl
  have h3 : a3.2 = (false, _) := step' rU1_whole e3 h2 rfl
  have h4 : a4.2 = (false, _) := step' rU4_whole e4 h3 rfl
  have h5 : a5.2 = (false, _) := step' rU4_whole e5 h4 rfl
  have h6 : a6.2 = (false, _) := step' rS_whole e6 h5 rfl
  have h7 : a7.2 = (false, _) := step' rU1_whole e7 h6 rfl
  have h8 : a8.2 = (false, _) := step' (many_whole date_whole 10) e8 h7 rfl
  have h9 : a9.2 = (false, _) := step' rU1_whole e9 h8 rfl
  have h10 : a10.2 = (false, _) := step' rS_whole e10 h9 rfl
  have h11 : a11.2 = (false, _) := step' (all_whole rS_whole) e11 h10 rfl
  have h12 : a12.2 = (false, _) := step' (all_whole link_whole) e12 h11 rfl
  have h13 : a13.2 = (false, _) := step' (all_whole cust_whole) e13 h12 rfl
  have h14 : a14.2 = (false, _) := step' lim_whole e14 h13 rfl
  have h15 : a15.2 = (false, []) := step' rFlag_whole e15 h14 (by rw [List.append_nil])
  exact h15

/-! ### what stops where something lacks (the reference) -/
def sMany {α : Type} (f : Rs → α × Rs) : Nat → Rs → List α × Rs
  | 0, s => ([], s)
  | n + 1, s => if s.1 then ([], s) else ((f s).1 :: (sMany f n (f s).2).1, (sMany f n (f s).2).2)
def sAll {α : Type} (f : Rs → α × Rs) (s : Rs) : List α × Rs := sMany f (rU 1 s).1 (rU 1 s).2
/-- what lacks goes on lacking -/
def Sticks {α : Type} (f : Rs → α × Rs) : Prop := ∀ s, s.1 = true → (f s).2.1 = true
theorem rd_sticks (n : Int) (r : List UInt8) : rdLack true r n = true := by unfold rdLack; rw [rdOk_no (Or.inl rfl)]; rfl
theorem rU_sticks (n : Nat) : Sticks (rU n) := by
  rintro ⟨l, r⟩ h
  simp only at h
  subst h
  show rdLack true r (n : Int) = true
  exact rd_sticks _ _
theorem rS_sticks : Sticks rS := by
  rintro ⟨l, r⟩ h
  simp only at h
  subst h
  unfold rS shLack
  simp only [rd_sticks]
theorem sticks_any {α : Type} {f : Rs → α × Rs} (hf : Sticks f) {s : Rs} (h : (f s).2.1 = false) : s.1 = false := by
  cases e : s.1 with
  | false => rfl
  | true => rw [hf s e] at h; cases h
theorem rMany_sticks {α : Type} {f : Rs → α × Rs} (hf : Sticks f) (n : Nat) : Sticks (rMany f n) := by
  induction n with
  | zero => intro s h; exact h
  | succ n ih => intro s h; exact ih _ (hf s h)
theorem sMany_sticks {α : Type} {f : Rs → α × Rs} (hf : Sticks f) (n : Nat) : Sticks (sMany f n) := by
  induction n with
  | zero => intro s h; exact h
  | succ n ih => intro s h; simp only [sMany, h, if_true]
theorem rLink_sticks : Sticks rLink := fun s h => rS_sticks _ (rU_sticks 1 s h)
theorem rCust_sticks : Sticks rCust := fun s h => rS_sticks _ (rS_sticks s h)
theorem rFlag_sticks : Sticks rFlag := fun s h => rU_sticks 1 s h
theorem rDate_sticks : Sticks rDate := by
  intro s h
  unfold rDate
  split
  · exact rU_sticks 8 _ (rFlag_sticks s h)
  · exact rFlag_sticks s h
theorem rLim_sticks : Sticks rLim := by
  intro s h
  unfold rLim
  split
  · exact rU_sticks 1 _ (rU_sticks 8 _ (rU_sticks 8 _ (rFlag_sticks s h)))
  · exact rFlag_sticks s h
theorem sMany_eq {α : Type} {f : Rs → α × Rs} (hf : Sticks f) (n : Nat) : ∀ s, (rMany f n s).2.1 = false ∨ (sMany f n s).2.1 = false → sMany f n s = rMany f n s := by
  induction n with
  | zero => intro s _; rfl
  | succ n ih =>
    intro s h
    have hs : s.1 = false := by
      rcases h with h | h
      · exact sticks_any (rMany_sticks hf (n + 1)) h
      · exact sticks_any (sMany_sticks hf (n + 1)) h
    simp only [sMany, rMany, hs, Bool.false_eq_true, if_false] at h ⊢
    rw [ih _ h]
theorem sAll_eq {α : Type} {f : Rs → α × Rs} (hf : Sticks f) (s : Rs) (h : (rAll f s).2.1 = false ∨ (sAll f s).2.1 = false) : sAll f s = rAll f s := sMany_eq hf _ _ h
theorem rAll_sticks {α : Type} {f : Rs → α × Rs} (hf : Sticks f) : Sticks (rAll f) := fun s h => rMany_sticks hf _ _ (rU_sticks 1 s h)
theorem sAll_sticks {α : Type} {f : Rs → α × Rs} (hf : Sticks f) : Sticks (sAll f) := fun s h => sMany_sticks hf _ _ (rU_sticks 1 s h)

def sOb (s : Rs) : Ob × Rs :=
  let a1 := rS s
  let a2 := rU 1 a1.2
  let a3 := rU 1 a2.2
  let a4 := rU 4 a3.2
  let a5 := rU 4 a4.2
  let a6 := rS a5.2
  let a7 := rU 1 a6.2
  let a8 := rMany rDate 10 a7.2
  let a9 := rU 1 a8.2
  let a10 := rS a9.2
  let a11 := sAll rS a10.2
  let a12 := sAll rLink a11.2
  let a13 := sAll rCust a12.2
  let a14 := rLim a13.2
  let a15 := rFlag a14.2
  (⟨a1.1, a2.1, a3.1, a4.1, a5.1, a6.1, a7.1, a8.1, a9.1, a10.1, a11.1, a12.1, a13.1, a14.1.h, a14.1.t, a14.1.c, a14.1.u, a15.1⟩, a15.2)

set_option maxRecDepth 10000 in
theorem sOb_eq (s : Rs) (h : (rOb s).2.1 = false ∨ (sOb s).2.1 = false) : sOb s = rOb s := by
  have e11 : sAll rS (rS (rU 1 (rMany rDate 10 (rU 1 (rS (rU 4 (rU 4 (rU 1 (rU 1 (rS s).2).2).2).2).2).2).2).2).2).2 = rAll rS (rS (rU 1 (rMany rDate 10 (rU 1 (rS (rU 4 (rU 4 (rU 1 (rU 1 (rS s).2).2).2).2).2).2).2).2).2).2 := by
    refine sAll_eq rS_sticks _ ?_
    rcases h with h | h
    · exact Or.inl (sticks_any (rAll_sticks rLink_sticks) (sticks_any (rAll_sticks rCust_sticks) (sticks_any rLim_sticks (sticks_any rFlag_sticks h))))
    · exact Or.inr (sticks_any (sAll_sticks rLink_sticks) (sticks_any (sAll_sticks rCust_sticks) (sticks_any rLim_sticks (sticks_any rFlag_sticks h))))
  unfold rOb sOb at *
  simp only [e11] at h ⊢
  generalize rAll rS (rS (rU 1 (rMany rDate 10 (rU 1 (rS (rU 4 (rU 4 (rU 1 (rU 1 (rS s).2).2).2).2).2).2).2).2).2).2 = a11 at *
  have e12 : sAll rLink a11.2 = rAll rLink a11.2 := by
    refine sAll_eq rLink_sticks _ ?_
    rcases h with h | h
    · exact Or.inl (sticks_any (rAll_sticks rCust_sticks) (sticks_any rLim_sticks (sticks_any rFlag_sticks h)))
    · exact Or.inr (sticks_any (sAll_sticks rCust_sticks) (sticks_any rLim_sticks (sticks_any rFlag_sticks h)))
  simp only [e12] at h ⊢
  generalize rAll rLink a11.2 = a12 at *
  have e13 : sAll rCust a12.2 = rAll rCust a12.2 := by
    refine sAll_eq rCust_sticks _ ?_
    rcases h with h | h
    · exact Or.inl (sticks_any rLim_sticks (sticks_any rFlag_sticks h))
    · exact Or.inr (sticks_any rLim_sticks (sticks_any rFlag_sticks h))
  rw [e13]

def sfits (b : List UInt8) : Bool := !(sOb (false, b)).2.1 && rightB (sOb (false, b)).1 && decide (lay (sOb (false, b)).1 = b)
def sread (b : List UInt8) : Ob := if sfits b then (sOb (false, b)).1 else zero
theorem sfits_eq (b : List UInt8) : sfits b = fits b ∧ (fits b = true → sOb (false, b) = rOb (false, b)) := by
  have q : fits b = true → sOb (false, b) = rOb (false, b) := fun h => by
    unfold fits at h
    simp only [Bool.and_eq_true, decide_eq_true_eq] at h
    exact sOb_eq _ (Or.inl (by rw [rOb_whole b h.2]))
  refine ⟨?_, q⟩
  cases e : fits b with
  | true =>
    have h := q e
    unfold sfits
    unfold fits at e
    simp only [Bool.and_eq_true, decide_eq_true_eq] at e
    rw [h, rOb_whole b e.2]
    simp [e]
  | false =>
    cases e2 : sfits b with
    | false => rfl
    | true =>
      unfold sfits at e2
      simp only [Bool.and_eq_true, decide_eq_true_eq, Bool.not_eq_true'] at e2
      have h := sOb_eq _ (Or.inr e2.1.1)
      rw [h] at e2
      unfold fits at e
      rw [e2.1.2, e2.2] at e
      simp at e
theorem sread_eq (b : List UInt8) : sread b = read b := by
  unfold sread read
  rw [(sfits_eq b).1]
  split
  · rename_i h; rw [(sfits_eq b).2 h]
  · rfl

end Ob
end Go.Proofs.YtadpmninoghcjaaDoor
