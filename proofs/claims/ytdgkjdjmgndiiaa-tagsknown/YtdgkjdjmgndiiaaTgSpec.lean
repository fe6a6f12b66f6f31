/-
  Chapter 7 in plain lists: names of tags and of operations.
-/
import Derived.Test.YtdgkjdjmgndiiaaMem
import Derived.Test.YtdgkjdjmgndiiaaStr
namespace Go.Proofs.Ytdgkjdjmgndiiaa
open Go.RowKit
set_option linter.unusedSimpArgs false
set_option linter.unusedVariables false
namespace Tg

/-- the word of a number, or none -/
def look : List (Nat × List UInt8) → Int → List UInt8
  | [], _ => []
  | p :: l, n => if n = (p.1 : Int) then p.2 else look l n

/-- the number of a word, or none -/
def find : List (Nat × List UInt8) → List UInt8 → Option Nat
  | [], _ => none
  | p :: l, s => if p.2 = s then some p.1 else find l s

def L1 : List (Nat × List UInt8) :=
  [(4325377, [65, 99, 116, 105, 118, 97, 116, 105, 111, 110, 68, 97, 116, 101]), (4325381, [65, 114, 99, 104, 105, 118, 101, 68, 97, 116, 101]), (4325384, [65, 116, 116, 114, 105, 98, 117, 116, 101]), (4325385, [65, 116, 116, 114, 105, 98, 117, 116, 101, 73, 110, 100, 101, 120]), (4325386, [65, 116, 116, 114, 105, 98, 117, 116, 101, 78, 97, 109, 101]), (4325387, [65, 116, 116, 114, 105, 98, 117, 116, 101, 86, 97, 108, 117, 101]), (4325389, [66, 97, 116, 99, 104, 67, 111, 117, 110, 116]), (4325390, [79, 112, 116, 105, 111, 110]), (4325391, [66, 97, 116, 99, 104, 73, 116, 101, 109]), (4325392, [79, 114, 100, 101, 114, 79, 112, 116, 105, 111, 110]), (4325409, [67, 111, 109, 112, 114, 111, 109, 105, 115, 101, 68, 97, 116, 101]), (4325416, [65, 108, 103, 111, 114, 105, 116, 104, 109]), (4325418, [76, 101, 110, 103, 116, 104]), (4325419, [80, 97, 114, 97, 109, 101, 116, 101, 114, 115]), (4325420, [85, 115, 97, 103, 101, 77, 97, 115, 107]), (4325437, [73, 118])]
def L2 : List (Nat × List UInt8) :=
  [(4325440, [75, 101, 121, 66, 108, 111, 99, 107]), (4325442, [70, 111, 114, 109, 97, 116, 84, 121, 112, 101]), (4325443, [77, 97, 116, 101, 114, 105, 97, 108]), (4325445, [75, 101, 121, 86, 97, 108, 117, 101]), (4325450, [76, 105, 110, 107]), (4325451, [76, 105, 110, 107, 84, 121, 112, 101]), (4325452, [76, 105, 110, 107, 101, 100, 73, 100]), (4325455, [77, 97, 120, 105, 109, 117, 109, 73, 116, 101, 109, 115]), (4325456, [77, 97, 120, 105, 109, 117, 109, 83, 105, 122, 101]), (4325463, [79, 98, 106, 101, 99, 116, 84, 121, 112, 101]), (4325464, [79, 102, 102, 115, 101, 116]), (4325468, [79, 112, 101, 114, 97, 116, 105, 111, 110]), (4325478, [80, 114, 105, 118, 97, 116, 101, 73, 100]), (4325481, [86, 101, 114, 115, 105, 111, 110]), (4325482, [77, 97, 106, 111, 114]), (4325483, [77, 105, 110, 111, 114]), (4325487, [80, 117, 98, 108, 105, 99, 73, 100])]
def L3 : List (Nat × List UInt8) :=
  [(4325492, [81, 117, 101, 114, 121, 70, 117, 110, 99, 116, 105, 111, 110]), (4325495, [82, 101, 113, 117, 101, 115, 116, 72, 101, 97, 100, 101, 114]), (4325496, [82, 101, 113, 117, 101, 115, 116, 77, 101, 115, 115, 97, 103, 101]), (4325497, [82, 101, 113, 117, 101, 115, 116, 80, 97, 121, 108, 111, 97, 100]), (4325498, [82, 101, 115, 112, 111, 110, 115, 101, 72, 101, 97, 100, 101, 114]), (4325499, [82, 101, 115, 112, 111, 110, 115, 101, 77, 101, 115, 115, 97, 103, 101]), (4325500, [82, 101, 115, 112, 111, 110, 115, 101, 80, 97, 121, 108, 111, 97, 100]), (4325501, [77, 101, 115, 115, 97, 103, 101]), (4325502, [82, 101, 97, 115, 111, 110]), (4325503, [83, 116, 97, 116, 117, 115]), (4325504, [82, 101, 118, 111, 99, 97, 116, 105, 111, 110, 77, 101, 115, 115, 97, 103, 101]), (4325505, [82, 101, 118, 111, 99, 97, 116, 105, 111, 110, 82, 101, 97, 115, 111, 110]), (4325506, [82, 101, 97, 115, 111, 110, 67, 111, 100, 101])]
def L4 : List (Nat × List UInt8) :=
  [(4325517, [83, 116, 97, 116, 101]), (4325521, [84, 101, 109, 112, 108, 97, 116, 101, 65, 116, 116, 114, 105, 98, 117, 116, 101]), (4325522, [84, 105, 109, 101, 83, 116, 97, 109, 112]), (4325523, [66, 97, 116, 99, 104, 73, 100]), (4325524, [85, 110, 105, 113, 117, 101, 73, 100]), (4325525, [76, 105, 109, 105, 116, 115]), (4325526, [76, 105, 109, 105, 116, 115, 67, 111, 117, 110, 116]), (4325527, [76, 105, 109, 105, 116, 115, 84, 111, 116, 97, 108]), (4325528, [76, 105, 109, 105, 116, 115, 85, 110, 105, 116]), (4325531, [86, 97, 108, 105, 100, 105, 116, 121]), (4325533, [86, 101, 110, 100, 111, 114]), (4325570, [68, 97, 116, 97]), (4325574, [77, 97, 99, 68, 97, 116, 97])]
def words : List (Nat × List UInt8) := L1 ++ (L2 ++ (L3 ++ L4))
def ops : List (Nat × List UInt8) :=
  [(1, [67, 114, 101, 97, 116, 101]), (2, [67, 114, 101, 97, 116, 101, 80, 97, 105, 114]), (3, [82, 101, 103, 105, 115, 116, 101, 114]), (4, [82, 101, 107, 101, 121]), (8, [76, 111, 99, 97, 116, 101]), (9, [67, 104, 101, 99, 107]), (10, [71, 101, 116]), (11, [71, 101, 116, 65, 116, 116, 114, 105, 98, 117, 116, 101, 115]), (12, [76, 105, 115, 116, 65, 116, 116, 114, 105, 98, 117, 116, 101, 115]), (13, [65, 100, 100, 65, 116, 116, 114, 105, 98, 117, 116, 101]), (14, [77, 111, 100, 105, 102, 121, 65, 116, 116, 114, 105, 98, 117, 116, 101]), (15, [68, 101, 108, 101, 116, 101, 65, 116, 116, 114, 105, 98, 117, 116, 101]), (17, [65, 108, 108, 111, 99, 97, 116, 101]), (18, [65, 99, 116, 105, 118, 97, 116, 101]), (19, [82, 101, 118, 111, 107, 101]), (20, [68, 101, 115, 116, 114, 111, 121]), (21, [65, 114, 99, 104, 105, 118, 101]), (22, [82, 101, 99, 111, 118, 101, 114]), (24, [81, 117, 101, 114, 121]), (30, [86, 101, 114, 115, 105, 111, 110, 115]), (31, [69, 110, 99, 114, 121, 112, 116]), (32, [68, 101, 99, 114, 121, 112, 116]), (35, [77, 97, 99]), (36, [77, 97, 99, 86, 101, 114, 105, 102, 121])]

theorem look_none {l : List (Nat × List UInt8)} {n : Int} (h : ∀ p ∈ l, n ≠ (p.1 : Int)) : look l n = [] := by
  induction l with
  | nil => rfl
  | cons p l ih =>
    unfold look
    rw [if_neg (h p (by simp)), ih (fun q hq => h q (List.mem_cons_of_mem _ hq))]

theorem look_append (a b : List (Nat × List UInt8)) (n : Int) : (∀ p ∈ b, n ≠ (p.1 : Int)) → look (a ++ b) n = look a n := by
  intro h
  induction a with
  | nil => rw [List.nil_append, look_none h]; rfl
  | cons p a ih =>
    show (if n = (p.1 : Int) then p.2 else look (a ++ b) n) = if n = (p.1 : Int) then p.2 else look a n
    rw [ih]

theorem look_behind (a b : List (Nat × List UInt8)) (n : Int) : (∀ p ∈ a, n ≠ (p.1 : Int)) → look (a ++ b) n = look b n := by
  intro h
  induction a with
  | nil => rfl
  | cons p a ih =>
    show (if n = (p.1 : Int) then p.2 else look (a ++ b) n) = look b n
    rw [if_neg (h p (by simp)), ih (fun q hq => h q (List.mem_cons_of_mem _ hq))]

theorem look_mem {l : List (Nat × List UInt8)} {n : Int} (h : look l n ≠ []) : ∃ p ∈ l, n = (p.1 : Int) ∧ p.2 = look l n := by
  induction l with
  | nil => exact absurd rfl h
  | cons p l ih =>
    unfold look at h ⊢
    split at h <;> rename_i hh
    · exact ⟨p, by simp, hh, by rw [if_pos hh]⟩
    · rw [if_neg hh]
      obtain ⟨q, hq, e⟩ := ih h
      exact ⟨q, List.mem_cons_of_mem _ hq, e⟩

theorem find_some {l : List (Nat × List UInt8)} {s : List UInt8} {t : Nat} (h : find l s = some t) : (t, s) ∈ l := by
  induction l with
  | nil => cases h
  | cons p l ih =>
    unfold find at h
    split at h <;> rename_i hh
    · cases h; rw [← hh]; simp
    · exact List.mem_cons_of_mem _ (ih h)

theorem find_none {l : List (Nat × List UInt8)} {s : List UInt8} (h : find l s = none) : ∀ p ∈ l, p.2 ≠ s := by
  induction l with
  | nil => intro p hp; cases hp
  | cons p l ih =>
    unfold find at h
    split at h <;> rename_i hh
    · cases h
    · intro q hq
      rcases List.mem_cons.1 hq with rfl | hq
      · exact hh
      · exact ih h q hq

/-- each number has its word, each word its number -/
theorem words_look : ∀ p ∈ words, look words p.1 = p.2 := by decide +kernel
theorem words_find : ∀ p ∈ words, find words p.2 = some p.1 := by decide +kernel
theorem words_ne : ∀ p ∈ words, p.2 ≠ [] := by decide +kernel
theorem words_in : ∀ p ∈ words, 4325377 ≤ p.1 ∧ p.1 ≤ 4325574 := by decide +kernel
theorem ops_look : ∀ p ∈ ops, look ops p.1 = p.2 := by decide +kernel
theorem ops_ne : ∀ p ∈ ops, p.2 ≠ [] := by decide +kernel
theorem ops_in : ∀ p ∈ ops, 1 ≤ p.1 ∧ p.1 ≤ 36 := by decide +kernel

/-- a word that is not empty is a number's just where the number is the word's -/
theorem look_find {n : Int} {s : List UInt8} (hs : s ≠ []) : look words n = s ↔ ∃ t, find words s = some t ∧ n = (t : Int) := by
  constructor
  · intro h
    obtain ⟨p, hp, e1, e2⟩ := look_mem (l := words) (n := n) (by rw [h]; exact hs)
    exact ⟨p.1, by rw [← h, ← e2, words_find p hp], e1⟩
  · rintro ⟨t, h, rfl⟩
    exact words_look _ (find_some h)

theorem look1 {n : Int} (h : n < 4325440) : look words n = look L1 n := by
  have k : ∀ p ∈ L2 ++ (L3 ++ L4), 4325440 ≤ p.1 := by decide +kernel
  exact look_append _ _ n (fun p hp e => by have := k p hp; omega)
theorem look2 {n : Int} (h : 4325440 ≤ n) (h' : n < 4325492) : look words n = look L2 n := by
  have k : ∀ p ∈ L3 ++ L4, 4325492 ≤ p.1 := by decide +kernel
  have k1 : ∀ p ∈ L1, p.1 < 4325440 := by decide +kernel
  show look (L1 ++ _) n = _
  rw [look_behind _ _ n (fun p hp e => by have := k1 p hp; omega)]
  exact look_append _ _ n (fun p hp e => by have := k p hp; omega)
theorem look3 {n : Int} (h : 4325492 ≤ n) (h' : n < 4325517) : look words n = look L3 n := by
  have k : ∀ p ∈ L4, 4325517 ≤ p.1 := by decide +kernel
  have k1 : ∀ p ∈ L1, p.1 < 4325492 := by decide +kernel
  have k2 : ∀ p ∈ L2, p.1 < 4325492 := by decide +kernel
  show look (L1 ++ (L2 ++ _)) n = _
  rw [look_behind _ _ n (fun p hp e => by have := k1 p hp; omega), look_behind _ _ n (fun p hp e => by have := k2 p hp; omega)]
  exact look_append _ _ n (fun p hp e => by have := k p hp; omega)
theorem look4 {n : Int} (h : 4325517 ≤ n) : look words n = look L4 n := by
  have k1 : ∀ p ∈ L1, p.1 < 4325517 := by decide +kernel
  have k2 : ∀ p ∈ L2, p.1 < 4325517 := by decide +kernel
  have k3 : ∀ p ∈ L3, p.1 < 4325517 := by decide +kernel
  show look (L1 ++ (L2 ++ (L3 ++ L4))) n = _
  rw [look_behind _ _ n (fun p hp e => by have := k1 p hp; omega), look_behind _ _ n (fun p hp e => by have := k2 p hp; omega), look_behind _ _ n (fun p hp e => by have := k3 p hp; omega)]

end Tg
end Go.Proofs.Ytdgkjdjmgndiiaa
