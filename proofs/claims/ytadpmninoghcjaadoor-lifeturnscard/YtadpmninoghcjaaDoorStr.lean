/-
  Strings out of bytes: how they are held against one another.
-/
import Derived.Test.YtadpmninoghcjaaDoorMem
namespace Go.Proofs.YtadpmninoghcjaaDoor
open Go.RowKit

theorem toList_loop (bs : ByteArray) (i : Nat) (r : List UInt8) (hi : i ≤ bs.size) : ByteArray.toList.loop bs i r = r.reverse ++ bs.data.toList.drop i := by
  generalize hn : bs.size - i = n
  induction n generalizing i r with
  | zero =>
    rw [ByteArray.toList.loop]
    have : ¬ i < bs.size := by omega
    rw [if_neg this]
    rw [List.drop_eq_nil_of_le (by rw [Array.length_toList]; show bs.size ≤ i; omega)]
    simp
  | succ n ih =>
    rw [ByteArray.toList.loop]
    have h : i < bs.size := by omega
    rw [if_pos h, ih (i + 1) _ (by omega) (by omega)]
    have hl : i < bs.data.toList.length := by rw [Array.length_toList]; exact h
    rw [List.drop_eq_getElem_cons hl]
    have e : bs.get! i = bs.data.toList[i] := by
      show bs.data[i]! = _
      rw [getElem!_pos bs.data i h]; simp
    rw [e]
    simp

theorem str_toList (xs : List UInt8) : (str xs).toList = xs := by
  show ByteArray.toList.loop _ 0 [] = _
  rw [toList_loop _ _ _ (Nat.zero_le _)]
  simp [str]

theorem str_beq (xs ys : List UInt8) : ((str xs).toList == (str ys).toList) = decide (xs = ys) := by
  rw [str_toList, str_toList, Bool.eq_iff_iff]
  simp

end Go.Proofs.YtadpmninoghcjaaDoor
