/-
  utf8.word over bytes: the number that the first eight of them spell.
-/
import Derived.Test.YtedmfjnmclbkpaaDoorU8
import Derived.Test.YtedmfjnmclbkpaaDoorBase
import Derived.Lib.Endian
import Derived.Lib.EndianBits
import Derived.Deep.QuietTactic
namespace Go.Proofs.YtedmfjnmclbkpaaDoor
open Go.RowKit Go.Shelf Go.Lib
set_option linter.unusedSimpArgs false
set_option linter.unusedVariables false
namespace U8

/-- t's bytes lie in w from there on -/
def Lie (w : World) (b o : Nat) (t : ByteArray) : Prop := ∀ j, j < t.size → w.cell? ⟨b, o + j, none⟩ = some (.int .u8 (t.get! j).toNat)

theorem Lie.only {S : Nat → Prop} {w w' : World} {b o : Nat} {t : ByteArray} (h : Lie w b o t) (ho : Only S w w') (hS : ¬ S b) : Lie w' b o t := fun j hj => ho.cell (h j hj) hS
theorem Lie.drewN {w : World} {b o : Nat} {t : ByteArray} (h : Lie w b o t) (n : Nat) : Lie (w.drewN n) b o t := fun j hj => by rw [World.cell?_drewN]; exact h j hj

def word8 (t : ByteArray) : Nat := Lib.leNat [t.get! 0, t.get! 1, t.get! 2, t.get! 3, t.get! 4, t.get! 5, t.get! 6, t.get! 7]

set_option maxHeartbeats 8000000 in
set_option maxRecDepth 100000 in
theorem word_any (t : ByteArray) (b o cp : Nat) (w : World) (h : Lie w b o t) (h8 : 8 ≤ t.size) :
    Calls Tryd.prog 100 #[.slice (some ⟨b, o, none⟩) t.size cp] w fun e w' => e = .returned (.int .u64 (word8 t)) ∧ ∃ q, w' = w.drewN q := by
  have c0 := h 0 (by omega)
  have c1 := h 1 (by omega)
  have c2 := h 2 (by omega)
  have c3 := h 3 (by omega)
  have c4 := h 4 (by omega)
  have c5 := h 5 (by omega)
  have c6 := h 6 (by omega)
  have c7 := h 7 (by omega)
  unfold word8
  have l0 := (t.get! 0).toNat_lt
  have l1 := (t.get! 1).toNat_lt
  have l2 := (t.get! 2).toNat_lt
  have l3 := (t.get! 3).toNat_lt
  have l4 := (t.get! 4).toNat_lt
  have l5 := (t.get! 5).toNat_lt
  have l6 := (t.get! 6).toNat_lt
  have l7 := (t.get! 7).toNat_lt
  generalize t.get! 0 = x0 at *
  generalize t.get! 1 = x1 at *
  generalize t.get! 2 = x2 at *
  generalize t.get! 3 = x3 at *
  generalize t.get! 4 = x4 at *
  generalize t.get! 5 = x5 at *
  generalize t.get! 6 = x6 at *
  generalize t.get! 7 = x7 at *
  have hv : ((Lib.leNat [x0, x1, x2, x3, x4, x5, x6, x7] : Nat) : Int) = (x0.toNat : Int) + (x1.toNat : Int) * 256 + (x2.toNat : Int) * 65536 + (x3.toNat : Int) * 16777216 + (x4.toNat : Int) * 4294967296 + (x5.toNat : Int) * 1099511627776 + (x6.toNat : Int) * 281474976710656 + (x7.toNat : Int) * 72057594037927936 := by
    simp only [Lib.leNat]
    push_cast
    omega
  have HV := hide hv
  have q0 : (0 : Int) < (t.size : Int) := by omega
  have q1 : (1 : Int) < (t.size : Int) := by omega
  have q2 : (2 : Int) < (t.size : Int) := by omega
  have q3 : (3 : Int) < (t.size : Int) := by omega
  have q4 : (4 : Int) < (t.size : Int) := by omega
  have q5 : (5 : Int) < (t.size : Int) := by omega
  have q6 : (6 : Int) < (t.size : Int) := by omega
  have q7 : (7 : Int) < (t.size : Int) := by omega
  clear h hv
  simp only [Nat.add_zero] at c0
  go_enter Tryd.func100, Tryd.ntmps100
  go_wp2
  go_quiet ((fail))
  go_wp2
  go_ret
  refine ⟨?_, _, rfl⟩
  simp (disch := omega) only [u64_wrap_id, u64_or8, u64_or16, u64_or24, u64_or32, u64_or40, u64_or48, u64_or56]
  rw [unhide HV]
  rfl
end U8
end Go.Proofs.YtedmfjnmclbkpaaDoor
