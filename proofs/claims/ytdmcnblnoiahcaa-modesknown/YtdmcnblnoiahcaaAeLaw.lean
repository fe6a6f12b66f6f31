/-
  locksmithlaw8.key; AesBack.
-/
import Derived.Test.YtdmcnblnoiahcaaAeBackS
import Derived.Test.YtdmcnblnoiahcaaAeSeal
import Derived.Test.YtdmcnblnoiahcaaAeOpen
import Derived.Test.YtdmcnblnoiahcaaHandPick
import Derived.Stop.BytesEq
namespace Go.Proofs.Ytdmcnblnoiahcaa
open Go.RowKit
set_option linter.unusedSimpArgs false
set_option linter.unusedVariables false
namespace Ae

theorem Try.under32 : Try.prog.underlying 29 = some (.array 32 5) := by kernel_rfl
theorem Try.size32 : (Try.prog.info? 29).map (·.size) = some 32 := by kernel_rfl

theorem eql_blk (x y : List UInt8) (hx : x.length = 16) (hy : y.length = 16) (w : World) : (binOp .eql 36 (.agg (x.map bv).toArray) (.agg (y.map bv).toArray)).run Try.prog w = .ok (.bool (x == y)) w :=
  run_eql_bytes w 36 5 16 Try.under16 Try.underlying5 (fun w => by obtain ⟨i0, hi0, hz0, hz1, hz2⟩ := info_parts Try.info5; simp [sizeOf, typeInfo, hi0, hz1]) x y hx hy

theorem exec_eql {P : Program} {o : Oper} {a : Act} {w : World} (t t2 : TypeId) (x y : Operand) (ho : o.op = .binOp .eql t x y t2) (vx vy v : Value) (hx : a.eval x = vx) (hy : a.eval y = vy) (hr : (binOp .eql t vx vy).run P w = .ok v w) (hg : (eqGuard .eql t x y vx vy).run P w = .ok () w := by rfl) : (execOp a.eval o).run P w = .ok (.value v) w := by
  unfold execOp
  simp only [ho, hx, hy]
  simp [hr, hg, Result.andThen]

theorem seal_inj (bs : List UInt8) (m : Nat) (hm : 2 ≤ m) (hl : bs.length = 16 * m) (a b : List UInt8) (ha : a.length = 16) (hb : b.length = 16) : (sealT bs m a m == sealT bs m b m) = (a == b) := by
  have h1 := open_seal bs m hm hl a ha m (Nat.le_refl _)
  have h2 := open_seal bs m hm hl b hb m (Nat.le_refl _)
  rw [Nat.sub_self] at h1 h2
  have e1 : openT bs m (sealT bs m a m) m = a := h1
  have e2 : openT bs m (sealT bs m b m) m = b := h2
  by_cases h : a = b
  · subst h; simp
  · have hn : ¬ sealT bs m a m = sealT bs m b m := fun e => h (by rw [← e1, ← e2, e])
    rw [show (sealT bs m a m == sealT bs m b m) = false by simpa using hn, show (a == b) = false by simpa using h]

end Ae
end Go.Proofs.Ytdmcnblnoiahcaa
