/-
  Contract of disk's Pending: all that pends, in order, in new memory.
-/
import Derived.Test.YtmcobkcnpnfobaaDkRead
namespace Go.Proofs.Ytmcobkcnpnfobaa
open Go.RowKit
set_option linter.unusedSimpArgs false
set_option linter.unusedVariables false

/-- a Write's cells -/
def wrt (p : Nat × Value) : List Value := [.int .i64 p.1, p.2]

theorem Only.range {S : Nat → Prop} {w w' : World} (h : Only S w w') {b o : Nat} {cs : List Value} (hr : w.rangeAt b o cs) (hS : ¬ S b) : w'.rangeAt b o cs := fun j v hv => h.cell (hr j v hv) hS

theorem Has.one {w : World} {v : Value} {bs : List UInt8} (h : Has w v bs) : v.oneCell' = true := by
  obtain ⟨ao, c, rfl, _⟩ := h.shape
  rfl

theorem wrt_length (p) : (wrt p).length = 2 := rfl

theorem own_blk {w : World} {base e m n : Nat} {v : Value} {xs : List Value} (h : w.ownsRow base e m v n xs) (j : Nat) (hj : blk v = some j) : v.ownBlock = some j := by
  obtain ⟨ao, cap, rfl⟩ := ownsRow_shape h
  cases ao with
  | none => cases hj
  | some a => exact hj

section
variable {w : World} {b g cap : Nat} {pv : Value} {d : Dk}

end

end Go.Proofs.Ytmcobkcnpnfobaa
