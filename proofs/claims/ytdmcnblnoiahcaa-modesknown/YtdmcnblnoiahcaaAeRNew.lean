/-
  locksmithref8: New (under way).
-/
import Derived.Test.YtdmcnblnoiahcaaAeRKey
import Derived.Test.YtdmcnblnoiahcaaAeKs
namespace Go.Proofs.Ytdmcnblnoiahcaa
open Go.RowKit
set_option linter.unusedSimpArgs false
set_option linter.unusedVariables false
namespace Ae

def zeroC : List Value := [Value.slice none 0 0] ++ (zero256.map bv ++ zero256.map bv)
theorem Try.infoC : (Try.prog.info? 83).map (fun i => (i.zero, i.size)) = some (some (.agg zeroC.toArray), 513) := by kernel_rfl
theorem zvC (w : World) : (zeroValue 83).run Try.prog w = .ok (.agg zeroC.toArray) w := by
  have h := Try.infoC
  cases hi : Try.prog.info? 83 with
  | none => rw [hi] at h; cases h
  | some i0 =>
    rw [hi] at h
    simp only [Option.map_some, Option.some.injEq, Prod.mk.injEq] at h
    simp [zeroValue, typeInfo, hi, h.1]

end Ae
end Go.Proofs.Ytdmcnblnoiahcaa
