/-
  No cell of these rows narrows 'for every input' (looked for: loops, veiled, ifaces, maps, wideKeys, modest, calm, conditions, laid).
  DERIVED. THE GIVEN ROWS OF THIS SEAT. 2 by the template 'for every input the law returns true; each argument reads behind the call as it read before'; 0 by the template 'total and deterministic' (their statements: YtdmcnblnoiahcaaTotals.lean).
  GIVEN WITH THE SEED: the statements are not yours to turn. If you find one false, say at which input.
  Laid BY PROGRAM, IN A SANDBOX (cutbox-rows.mjs): the forced cells as the released guide's own fill.sh prints them over the translation 5a975aa3f1ae2de8… (all of the seat's roots in one cut). By AI agents, Wed Nov 11 2026. No macro, syntax, notation, axiom, sorry.
-/
import Derived.Test.YtdmcnblnoiahcaaChecked
import GoSem.Claim
import GoSem.ClaimJoined
import GoSem.ClaimMapViews
import Derived.JoinedTies
import Derived.KernelRfl
namespace Go.Proofs.Ytdmcnblnoiahcaa
/- THE CELL 'sum', in the pinned program and in every row, IS THE sha256 OF THE DUMP (.gsa) THAT YtdmcnblnoiahcaaProg.lean LOADS. Nothing in Lean hashes anything: it is a label: what it is worth is what the hold of that sum in a sandbox is worth. -/
noncomputable def Try.pinned : Pinned := { name := "ytdmcnblnoiahcaa", sum := "5a975aa3f1ae2de8a6091abb839ca47ab1cbb20718928afbd992f2f8eb5e9c7b", checked := Try.checked }
namespace Rows
def none {H : Type} : Left H := { results := [], args := [] }

/-- 'locksmithlaw9.ModesKnown': WHATEVER THE INPUT: true; the input reads as it did. -/
def modesKnownSpec : ChangeSpec := { name := "modesKnown", fn := fun _ => fun
  | [] => { results := [.lit (.bool true)], args := [] }
  | _ => none }
def modesKnownRow : OpenClaim := { program := "ytdmcnblnoiahcaa", sum := "5a975aa3f1ae2de8a6091abb839ca47ab1cbb20718928afbd992f2f8eb5e9c7b", func := "locksmith/locksmithlaw9.ModesKnown", spec := "modesKnown", inPlace := ["internal/bytealg.MakeNoZero"], unfollowed := true, recurses := true, apart := false }
def ModesKnownSaid : Prop := modesKnownRow.holds Try.pinned (OpenSpec.ofChange modesKnownSpec)

/-- ITS FALSE NEIGHBOUR: 'it returns false'. Refute it at one input. -/
def modesKnownWrong : ChangeSpec := { name := "modesKnown", fn := fun _ => fun
  | [] => { results := [.lit (.bool false)], args := [] }
  | _ => none }
def ModesKnownWrongFalsely : Prop := modesKnownRow.holds Try.pinned (OpenSpec.ofChange modesKnownWrong)

/-- 'locksmithlaw9.ModesMacs': WHATEVER THE INPUT: true; the input reads as it did. -/
def modesMacsSpec : ChangeSpec := { name := "modesMacs", fn := fun _ => fun
  | [d1, d2, d3, d4, d5] => { results := [.lit (.bool true)], args := [d1, d2, d3, d4, d5] }
  | _ => none }
def modesMacsRow : OpenClaim := { program := "ytdmcnblnoiahcaa", sum := "5a975aa3f1ae2de8a6091abb839ca47ab1cbb20718928afbd992f2f8eb5e9c7b", func := "locksmith/locksmithlaw9.ModesMacs", spec := "modesMacs", inPlace := ["internal/bytealg.MakeNoZero"], unfollowed := true, recurses := true, apart := false }
def ModesMacsSaid : Prop := modesMacsRow.holds Try.pinned (OpenSpec.ofChange modesMacsSpec)

/-- ITS FALSE NEIGHBOUR: 'it returns false'. Refute it at one input. -/
def modesMacsWrong : ChangeSpec := { name := "modesMacs", fn := fun _ => fun
  | [d1, d2, d3, d4, d5] => { results := [.lit (.bool false)], args := [d1, d2, d3, d4, d5] }
  | _ => none }
def ModesMacsWrongFalsely : Prop := modesMacsRow.holds Try.pinned (OpenSpec.ofChange modesMacsWrong)

/- THE SECOND FORM. 'bulk': how many values and letters a reading holds, each counted each time it is reached (what is shared counts as often as it is met; a slice's spare places count too). A statement '..UptoSaid' is the law's where the arguments, and the package variables that the reading takes, are together of bulk at most 1048576: NARROWER than '..Said'. Prove '..Said' where nothing that the law and all that it calls make is longer than what came in: it says more and counts as full. Else prove '..UptoSaid'. A law counts once. -/
mutual
def uptoBulk {H : Type} : DataW H → Nat
  | .lit (.string bytes) => bytes.length + 1
  | .lit _ => 1
  | .nil => 1
  | .ptr d => uptoBulk d + 1
  | .slice elems spare => uptoBulkAll elems + uptoBulkAll spare + 1
  | .agg parts => uptoBulkAll parts + 1
  | .iface _ d => uptoBulk d + 1
  | .map entries => uptoBulkEntries entries + 1
  | .held _ => 1
def uptoBulkAll {H : Type} : List (DataW H) → Nat
  | [] => 0
  | d :: r => uptoBulk d + uptoBulkAll r
def uptoBulkEntries {H : Type} : List (Lit × DataW H) → Nat
  | [] => 0
  | x :: r => uptoBulkEntry x + uptoBulkEntries r
def uptoBulkEntry {H : Type} : Lit × DataW H → Nat
  | (.string bytes, d) => bytes.length + uptoBulk d + 1
  | (_, d) => uptoBulk d + 1
 end
def uptoSmall : (H : Type) → List (DataW H) → Bool := fun _ ds => decide (uptoBulkAll ds ≤ 1048576)
def OpenSpec.upto (s : _root_.Go.ChangeSpec) : _root_.Go.OpenSpec := { _root_.Go.OpenSpec.ofChange s with cond := some uptoSmall }

/-- 'locksmithlaw9.ModesKnown', WHERE WHAT IT READS IS OF BULK AT MOST 1048576: true; the input reads as it did. -/
def modesKnownUptoRow : OpenClaim := { program := "ytdmcnblnoiahcaa", sum := "5a975aa3f1ae2de8a6091abb839ca47ab1cbb20718928afbd992f2f8eb5e9c7b", func := "locksmith/locksmithlaw9.ModesKnown", spec := "modesKnown", inPlace := ["internal/bytealg.MakeNoZero"], unfollowed := true, recurses := true, apart := false, narrowed := true }
def ModesKnownUptoSaid : Prop := modesKnownUptoRow.holds Try.pinned (OpenSpec.upto modesKnownSpec)

/-- 'locksmithlaw9.ModesMacs', WHERE WHAT IT READS IS OF BULK AT MOST 1048576: true; the input reads as it did. -/
def modesMacsUptoRow : OpenClaim := { program := "ytdmcnblnoiahcaa", sum := "5a975aa3f1ae2de8a6091abb839ca47ab1cbb20718928afbd992f2f8eb5e9c7b", func := "locksmith/locksmithlaw9.ModesMacs", spec := "modesMacs", inPlace := ["internal/bytealg.MakeNoZero"], unfollowed := true, recurses := true, apart := false, narrowed := true }
def ModesMacsUptoSaid : Prop := modesMacsUptoRow.holds Try.pinned (OpenSpec.upto modesMacsSpec)

end Rows
end Go.Proofs.Ytdmcnblnoiahcaa
