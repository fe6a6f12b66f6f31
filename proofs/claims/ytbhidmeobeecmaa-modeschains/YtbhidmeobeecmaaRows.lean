/-
  No cell of these rows narrows 'for every input' (looked for: loops, veiled, ifaces, maps, wideKeys, modest, calm, conditions, laid).
  DERIVED. THE GIVEN ROWS OF THIS SEAT. 6 by the template 'for every input the law returns true; each argument reads behind the call as it read before'; 0 by the template 'total and deterministic' (their statements: YtbhidmeobeecmaaTotals.lean).
  GIVEN WITH THE SEED: the statements are not yours to turn. If you find one false, say at which input.
  Laid BY PROGRAM, IN A SANDBOX (cutbox-rows.mjs): the forced cells as the released guide's own fill.sh prints them over the translation ea304cc7ca371091… (all of the seat's roots in one cut). By AI agents, Wed Nov 11 2026. No macro, syntax, notation, axiom, sorry.
-/
import Derived.Test.YtbhidmeobeecmaaChecked
import GoSem.Claim
import GoSem.ClaimJoined
import GoSem.ClaimMapViews
import Derived.JoinedTies
import Derived.KernelRfl
namespace Go.Proofs.Ytbhidmeobeecmaa
/- THE CELL 'sum', in the pinned program and in every row, IS THE sha256 OF THE DUMP (.gsa) THAT YtbhidmeobeecmaaProg.lean LOADS. Nothing in Lean hashes anything: it is a label: what it is worth is what the hold of that sum in a sandbox is worth. -/
noncomputable def Try.pinned : Pinned := { name := "ytbhidmeobeecmaa", sum := "ea304cc7ca3710919236305b2969eb88ad184542ea2db75d67e30d32d36d4a78", checked := Try.checked }
namespace Rows
def none {H : Type} : Left H := { results := [], args := [] }

/-- 'locksmithlaw9.ModesKnown': WHATEVER THE INPUT: true; the input reads as it did. -/
def modesKnownSpec : ChangeSpec := { name := "modesKnown", fn := fun _ => fun
  | [] => { results := [.lit (.bool true)], args := [] }
  | _ => none }
def modesKnownRow : OpenClaim := { program := "ytbhidmeobeecmaa", sum := "ea304cc7ca3710919236305b2969eb88ad184542ea2db75d67e30d32d36d4a78", func := "locksmith/locksmithlaw9.ModesKnown", spec := "modesKnown", inPlace := ["internal/bytealg.MakeNoZero"], unfollowed := true, recurses := true, apart := false }
def ModesKnownSaid : Prop := modesKnownRow.holds Try.pinned (OpenSpec.ofChange modesKnownSpec)

/-- ITS FALSE NEIGHBOUR: 'it returns false'. Refute it at one input. -/
def modesKnownWrong : ChangeSpec := { name := "modesKnown", fn := fun _ => fun
  | [] => { results := [.lit (.bool false)], args := [] }
  | _ => none }
def ModesKnownWrongFalsely : Prop := modesKnownRow.holds Try.pinned (OpenSpec.ofChange modesKnownWrong)

/-- 'locksmithlaw9.ModesPads': WHATEVER THE INPUT: true; the input reads as it did. -/
def modesPadsSpec : ChangeSpec := { name := "modesPads", fn := fun _ => fun
  | [d1, d2, d3, d4, d5] => { results := [.lit (.bool true)], args := [d1, d2, d3, d4, d5] }
  | _ => none }
def modesPadsRow : OpenClaim := { program := "ytbhidmeobeecmaa", sum := "ea304cc7ca3710919236305b2969eb88ad184542ea2db75d67e30d32d36d4a78", func := "locksmith/locksmithlaw9.ModesPads", spec := "modesPads", inPlace := ["internal/bytealg.MakeNoZero"], apart := false }
def ModesPadsSaid : Prop := modesPadsRow.holds Try.pinned (OpenSpec.ofChange modesPadsSpec)

/-- ITS FALSE NEIGHBOUR: 'it returns false'. Refute it at one input. -/
def modesPadsWrong : ChangeSpec := { name := "modesPads", fn := fun _ => fun
  | [d1, d2, d3, d4, d5] => { results := [.lit (.bool false)], args := [d1, d2, d3, d4, d5] }
  | _ => none }
def ModesPadsWrongFalsely : Prop := modesPadsRow.holds Try.pinned (OpenSpec.ofChange modesPadsWrong)

/-- 'locksmithlaw9.ModesSeals': WHATEVER THE INPUT: true; the input reads as it did. -/
def modesSealsSpec : ChangeSpec := { name := "modesSeals", fn := fun _ => fun
  | [d1, d2, d3, d4, d5, d6, d7] => { results := [.lit (.bool true)], args := [d1, d2, d3, d4, d5, d6, d7] }
  | _ => none }
def modesSealsRow : OpenClaim := { program := "ytbhidmeobeecmaa", sum := "ea304cc7ca3710919236305b2969eb88ad184542ea2db75d67e30d32d36d4a78", func := "locksmith/locksmithlaw9.ModesSeals", spec := "modesSeals", inPlace := ["internal/bytealg.MakeNoZero"], unfollowed := true, recurses := true, apart := false }
def ModesSealsSaid : Prop := modesSealsRow.holds Try.pinned (OpenSpec.ofChange modesSealsSpec)

/-- ITS FALSE NEIGHBOUR: 'it returns false'. Refute it at one input. -/
def modesSealsWrong : ChangeSpec := { name := "modesSeals", fn := fun _ => fun
  | [d1, d2, d3, d4, d5, d6, d7] => { results := [.lit (.bool false)], args := [d1, d2, d3, d4, d5, d6, d7] }
  | _ => none }
def ModesSealsWrongFalsely : Prop := modesSealsRow.holds Try.pinned (OpenSpec.ofChange modesSealsWrong)

/-- 'locksmithlaw9.ModesMacs': WHATEVER THE INPUT: true; the input reads as it did. -/
def modesMacsSpec : ChangeSpec := { name := "modesMacs", fn := fun _ => fun
  | [d1, d2, d3, d4, d5] => { results := [.lit (.bool true)], args := [d1, d2, d3, d4, d5] }
  | _ => none }
def modesMacsRow : OpenClaim := { program := "ytbhidmeobeecmaa", sum := "ea304cc7ca3710919236305b2969eb88ad184542ea2db75d67e30d32d36d4a78", func := "locksmith/locksmithlaw9.ModesMacs", spec := "modesMacs", inPlace := ["internal/bytealg.MakeNoZero"], unfollowed := true, recurses := true, apart := false }
def ModesMacsSaid : Prop := modesMacsRow.holds Try.pinned (OpenSpec.ofChange modesMacsSpec)

/-- ITS FALSE NEIGHBOUR: 'it returns false'. Refute it at one input. -/
def modesMacsWrong : ChangeSpec := { name := "modesMacs", fn := fun _ => fun
  | [d1, d2, d3, d4, d5] => { results := [.lit (.bool false)], args := [d1, d2, d3, d4, d5] }
  | _ => none }
def ModesMacsWrongFalsely : Prop := modesMacsRow.holds Try.pinned (OpenSpec.ofChange modesMacsWrong)

/-- 'locksmithlaw9.ModesBack': WHATEVER THE INPUT: true; the input reads as it did. -/
def modesBackSpec : ChangeSpec := { name := "modesBack", fn := fun _ => fun
  | [d1, d2, d3, d4, d5] => { results := [.lit (.bool true)], args := [d1, d2, d3, d4, d5] }
  | _ => none }
def modesBackRow : OpenClaim := { program := "ytbhidmeobeecmaa", sum := "ea304cc7ca3710919236305b2969eb88ad184542ea2db75d67e30d32d36d4a78", func := "locksmith/locksmithlaw9.ModesBack", spec := "modesBack", inPlace := ["internal/bytealg.MakeNoZero"], unfollowed := true, recurses := true, apart := false }
def ModesBackSaid : Prop := modesBackRow.holds Try.pinned (OpenSpec.ofChange modesBackSpec)

/-- ITS FALSE NEIGHBOUR: 'it returns false'. Refute it at one input. -/
def modesBackWrong : ChangeSpec := { name := "modesBack", fn := fun _ => fun
  | [d1, d2, d3, d4, d5] => { results := [.lit (.bool false)], args := [d1, d2, d3, d4, d5] }
  | _ => none }
def ModesBackWrongFalsely : Prop := modesBackRow.holds Try.pinned (OpenSpec.ofChange modesBackWrong)

/-- 'locksmithlaw9.ModesChains': WHATEVER THE INPUT: true; the input reads as it did. -/
def modesChainsSpec : ChangeSpec := { name := "modesChains", fn := fun _ => fun
  | [d1, d2, d3, d4, d5] => { results := [.lit (.bool true)], args := [d1, d2, d3, d4, d5] }
  | _ => none }
def modesChainsRow : OpenClaim := { program := "ytbhidmeobeecmaa", sum := "ea304cc7ca3710919236305b2969eb88ad184542ea2db75d67e30d32d36d4a78", func := "locksmith/locksmithlaw9.ModesChains", spec := "modesChains", inPlace := ["internal/bytealg.MakeNoZero"], unfollowed := true, recurses := true, apart := false }
def ModesChainsSaid : Prop := modesChainsRow.holds Try.pinned (OpenSpec.ofChange modesChainsSpec)

/-- ITS FALSE NEIGHBOUR: 'it returns false'. Refute it at one input. -/
def modesChainsWrong : ChangeSpec := { name := "modesChains", fn := fun _ => fun
  | [d1, d2, d3, d4, d5] => { results := [.lit (.bool false)], args := [d1, d2, d3, d4, d5] }
  | _ => none }
def ModesChainsWrongFalsely : Prop := modesChainsRow.holds Try.pinned (OpenSpec.ofChange modesChainsWrong)

/- THE SECOND FORM. 'bulk': how many values and letters a reading holds, each counted each time it is reached (what is shared counts as often as it is met; a slice's spare places count too). A statement '..UptoSaid' is the law's where the arguments, and the package variables that the reading takes, are together of bulk at most 1048576: NARROWER than '..Said'. Prove '..Said' where nothing that the law and all that it calls make is longer than what came in: it says more and counts as full. Else prove '..UptoSaid'. A law counts once. -/
mutual
def uptoBulk {H : Type} : DataW H → Nat
  | .lit (.string bytes) => bytes.length + 1
  | .lit _ => 1
  | .nil => 1
  | .ptr d => uptoBulk d + 1
  | .slice elems spare => uptoBulkAll elems + uptoBulkAll spare + 1
  | .agg parts => uptoBulkAll parts + 1
  | .iface _ d => uptoBulk d + 1
  | .map entries => uptoBulkEntries entries + 1
  | .held _ => 1
def uptoBulkAll {H : Type} : List (DataW H) → Nat
  | [] => 0
  | d :: r => uptoBulk d + uptoBulkAll r
def uptoBulkEntries {H : Type} : List (Lit × DataW H) → Nat
  | [] => 0
  | x :: r => uptoBulkEntry x + uptoBulkEntries r
def uptoBulkEntry {H : Type} : Lit × DataW H → Nat
  | (.string bytes, d) => bytes.length + uptoBulk d + 1
  | (_, d) => uptoBulk d + 1
 end
def uptoSmall : (H : Type) → List (DataW H) → Bool := fun _ ds => decide (uptoBulkAll ds ≤ 1048576)
def OpenSpec.upto (s : _root_.Go.ChangeSpec) : _root_.Go.OpenSpec := { _root_.Go.OpenSpec.ofChange s with cond := some uptoSmall }

/-- 'locksmithlaw9.ModesKnown', WHERE WHAT IT READS IS OF BULK AT MOST 1048576: true; the input reads as it did. -/
def modesKnownUptoRow : OpenClaim := { program := "ytbhidmeobeecmaa", sum := "ea304cc7ca3710919236305b2969eb88ad184542ea2db75d67e30d32d36d4a78", func := "locksmith/locksmithlaw9.ModesKnown", spec := "modesKnown", inPlace := ["internal/bytealg.MakeNoZero"], unfollowed := true, recurses := true, apart := false, narrowed := true }
def ModesKnownUptoSaid : Prop := modesKnownUptoRow.holds Try.pinned (OpenSpec.upto modesKnownSpec)

/-- 'locksmithlaw9.ModesPads', WHERE WHAT IT READS IS OF BULK AT MOST 1048576: true; the input reads as it did. -/
def modesPadsUptoRow : OpenClaim := { program := "ytbhidmeobeecmaa", sum := "ea304cc7ca3710919236305b2969eb88ad184542ea2db75d67e30d32d36d4a78", func := "locksmith/locksmithlaw9.ModesPads", spec := "modesPads", inPlace := ["internal/bytealg.MakeNoZero"], apart := false, narrowed := true }
def ModesPadsUptoSaid : Prop := modesPadsUptoRow.holds Try.pinned (OpenSpec.upto modesPadsSpec)

/-- 'locksmithlaw9.ModesSeals', WHERE WHAT IT READS IS OF BULK AT MOST 1048576: true; the input reads as it did. -/
def modesSealsUptoRow : OpenClaim := { program := "ytbhidmeobeecmaa", sum := "ea304cc7ca3710919236305b2969eb88ad184542ea2db75d67e30d32d36d4a78", func := "locksmith/locksmithlaw9.ModesSeals", spec := "modesSeals", inPlace := ["internal/bytealg.MakeNoZero"], unfollowed := true, recurses := true, apart := false, narrowed := true }
def ModesSealsUptoSaid : Prop := modesSealsUptoRow.holds Try.pinned (OpenSpec.upto modesSealsSpec)

/-- 'locksmithlaw9.ModesMacs', WHERE WHAT IT READS IS OF BULK AT MOST 1048576: true; the input reads as it did. -/
def modesMacsUptoRow : OpenClaim := { program := "ytbhidmeobeecmaa", sum := "ea304cc7ca3710919236305b2969eb88ad184542ea2db75d67e30d32d36d4a78", func := "locksmith/locksmithlaw9.ModesMacs", spec := "modesMacs", inPlace := ["internal/bytealg.MakeNoZero"], unfollowed := true, recurses := true, apart := false, narrowed := true }
def ModesMacsUptoSaid : Prop := modesMacsUptoRow.holds Try.pinned (OpenSpec.upto modesMacsSpec)

/-- 'locksmithlaw9.ModesBack', WHERE WHAT IT READS IS OF BULK AT MOST 1048576: true; the input reads as it did. -/
def modesBackUptoRow : OpenClaim := { program := "ytbhidmeobeecmaa", sum := "ea304cc7ca3710919236305b2969eb88ad184542ea2db75d67e30d32d36d4a78", func := "locksmith/locksmithlaw9.ModesBack", spec := "modesBack", inPlace := ["internal/bytealg.MakeNoZero"], unfollowed := true, recurses := true, apart := false, narrowed := true }
def ModesBackUptoSaid : Prop := modesBackUptoRow.holds Try.pinned (OpenSpec.upto modesBackSpec)

/-- 'locksmithlaw9.ModesChains', WHERE WHAT IT READS IS OF BULK AT MOST 1048576: true; the input reads as it did. -/
def modesChainsUptoRow : OpenClaim := { program := "ytbhidmeobeecmaa", sum := "ea304cc7ca3710919236305b2969eb88ad184542ea2db75d67e30d32d36d4a78", func := "locksmith/locksmithlaw9.ModesChains", spec := "modesChains", inPlace := ["internal/bytealg.MakeNoZero"], unfollowed := true, recurses := true, apart := false, narrowed := true }
def ModesChainsUptoSaid : Prop := modesChainsUptoRow.holds Try.pinned (OpenSpec.upto modesChainsSpec)

end Rows
end Go.Proofs.Ytbhidmeobeecmaa
