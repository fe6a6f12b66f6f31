/-
  NARROWER THAN 'FOR EVERY INPUT', by the rows' own cells (each row's printed sentence says how): LifeKnown: laid · LifeTurns: laid · LifePaths: laid · LifeArchives: laid.
  DERIVED. THE GIVEN ROWS OF THIS SEAT. 4 by the template 'for every input the law returns true; each argument reads behind the call as it read before'; 0 by the template 'total and deterministic' (their statements: YtadpmninoghcjaaDoorTotals.lean).
  GIVEN WITH THE SEED: the statements are not yours to turn. If you find one false, say at which input.
  Laid BY PROGRAM, IN A SANDBOX (cutbox-rows.mjs): the forced cells as the released guide's own fill.sh prints them over the translation a7517e70296a5248… (all of the seat's roots in one cut). By AI agents, Wed Nov 11 2026. No macro, syntax, notation, axiom, sorry.
-/
import Derived.Test.YtadpmninoghcjaaDoorChecked
import GoSem.PinnedTables
import GoSem.Claim
import GoSem.ClaimJoined
import GoSem.ClaimMapViews
import Derived.JoinedTies
import Derived.KernelRfl
namespace Go.Proofs.YtadpmninoghcjaaDoor
/- THE CELL 'sum', in the pinned program and in every row, IS THE sha256 OF THE DUMP (.gsa) THAT YtadpmninoghcjaaDoorProg.lean LOADS. Nothing in Lean hashes anything: it is a label: what it is worth is what the hold of that sum in a sandbox is worth. -/
noncomputable def Tryd.pinned : Pinned := { name := "ytadpmninoghcjaadoor", sum := "a7517e70296a5248212a2b49adecacef97b66cdee692b3a8ee9cd4c7bc8a9f5e", checked := Tryd.checked }
namespace Rows
def none {H : Type} : Left H := { results := [], args := [] }

/- WHAT THE LISTED PACKAGE-LEVEL VARIABLES READ AS WHEN THE CALL BEGINS. Each datum BY PROGRAM (the guide's laid-datum.mjs) off the statement by which the dump's own 'gosem.cut.vars' lays the variable. In a bare row this is a premise. The card (YtadpmninoghcjaaDoorCards.lean) ties it to the program's text. -/
def laid_unicode_utf8_acceptRanges {H : Type} : DataW H := .agg [.agg [.lit (.int .u8 128), .lit (.int .u8 191)], .agg [.lit (.int .u8 160), .lit (.int .u8 191)], .agg [.lit (.int .u8 128), .lit (.int .u8 159)], .agg [.lit (.int .u8 144), .lit (.int .u8 191)], .agg [.lit (.int .u8 128), .lit (.int .u8 143)], .agg [.lit (.int .u8 0), .lit (.int .u8 0)], .agg [.lit (.int .u8 0), .lit (.int .u8 0)], .agg [.lit (.int .u8 0), .lit (.int .u8 0)], .agg [.lit (.int .u8 0), .lit (.int .u8 0)], .agg [.lit (.int .u8 0), .lit (.int .u8 0)], .agg [.lit (.int .u8 0), .lit (.int .u8 0)], .agg [.lit (.int .u8 0), .lit (.int .u8 0)], .agg [.lit (.int .u8 0), .lit (.int .u8 0)], .agg [.lit (.int .u8 0), .lit (.int .u8 0)], .agg [.lit (.int .u8 0), .lit (.int .u8 0)], .agg [.lit (.int .u8 0), .lit (.int .u8 0)]]
/-- One of Go's own tables, pinned by name: the form's constant. -/
def laid_unicode_utf8_first : DataW Unit := Go.Pinned.utf8First

/-- 'locksmithlaw11.LifeKnown': WHATEVER THE INPUT: true; the input reads as it did. -/
def lifeKnownSpec : ChangeSpec := { name := "lifeKnown", fn := fun _ => fun
  | [] => { results := [.lit (.bool true)], args := [] }
  | _ => none }
def lifeKnownRow : OpenClaim := { program := "ytadpmninoghcjaadoor", sum := "a7517e70296a5248212a2b49adecacef97b66cdee692b3a8ee9cd4c7bc8a9f5e", func := "locksmith/locksmithlaw11.LifeKnown", spec := "lifeKnown", unfollowed := true, recurses := true, named := ["unicode/utf8.first", "unicode/utf8.acceptRanges"], apart := false, laid := [("unicode/utf8.acceptRanges", laid_unicode_utf8_acceptRanges), ("unicode/utf8.first", laid_unicode_utf8_first)] }
def LifeKnownSaid : Prop := lifeKnownRow.holds Tryd.pinned (OpenSpec.ofChange lifeKnownSpec)

/-- ITS FALSE NEIGHBOUR: 'it returns false'. Refute it at one input. -/
def lifeKnownWrong : ChangeSpec := { name := "lifeKnown", fn := fun _ => fun
  | [] => { results := [.lit (.bool false)], args := [] }
  | _ => none }
def LifeKnownWrongFalsely : Prop := lifeKnownRow.holds Tryd.pinned (OpenSpec.ofChange lifeKnownWrong)

/-- 'locksmithlaw11.LifeTurns': WHATEVER THE INPUT: true; the input reads as it did. -/
def lifeTurnsSpec : ChangeSpec := { name := "lifeTurns", fn := fun _ => fun
  | [d1, d2, d3, d4, d5, d6, d7] => { results := [.lit (.bool true)], args := [d1, d2, d3, d4, d5, d6, d7] }
  | _ => none }
def lifeTurnsRow : OpenClaim := { program := "ytadpmninoghcjaadoor", sum := "a7517e70296a5248212a2b49adecacef97b66cdee692b3a8ee9cd4c7bc8a9f5e", func := "locksmith/locksmithlaw11.LifeTurns", spec := "lifeTurns", unfollowed := true, recurses := true, named := ["unicode/utf8.first", "unicode/utf8.acceptRanges"], apart := false, laid := [("unicode/utf8.acceptRanges", laid_unicode_utf8_acceptRanges), ("unicode/utf8.first", laid_unicode_utf8_first)] }
def LifeTurnsSaid : Prop := lifeTurnsRow.holds Tryd.pinned (OpenSpec.ofChange lifeTurnsSpec)

/-- ITS FALSE NEIGHBOUR: 'it returns false'. Refute it at one input. -/
def lifeTurnsWrong : ChangeSpec := { name := "lifeTurns", fn := fun _ => fun
  | [d1, d2, d3, d4, d5, d6, d7] => { results := [.lit (.bool false)], args := [d1, d2, d3, d4, d5, d6, d7] }
  | _ => none }
def LifeTurnsWrongFalsely : Prop := lifeTurnsRow.holds Tryd.pinned (OpenSpec.ofChange lifeTurnsWrong)

/-- 'locksmithlaw11.LifePaths': WHATEVER THE INPUT: true; the input reads as it did. -/
def lifePathsSpec : ChangeSpec := { name := "lifePaths", fn := fun _ => fun
  | [d1, d2, d3] => { results := [.lit (.bool true)], args := [d1, d2, d3] }
  | _ => none }
def lifePathsRow : OpenClaim := { program := "ytadpmninoghcjaadoor", sum := "a7517e70296a5248212a2b49adecacef97b66cdee692b3a8ee9cd4c7bc8a9f5e", func := "locksmith/locksmithlaw11.LifePaths", spec := "lifePaths", unfollowed := true, recurses := true, named := ["unicode/utf8.first", "unicode/utf8.acceptRanges"], apart := false, laid := [("unicode/utf8.acceptRanges", laid_unicode_utf8_acceptRanges), ("unicode/utf8.first", laid_unicode_utf8_first)] }
def LifePathsSaid : Prop := lifePathsRow.holds Tryd.pinned (OpenSpec.ofChange lifePathsSpec)

/-- ITS FALSE NEIGHBOUR: 'it returns false'. Refute it at one input. -/
def lifePathsWrong : ChangeSpec := { name := "lifePaths", fn := fun _ => fun
  | [d1, d2, d3] => { results := [.lit (.bool false)], args := [d1, d2, d3] }
  | _ => none }
def LifePathsWrongFalsely : Prop := lifePathsRow.holds Tryd.pinned (OpenSpec.ofChange lifePathsWrong)

/-- 'locksmithlaw11.LifeArchives': WHATEVER THE INPUT: true; the input reads as it did. -/
def lifeArchivesSpec : ChangeSpec := { name := "lifeArchives", fn := fun _ => fun
  | [d1, d2, d3, d4] => { results := [.lit (.bool true)], args := [d1, d2, d3, d4] }
  | _ => none }
def lifeArchivesRow : OpenClaim := { program := "ytadpmninoghcjaadoor", sum := "a7517e70296a5248212a2b49adecacef97b66cdee692b3a8ee9cd4c7bc8a9f5e", func := "locksmith/locksmithlaw11.LifeArchives", spec := "lifeArchives", unfollowed := true, recurses := true, named := ["unicode/utf8.first", "unicode/utf8.acceptRanges"], apart := false, laid := [("unicode/utf8.acceptRanges", laid_unicode_utf8_acceptRanges), ("unicode/utf8.first", laid_unicode_utf8_first)] }
def LifeArchivesSaid : Prop := lifeArchivesRow.holds Tryd.pinned (OpenSpec.ofChange lifeArchivesSpec)

/-- ITS FALSE NEIGHBOUR: 'it returns false'. Refute it at one input. -/
def lifeArchivesWrong : ChangeSpec := { name := "lifeArchives", fn := fun _ => fun
  | [d1, d2, d3, d4] => { results := [.lit (.bool false)], args := [d1, d2, d3, d4] }
  | _ => none }
def LifeArchivesWrongFalsely : Prop := lifeArchivesRow.holds Tryd.pinned (OpenSpec.ofChange lifeArchivesWrong)

/- THE SECOND FORM. 'bulk': how many values and letters a reading holds, each counted each time it is reached (what is shared counts as often as it is met; a slice's spare places count too). A statement '..UptoSaid' is the law's where the arguments, and the package variables that the reading takes, are together of bulk at most 1048576: NARROWER than '..Said'. Prove '..Said' where nothing that the law and all that it calls make is longer than what came in: it says more and counts as full. Else prove '..UptoSaid'. A law counts once. -/
mutual
def uptoBulk {H : Type} : DataW H → Nat
  | .lit (.string bytes) => bytes.length + 1
  | .lit _ => 1
  | .nil => 1
  | .ptr d => uptoBulk d + 1
  | .slice elems spare => uptoBulkAll elems + uptoBulkAll spare + 1
  | .agg parts => uptoBulkAll parts + 1
  | .iface _ d => uptoBulk d + 1
  | .map entries => uptoBulkEntries entries + 1
  | .held _ => 1
def uptoBulkAll {H : Type} : List (DataW H) → Nat
  | [] => 0
  | d :: r => uptoBulk d + uptoBulkAll r
def uptoBulkEntries {H : Type} : List (Lit × DataW H) → Nat
  | [] => 0
  | x :: r => uptoBulkEntry x + uptoBulkEntries r
def uptoBulkEntry {H : Type} : Lit × DataW H → Nat
  | (.string bytes, d) => bytes.length + uptoBulk d + 1
  | (_, d) => uptoBulk d + 1
 end
def uptoSmall : (H : Type) → List (DataW H) → Bool := fun _ ds => decide (uptoBulkAll ds ≤ 1048576)
def OpenSpec.upto (s : _root_.Go.ChangeSpec) : _root_.Go.OpenSpec := { _root_.Go.OpenSpec.ofChange s with cond := some uptoSmall }

/-- 'locksmithlaw11.LifeKnown', WHERE WHAT IT READS IS OF BULK AT MOST 1048576: true; the input reads as it did. -/
def lifeKnownUptoRow : OpenClaim := { program := "ytadpmninoghcjaadoor", sum := "a7517e70296a5248212a2b49adecacef97b66cdee692b3a8ee9cd4c7bc8a9f5e", func := "locksmith/locksmithlaw11.LifeKnown", spec := "lifeKnown", unfollowed := true, recurses := true, named := ["unicode/utf8.first", "unicode/utf8.acceptRanges"], apart := false, laid := [("unicode/utf8.acceptRanges", laid_unicode_utf8_acceptRanges), ("unicode/utf8.first", laid_unicode_utf8_first)], narrowed := true }
def LifeKnownUptoSaid : Prop := lifeKnownUptoRow.holds Tryd.pinned (OpenSpec.upto lifeKnownSpec)

/-- 'locksmithlaw11.LifeTurns', WHERE WHAT IT READS IS OF BULK AT MOST 1048576: true; the input reads as it did. -/
def lifeTurnsUptoRow : OpenClaim := { program := "ytadpmninoghcjaadoor", sum := "a7517e70296a5248212a2b49adecacef97b66cdee692b3a8ee9cd4c7bc8a9f5e", func := "locksmith/locksmithlaw11.LifeTurns", spec := "lifeTurns", unfollowed := true, recurses := true, named := ["unicode/utf8.first", "unicode/utf8.acceptRanges"], apart := false, laid := [("unicode/utf8.acceptRanges", laid_unicode_utf8_acceptRanges), ("unicode/utf8.first", laid_unicode_utf8_first)], narrowed := true }
def LifeTurnsUptoSaid : Prop := lifeTurnsUptoRow.holds Tryd.pinned (OpenSpec.upto lifeTurnsSpec)

/-- 'locksmithlaw11.LifePaths', WHERE WHAT IT READS IS OF BULK AT MOST 1048576: true; the input reads as it did. -/
def lifePathsUptoRow : OpenClaim := { program := "ytadpmninoghcjaadoor", sum := "a7517e70296a5248212a2b49adecacef97b66cdee692b3a8ee9cd4c7bc8a9f5e", func := "locksmith/locksmithlaw11.LifePaths", spec := "lifePaths", unfollowed := true, recurses := true, named := ["unicode/utf8.first", "unicode/utf8.acceptRanges"], apart := false, laid := [("unicode/utf8.acceptRanges", laid_unicode_utf8_acceptRanges), ("unicode/utf8.first", laid_unicode_utf8_first)], narrowed := true }
def LifePathsUptoSaid : Prop := lifePathsUptoRow.holds Tryd.pinned (OpenSpec.upto lifePathsSpec)

/-- 'locksmithlaw11.LifeArchives', WHERE WHAT IT READS IS OF BULK AT MOST 1048576: true; the input reads as it did. -/
def lifeArchivesUptoRow : OpenClaim := { program := "ytadpmninoghcjaadoor", sum := "a7517e70296a5248212a2b49adecacef97b66cdee692b3a8ee9cd4c7bc8a9f5e", func := "locksmith/locksmithlaw11.LifeArchives", spec := "lifeArchives", unfollowed := true, recurses := true, named := ["unicode/utf8.first", "unicode/utf8.acceptRanges"], apart := false, laid := [("unicode/utf8.acceptRanges", laid_unicode_utf8_acceptRanges), ("unicode/utf8.first", laid_unicode_utf8_first)], narrowed := true }
def LifeArchivesUptoSaid : Prop := lifeArchivesUptoRow.holds Tryd.pinned (OpenSpec.upto lifeArchivesSpec)

end Rows
end Go.Proofs.YtadpmninoghcjaaDoor
