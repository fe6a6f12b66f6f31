/-
  DERIVED. GIVEN WITH THE SEED: THE CARDS: each row of YtedmfjnmclbkpaaDoorRows.lean that lists a variable, with what it lists TIED to the program's text (the seventh form; the later family's looks); each row that meets fmt, with fmt's text TOLD by the authors' own Lean function (tested against real Go, not proved from fmt's source: count such statements apart). THE CARD IS WHAT COUNTS. Prove the row's statement (the work); the ties are given (YtedmfjnmclbkpaaDoorTie.lean); close each card by the builder's one call (the guide's Derived/Test/ToyasCard.lean, 'card_holds'). Laid BY PROGRAM, IN A SANDBOX (cutbox-door.mjs). By AI agents, Wed Nov 11 2026. No macro, syntax, notation, axiom, sorry.
-/
import Derived.Test.YtedmfjnmclbkpaaDoorRows
import GoSem.ClaimSeven
namespace Go.Proofs.YtedmfjnmclbkpaaDoor
namespace Rows

/-- THE TIED CARD OF 'locksmithlaw6.TtlvKnown'. -/
def ttlvKnownCard : Claim7 := { stood := { row := ttlvKnownRow, standIns := [], harness := (true, "6472e8b3c0d88968c201bc3fc690f491f801081c5b46694af74cbe081f69ea10"), looks := false }, kinds := [], alts := [], laidByText := true, laidKinds := [.data, .pinned], laidTests := true, laidLooks := .later }
def TtlvKnownCardSaid : Prop := Claim7.holds Tryd.pinned (.plain (OpenSpec.ofChange ttlvKnownSpec)) ttlvKnownCard

/-- THE TIED CARD OF 'locksmithlaw6.TtlvEncodes'. -/
def ttlvEncodesCard : Claim7 := { stood := { row := ttlvEncodesRow, standIns := [], harness := (true, "6472e8b3c0d88968c201bc3fc690f491f801081c5b46694af74cbe081f69ea10"), looks := false }, kinds := [], alts := [], laidByText := true, laidKinds := [.data, .pinned], laidTests := true, laidLooks := .later }
def TtlvEncodesCardSaid : Prop := Claim7.holds Tryd.pinned (.plain (OpenSpec.ofChange ttlvEncodesSpec)) ttlvEncodesCard

/-- THE TIED CARD OF 'locksmithlaw6.TtlvDecodes'. -/
def ttlvDecodesCard : Claim7 := { stood := { row := ttlvDecodesRow, standIns := [], harness := (true, "6472e8b3c0d88968c201bc3fc690f491f801081c5b46694af74cbe081f69ea10"), looks := false }, kinds := [], alts := [], laidByText := true, laidKinds := [.data, .pinned], laidTests := true, laidLooks := .later }
def TtlvDecodesCardSaid : Prop := Claim7.holds Tryd.pinned (.plain (OpenSpec.ofChange ttlvDecodesSpec)) ttlvDecodesCard

/-- THE TIED CARD OF 'locksmithlaw6.TtlvBack'. -/
def ttlvBackCard : Claim7 := { stood := { row := ttlvBackRow, standIns := [], harness := (true, "6472e8b3c0d88968c201bc3fc690f491f801081c5b46694af74cbe081f69ea10"), looks := false }, kinds := [], alts := [], laidByText := true, laidKinds := [.data, .pinned], laidTests := true, laidLooks := .later }
def TtlvBackCardSaid : Prop := Claim7.holds Tryd.pinned (.plain (OpenSpec.ofChange ttlvBackSpec)) ttlvBackCard

/-- THE TIED CARD OF 'locksmithlaw6.TtlvSame'. -/
def ttlvSameCard : Claim7 := { stood := { row := ttlvSameRow, standIns := [], harness := (true, "6472e8b3c0d88968c201bc3fc690f491f801081c5b46694af74cbe081f69ea10"), looks := false }, kinds := [], alts := [], laidByText := true, laidKinds := [.data, .pinned], laidTests := true, laidLooks := .later }
def TtlvSameCardSaid : Prop := Claim7.holds Tryd.pinned (.plain (OpenSpec.ofChange ttlvSameSpec)) ttlvSameCard

/-- THE TIED CARD OF 'locksmithlaw6.TtlvCuts'. -/
def ttlvCutsCard : Claim7 := { stood := { row := ttlvCutsRow, standIns := [], harness := (true, "6472e8b3c0d88968c201bc3fc690f491f801081c5b46694af74cbe081f69ea10"), looks := false }, kinds := [], alts := [], laidByText := true, laidKinds := [.data, .pinned], laidTests := true, laidLooks := .later }
def TtlvCutsCardSaid : Prop := Claim7.holds Tryd.pinned (.plain (OpenSpec.ofChange ttlvCutsSpec)) ttlvCutsCard

/-- THE SECOND FORM's CARD OF 'locksmithlaw6.TtlvKnown'. -/
def ttlvKnownUptoCard : Claim7 := { stood := { row := ttlvKnownUptoRow, standIns := [], harness := (true, "6472e8b3c0d88968c201bc3fc690f491f801081c5b46694af74cbe081f69ea10"), looks := false }, kinds := [], alts := [], laidByText := true, laidKinds := [.data, .pinned], laidTests := true, laidLooks := .later }
def TtlvKnownUptoCardSaid : Prop := Claim7.holds Tryd.pinned (.plain (OpenSpec.upto ttlvKnownSpec)) ttlvKnownUptoCard

/-- THE SECOND FORM's CARD OF 'locksmithlaw6.TtlvEncodes'. -/
def ttlvEncodesUptoCard : Claim7 := { stood := { row := ttlvEncodesUptoRow, standIns := [], harness := (true, "6472e8b3c0d88968c201bc3fc690f491f801081c5b46694af74cbe081f69ea10"), looks := false }, kinds := [], alts := [], laidByText := true, laidKinds := [.data, .pinned], laidTests := true, laidLooks := .later }
def TtlvEncodesUptoCardSaid : Prop := Claim7.holds Tryd.pinned (.plain (OpenSpec.upto ttlvEncodesSpec)) ttlvEncodesUptoCard

/-- THE SECOND FORM's CARD OF 'locksmithlaw6.TtlvDecodes'. -/
def ttlvDecodesUptoCard : Claim7 := { stood := { row := ttlvDecodesUptoRow, standIns := [], harness := (true, "6472e8b3c0d88968c201bc3fc690f491f801081c5b46694af74cbe081f69ea10"), looks := false }, kinds := [], alts := [], laidByText := true, laidKinds := [.data, .pinned], laidTests := true, laidLooks := .later }
def TtlvDecodesUptoCardSaid : Prop := Claim7.holds Tryd.pinned (.plain (OpenSpec.upto ttlvDecodesSpec)) ttlvDecodesUptoCard

/-- THE SECOND FORM's CARD OF 'locksmithlaw6.TtlvBack'. -/
def ttlvBackUptoCard : Claim7 := { stood := { row := ttlvBackUptoRow, standIns := [], harness := (true, "6472e8b3c0d88968c201bc3fc690f491f801081c5b46694af74cbe081f69ea10"), looks := false }, kinds := [], alts := [], laidByText := true, laidKinds := [.data, .pinned], laidTests := true, laidLooks := .later }
def TtlvBackUptoCardSaid : Prop := Claim7.holds Tryd.pinned (.plain (OpenSpec.upto ttlvBackSpec)) ttlvBackUptoCard

/-- THE SECOND FORM's CARD OF 'locksmithlaw6.TtlvSame'. -/
def ttlvSameUptoCard : Claim7 := { stood := { row := ttlvSameUptoRow, standIns := [], harness := (true, "6472e8b3c0d88968c201bc3fc690f491f801081c5b46694af74cbe081f69ea10"), looks := false }, kinds := [], alts := [], laidByText := true, laidKinds := [.data, .pinned], laidTests := true, laidLooks := .later }
def TtlvSameUptoCardSaid : Prop := Claim7.holds Tryd.pinned (.plain (OpenSpec.upto ttlvSameSpec)) ttlvSameUptoCard

/-- THE SECOND FORM's CARD OF 'locksmithlaw6.TtlvCuts'. -/
def ttlvCutsUptoCard : Claim7 := { stood := { row := ttlvCutsUptoRow, standIns := [], harness := (true, "6472e8b3c0d88968c201bc3fc690f491f801081c5b46694af74cbe081f69ea10"), looks := false }, kinds := [], alts := [], laidByText := true, laidKinds := [.data, .pinned], laidTests := true, laidLooks := .later }
def TtlvCutsUptoCardSaid : Prop := Claim7.holds Tryd.pinned (.plain (OpenSpec.upto ttlvCutsSpec)) ttlvCutsUptoCard
end Rows
end Go.Proofs.YtedmfjnmclbkpaaDoor
