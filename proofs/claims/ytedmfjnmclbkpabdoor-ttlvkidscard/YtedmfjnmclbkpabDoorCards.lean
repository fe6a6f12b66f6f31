/-
  DERIVED. GIVEN WITH THE SEED: THE CARDS: each row of YtedmfjnmclbkpabDoorRows.lean that lists a variable, with what it lists TIED to the program's text (the seventh form; the later family's looks); each row that meets fmt, with fmt's text TOLD by the authors' own Lean function (tested against real Go, not proved from fmt's source: count such statements apart). THE CARD IS WHAT COUNTS. Prove the row's statement (the work); the ties are given (YtedmfjnmclbkpabDoorTie.lean); close each card by the builder's one call (the guide's Derived/Test/ToyasCard.lean, 'card_holds'). Laid BY PROGRAM, IN A SANDBOX (cutbox-door.mjs). By AI agents, Wed Nov 11 2026. No macro, syntax, notation, axiom, sorry.
-/
import Derived.Test.YtedmfjnmclbkpabDoorRows
import GoSem.ClaimSeven
namespace Go.Proofs.YtedmfjnmclbkpabDoor
namespace Rows

/-- THE TIED CARD OF 'locksmithlaw6.TtlvSizes'. -/
def ttlvSizesCard : Claim7 := { stood := { row := ttlvSizesRow, standIns := [], harness := (true, "6e72fa05ae1d92bd48564b982744b85ba55d1b83ee5037cd41c5338c3d718eb1"), looks := false }, kinds := [], alts := [], laidByText := true, laidKinds := [.data, .pinned], laidTests := true, laidLooks := .later }
def TtlvSizesCardSaid : Prop := Claim7.holds Tryd.pinned (.plain (OpenSpec.ofChange ttlvSizesSpec)) ttlvSizesCard

/-- THE TIED CARD OF 'locksmithlaw6.TtlvKids'. -/
def ttlvKidsCard : Claim7 := { stood := { row := ttlvKidsRow, standIns := [], harness := (true, "6e72fa05ae1d92bd48564b982744b85ba55d1b83ee5037cd41c5338c3d718eb1"), looks := false }, kinds := [], alts := [], laidByText := true, laidKinds := [.data, .pinned], laidTests := true, laidLooks := .later }
def TtlvKidsCardSaid : Prop := Claim7.holds Tryd.pinned (.plain (OpenSpec.ofChange ttlvKidsSpec)) ttlvKidsCard

/-- THE SECOND FORM's CARD OF 'locksmithlaw6.TtlvSizes'. -/
def ttlvSizesUptoCard : Claim7 := { stood := { row := ttlvSizesUptoRow, standIns := [], harness := (true, "6e72fa05ae1d92bd48564b982744b85ba55d1b83ee5037cd41c5338c3d718eb1"), looks := false }, kinds := [], alts := [], laidByText := true, laidKinds := [.data, .pinned], laidTests := true, laidLooks := .later }
def TtlvSizesUptoCardSaid : Prop := Claim7.holds Tryd.pinned (.plain (OpenSpec.upto ttlvSizesSpec)) ttlvSizesUptoCard

/-- THE SECOND FORM's CARD OF 'locksmithlaw6.TtlvKids'. -/
def ttlvKidsUptoCard : Claim7 := { stood := { row := ttlvKidsUptoRow, standIns := [], harness := (true, "6e72fa05ae1d92bd48564b982744b85ba55d1b83ee5037cd41c5338c3d718eb1"), looks := false }, kinds := [], alts := [], laidByText := true, laidKinds := [.data, .pinned], laidTests := true, laidLooks := .later }
def TtlvKidsUptoCardSaid : Prop := Claim7.holds Tryd.pinned (.plain (OpenSpec.upto ttlvKidsSpec)) ttlvKidsUptoCard
end Rows
end Go.Proofs.YtedmfjnmclbkpabDoor
