/-
  utf8's two tables, on a seat that has no utf8.ValidString.
-/
import Derived.Test.YtedmfjnmclbkpabDoorMem
import Derived.Test.YtedmfjnmclbkpabDoorProg
import Derived.Shelf.Unicode.ValidAny
import Derived.Lib.LaidU8T
import Derived.Lib.LaidIn
import Derived.PinnedBridge
namespace Go.Proofs.YtedmfjnmclbkpabDoor
open Go.RowKit Go.Shelf Go.Lib
set_option linter.unusedSimpArgs false
set_option linter.unusedVariables false

/-- the world holds utf8's two tables -/
def Tabs (w : World) : Prop := Lib.Utf8Tabs 0 1 w

theorem Tabs.same {w w' : World} (h : Tabs w) (ho : Only (fun _ => False) w w') : Tabs w' :=
  ⟨fun c hc => ho.cell (h.1 c hc) (fun e => e), fun i hi => ⟨ho.cell (h.2 i hi).1 (fun e => e), ho.cell (h.2 i hi).2 (fun e => e)⟩⟩

/-- where the tables' types and names stand -/
def ren8 : Ren := ⟨fun x => x, fun x => if x = 5 then 5 else if x = 119 then 91 else if x = 138 then 93 else 94, fun x => if x = 3 then 0 else 1⟩
theorem types8 : U8Types Tryd.prog ren8 := ⟨by kernel_rfl, by kernel_rfl, by kernel_rfl, by kernel_rfl⟩
theorem extra8 : U8Extra Tryd.prog ren8 := ⟨by kernel_rfl, by kernel_rfl, by kernel_rfl, by kernel_rfl, by kernel_rfl, by kernel_rfl, by kernel_rfl⟩

/-- out of a row's list -/
theorem tabs_of {W : World} {l : List (String × DataW Unit)} (hL : laidMet Tryd.prog l W) (h1 : ("unicode/utf8.first", Go.Pinned.utf8First) ∈ l) (h2 : ("unicode/utf8.acceptRanges", Lib.acceptData) ∈ l) : Tabs W :=
  utf8Tabs_of_readsT types8 extra8 (by have := Lib.laidMet.reads hL h1; rwa [Go.Pinned.utf8First_eq] at this) (Lib.laidMet.reads hL h2)
end Go.Proofs.YtedmfjnmclbkpabDoor
