/-
  utf8.ValidString, by the shelf's contract; the two tables that it reads.
-/
import Derived.Test.YtadpmninoghcjaaDoorMem
import Derived.Test.YtadpmninoghcjaaDoorProg
import Derived.Ground.NamesProg
import Derived.Shelf.Lay
import Derived.Shelf.Unicode.ValidAny
import Derived.Lib.LaidU8T
import Derived.Lib.LaidIn
import Derived.PinnedBridge
namespace Go.Proofs.YtadpmninoghcjaaDoor
open Go.RowKit Go.Shelf Go.Lib
set_option linter.unusedSimpArgs false
set_option linter.unusedVariables false

shelf_lay Lays.n196 Nm 196 at Tryd as Tryd.laysValid

/-- the world holds utf8's two tables -/
def Tabs (w : World) : Prop := Lib.Utf8Tabs (Tryd.laysValid_ren.g 3) (Tryd.laysValid_ren.g 4) w

theorem Tabs.same {w w' : World} (h : Tabs w) (ho : Only (fun _ => False) w w') : Tabs w' :=
  ⟨fun c hc => ho.cell (h.1 c hc) (fun e => e), fun i hi => ⟨ho.cell (h.2 i hi).1 (fun e => e), ho.cell (h.2 i hi).2 (fun e => e)⟩⟩

theorem valid_any (bs : List UInt8) (w : World) (hs : bs.length ≤ 9223372036854775807) (hT : Tabs w) :
    Calls Tryd.prog 33 #[.string ⟨bs.toArray⟩] w fun e w' => e = .returned (.bool (Lib.validD bs)) ∧ Only (fun _ => False) w w' := by
  have h : Calls Tryd.prog 33 #[.string ⟨bs.toArray⟩] w _ := Any.utf8_ValidString Tryd.laysValid ⟨bs.toArray⟩ w hs hT
  refine h.mono ?_
  rintro e w' ⟨rfl, hb⟩
  exact ⟨rfl, Only.ofBelow hb⟩

/-- out of a row's list -/
theorem tabs_of {W : World} {l : List (String × DataW Unit)} (hL : laidMet Tryd.prog l W) (h1 : ("unicode/utf8.first", Go.Pinned.utf8First) ∈ l) (h2 : ("unicode/utf8.acceptRanges", Lib.acceptData) ∈ l) : Tabs W :=
  utf8Tabs_of_readsT (U8Types.of196 Tryd.laysValid) ⟨by kernel_rfl, by kernel_rfl, by kernel_rfl, by kernel_rfl, by kernel_rfl, by kernel_rfl, by kernel_rfl⟩ (by have := Lib.laidMet.reads hL h1; rwa [Go.Pinned.utf8First_eq] at this) (Lib.laidMet.reads hL h2)
end Go.Proofs.YtadpmninoghcjaaDoor
