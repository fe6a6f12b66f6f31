/-
  locksmithhand.Object in plain words: what it makes of raw numbers.
-/
import Derived.Test.YtadpmninoghcjaaDoorObLite
import Derived.Test.YtadpmninoghcjaaDoorHandPick
import Derived.Test.YtadpmninoghcjaaDoorHandBytes
namespace Go.Proofs.YtadpmninoghcjaaDoor
open Go.RowKit
set_option linter.unusedSimpArgs false
set_option linter.unusedVariables false
namespace Ob

/-- a raw number's four parts -/
structure RawH where
  kind : Int
  a : Int
  b : Int
  c : Int
def RawH.cells (r : RawH) : List Value := [.int .i64 r.kind, .int .i64 r.a, .int .i64 r.b, .int .i64 r.c]
structure RawH.Ok (r : RawH) : Prop where
  kind : W64 r.kind
  a : W64 r.a
  b : W64 r.b
  c : W64 r.c

def hIds : List (List UInt8) := [[49], [50], [51], [52], [53], [54], [55], [49], [50], [51], [57, 57], [120]]
def hNames : List (List UInt8) := [[111, 110, 101], [116, 119, 111], [116, 104, 114, 101, 101], [102, 111, 117, 114], [102, 105, 118, 101]]
def hMsgs : List (List UInt8) := [[], [109], [108, 111, 115, 116]]
def hCust : List (List UInt8) := [[120, 45, 97], [120, 45, 98]]
def at0 {α : Type} (l : List α) (d : α) (n : Int) : α := l.getD n.toNat d
def hId (n : Int) : List UInt8 := at0 hIds [] (n % 12)
def hTypes : List Int := [2, 2, 3, 4, 7]
def hAlgs : List Int := [3, 3, 0, 4]
def hMasks : List Int := [396, 12, 4, 384, 0]
def hLens : List Int := [16, 16, 32, 0, 24]

def hStart (x : RawH) : Ob :=
  { zero with id := hId x.a, typ := at0 hTypes 0 (x.b % 5), alg := at0 hAlgs 0 (x.c % 4), len := 128, mask := at0 hMasks 0 (x.a.tdiv 12 % 5), mat := rawBytes (at0 hLens 0 (x.b.tdiv 5 % 5)).toNat x.c, state := 1 + x.kind % 6, dates := (true, x.c % 20) :: List.replicate 9 (false, 0) }

def addN {α : Type} [DecidableEq α] (most : Nat) (l : List α) (x : α) : List α := if memB x l then l else if l.length < most then l ++ [x] else l
/-- one raw number more: its kind says which part it turns -/
def hStep (o : Ob) (y : RawH) : Ob :=
  match (y.kind % 9).toNat with
  | 0 | 1 | 2 => { o with dates := o.dates.set (y.a % 10).toNat (true, y.b % 60) }
  | 3 => { o with names := addN 1000 o.names (at0 hNames [] (y.a % 5)) }
  | 4 => { o with links := addN 1000 o.links (101 + y.a % 5, hId y.b) }
  | 5 => { o with lh := true, lt := 1 + y.a % 50, lc := 1 + y.a % 50 - y.b % (2 + y.a % 50), lu := 1 + y.c % 2 }
  | 6 => { o with custom := addN 6 o.custom (at0 hCust [] (y.a % 2), at0 hNames [] (y.b % 4)) }
  | 7 => { o with reason := 1 + y.a % 7, msg := at0 hMsgs [] (y.b % 3) }
  | _ => { o with arch := decide (y.a.tmod 3 = 0) }
/-- the first k of them -/
def hGo (o : Ob) (X : Nat → RawH) : Nat → Ob
  | 0 => o
  | k + 1 => hStep (hGo o X k) (X k)
def hO (x : RawH) (m : Nat) (X : Nat → RawH) : Ob :=
  let o := hGo (hStart x) X (min m 10)
  { o with links := o.links.take 8 }
end Ob
end Go.Proofs.YtadpmninoghcjaaDoor
