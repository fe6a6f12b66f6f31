/-
  Readers: the state, and octet's take.
-/
import Derived.Test.YtadpmninoghcjaaDoorFresh
namespace Go.Proofs.YtadpmninoghcjaaDoor
open Go.RowKit
set_option linter.unusedSimpArgs false
set_option linter.unusedVariables false

/-- A reader's block b (of struct type T) holds the slice v, in which the bytes rest stand, and whether it lacks. -/
structure RdAt (T : TypeId) (w : World) (b : Nat) (v : Value) (lack : Bool) (rest : List UInt8) : Prop where
  blk : w.heap[b]? = some (.cells #[v, .bool lack] T (0, 0))
  has : Has w v rest
  sep : ∀ k, Go.Proofs.YtadpmninoghcjaaDoor.blk v = some k → k ≠ b

/-- n bytes have been cut off the front: f has them, v' has the rest -/
structure Took (T : TypeId) (w : World) (b : Nat) (v : Value) (lack : Bool) (rest : List UInt8) (n : Nat) (w' : World) (f v' : Value) : Prop where
  front : Has w' f (rest.take n)
  fblk : blk f = blk v
  vblk : blk v' = blk v
  now : RdAt T w' b v' lack (rest.drop n)
  only : Only (fun k => k = b) w w'

theorem took_of {T : TypeId} {w : World} {b : Nat} {v v' f : Value} {lack : Bool} {rest : List UInt8} {n : Nat} (h : RdAt T w b v lack rest) (h1 : Has w f (rest.take n)) (h2 : Has w v' (rest.drop n)) (e1 : blk f = blk v) (e2 : blk v' = blk v) :
    Took T w b v lack rest n (w.setCell ⟨b, 0, none⟩ v') f v' := by
  have ho : Only (fun k => k = b) w (w.setCell ⟨b, 0, none⟩ v') := (Only.refl _ _).here _ _
  exact ⟨h1.only ho (fun _ k hk e => h.sep k (by rw [← e1]; exact hk) e), e1, e2, ⟨by simpa using two_setCell (i := 0) (u := v') h.blk, h2.only ho (fun _ k hk e => h.sep k (by rw [← e2]; exact hk) e), fun k hk => h.sep k (by rw [← e2]; exact hk)⟩, ho⟩

/-- nothing could be taken: it lacks -/
structure Lacks (T : TypeId) (w : World) (b : Nat) (w' : World) : Prop where
  now : RdAt T w' b (.slice none 0 0) true []
  only : Only (fun k => k = b) w w'

end Go.Proofs.YtadpmninoghcjaaDoor
