/-
  Readers: the state, and octet's take.
-/
import Derived.Test.YtlcnckmbimmpjaaDoorFresh
namespace Go.Proofs.YtlcnckmbimmpjaaDoor
open Go.RowKit
set_option linter.unusedSimpArgs false
set_option linter.unusedVariables false

/-- A reader's block b (of struct type T) holds the slice v, in which the bytes rest stand, and whether it lacks. -/
structure RdAt (T : TypeId) (w : World) (b : Nat) (v : Value) (lack : Bool) (rest : List UInt8) : Prop where
  blk : w.heap[b]? = some (.cells #[v, .bool lack] T (0, 0))
  has : Has w v rest
  sep : ∀ k, Go.Proofs.YtlcnckmbimmpjaaDoor.blk v = some k → k ≠ b

/-- n bytes have been cut off the front: f has them, v' has the rest -/
structure Took (T : TypeId) (w : World) (b : Nat) (v : Value) (lack : Bool) (rest : List UInt8) (n : Nat) (w' : World) (f v' : Value) : Prop where
  front : Has w' f (rest.take n)
  fblk : blk f = blk v
  vblk : blk v' = blk v
  now : RdAt T w' b v' lack (rest.drop n)
  only : Only (fun k => k = b) w w'

theorem took_of {T : TypeId} {w : World} {b : Nat} {v v' f : Value} {lack : Bool} {rest : List UInt8} {n : Nat} (h : RdAt T w b v lack rest) (h1 : Has w f (rest.take n)) (h2 : Has w v' (rest.drop n)) (e1 : blk f = blk v) (e2 : blk v' = blk v) :
    Took T w b v lack rest n (w.setCell ⟨b, 0, none⟩ v') f v' := by
  have ho : Only (fun k => k = b) w (w.setCell ⟨b, 0, none⟩ v') := (Only.refl _ _).here _ _
  exact ⟨h1.only ho (fun _ k hk e => h.sep k (by rw [← e1]; exact hk) e), e1, e2, ⟨by simpa using two_setCell (i := 0) (u := v') h.blk, h2.only ho (fun _ k hk e => h.sep k (by rw [← e2]; exact hk) e), fun k hk => h.sep k (by rw [← e2]; exact hk)⟩, ho⟩

/-- nothing could be taken: it lacks -/
structure Lacks (T : TypeId) (w : World) (b : Nat) (w' : World) : Prop where
  now : RdAt T w' b (.slice none 0 0) true []
  only : Only (fun k => k = b) w w'

theorem take_yes (b : Nat) (v : Value) (lack : Bool) (rest : List UInt8) (n : Nat) (w : World) (h : RdAt 110 w b v lack rest) (hn : n ≤ rest.length) :
    Calls Tryd.prog 105 #[.pointer (some ⟨b, 0, none⟩), .int .i64 n] w fun e w' => ∃ f, e = .returned f ∧ ∃ v', Took 110 w b v lack rest n w' f v' := by
  obtain ⟨ao, cap, hv, hlc, hm⟩ := h.has.shape
  subst hv
  obtain ⟨c0, c1, f0, f1⟩ := cells_two h.blk
  have hn0 : ¬ (n : Int) < 0 := by omega
  have hn1 : ¬ (rest.length : Int) < n := by omega
  have hn2 : (n : Int) ≤ rest.length := by omega
  have hn3 : (n : Int) ≤ cap := by omega
  have HR := hide h
  clear h
  by_cases hcap : cap = n
  · subst hcap
    go_enter Tryd.func105, Tryd.ntmps105
    go_wp2
    go_ret
    have h := unhide HR
    exact ⟨_, rfl, _, took_of h (h.has.front hn) (by have := h.has.backNone hn; rwa [show rest.length - cap = 0 by omega] at this) rfl rfl⟩
  · go_enter Tryd.func105, Tryd.ntmps105
    go_wp2
    go_ret
    have h := unhide HR
    exact ⟨_, rfl, _, took_of h (h.has.front hn) (h.has.back hn) rfl (blk_add _ _ _ _ _ _)⟩

theorem take_no (b : Nat) (v : Value) (lack : Bool) (rest : List UInt8) (n : Int) (w : World) (h : RdAt 110 w b v lack rest) (hn : n < 0 ∨ (rest.length : Int) < n) :
    Calls Tryd.prog 105 #[.pointer (some ⟨b, 0, none⟩), .int .i64 n] w fun e w' => e = .returned (.slice none 0 0) ∧ Lacks 110 w b w' := by
  obtain ⟨ao, cap, hv, hlc, hm⟩ := h.has.shape
  subst hv
  obtain ⟨c0, c1, f0, f1⟩ := cells_two h.blk
  have HR := hide h
  clear h
  have fin : ∀ w', w' = (w.setCell ⟨b, 0, none⟩ (.slice none 0 0)).setCell ⟨b, 1, none⟩ (.bool true) → Lacks 110 w b w' := fun w' e => by
    subst e
    exact ⟨⟨by simpa using two_setCell (i := 1) (u := .bool true) (two_setCell (i := 0) (u := .slice none 0 0) (unhide HR).blk), Or.inl ⟨rfl, rfl⟩, fun k hk => by simp [blk] at hk⟩, ((Only.refl _ _).here _ _).here _ _⟩
  have FIN := hide fin
  clear fin
  rcases hn with hn | hn
  · go_enter Tryd.func105, Tryd.ntmps105
    go_wp2
    go_ret
    exact ⟨rfl, unhide FIN _ rfl⟩
  · have hn0 : ¬ n < 0 := by omega
    go_enter Tryd.func105, Tryd.ntmps105
    go_wp2
    go_ret
    exact ⟨rfl, unhide FIN _ rfl⟩

end Go.Proofs.YtlcnckmbimmpjaaDoor
