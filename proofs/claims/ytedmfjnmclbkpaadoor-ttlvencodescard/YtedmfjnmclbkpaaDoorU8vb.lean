/-
  utf8.Valid at any slice of bytes.
-/
import Derived.Test.YtedmfjnmclbkpaaDoorU8v
namespace Go.Proofs.YtedmfjnmclbkpaaDoor
open Go.RowKit Go.Shelf Go.Lib
set_option linter.unusedSimpArgs false
set_option linter.unusedVariables false

theorem arr_get (bs : List UInt8) (j : Nat) (hj : j < bs.length) : (ByteArray.mk bs.toArray).get! j = bs[j] := by
  rw [← Lib.getD_get!']
  simp [hj]

set_option maxHeartbeats 1000000 in
set_option maxRecDepth 100000 in
theorem validB_any (v : Value) (bs : List UInt8) (w : World) (hx : Has w v bs) (hT : Tabs w) :
    Calls Tryd.prog 98 #[v] w fun e w' => e = .returned (.bool (Lib.validD bs)) ∧ Only (fun _ => False) w w' := by
  rcases hx with ⟨rfl, rfl⟩ | ⟨a, cap, rfl, hsp, hlc, hm, hb, hc⟩
  · rw [Lib.validD_nil]
    go_enter Tryd.func98, Tryd.ntmps98
    go_wp2
    go_loopw [0] (fun s0 wx => s0 = .slice none 0 0 ∧ wx = w) (fun _ _ => 0)
    case atStart => exact ⟨rfl, rfl⟩
    case round =>
      obtain ⟨rfl, rfl⟩ := hrel
      go_wp2
      go_ret
      exact ⟨rfl, Only.refl _ _⟩
  · by_cases h0 : bs = []
    · subst h0
      rw [Lib.validD_nil]
      have hz : (0 : Int) ≤ (cap : Int) := by omega
      clear hsp hb hc
      simp only [List.length_nil]
      go_enter Tryd.func98, Tryd.ntmps98
      go_wp2
      go_loopw [0] (fun s0 wx => s0 = .slice (some a) 0 0 ∧ wx = w) (fun _ _ => 0)
      case atStart => exact ⟨rfl, rfl⟩
      case round =>
        obtain ⟨rfl, rfl⟩ := hrel
        go_wp2
        go_ret
        exact ⟨rfl, Only.refl _ _⟩
    · have hl : 0 < bs.length := List.length_pos_iff.2 h0
      obtain ⟨b, o, s⟩ := a
      have hs0 : s = none := hsp hl
      subst hs0
      have hz : (ByteArray.mk bs.toArray).size = bs.length := by simp [ByteArray.size]
      have := U8.valid_at ⟨bs.toArray⟩ b o cap w (by rw [hz]; exact hlc) (by rw [hz]; exact hl) (fun j hj => by
        rw [hz] at hj
        rw [arr_get bs j hj]
        exact hc j hj) (by rw [hz]; unfold maxLen at hm; omega) hT
      rw [hz] at this
      exact this
end Go.Proofs.YtedmfjnmclbkpaaDoor
