/-
  modes.join, begin.
-/
import Derived.Test.YtbhidmeobeecmaaMdChain
import Derived.Test.YtbhidmeobeecmaaMdPad
import Derived.Test.YtbhidmeobeecmaaAeCip
namespace Go.Proofs.Ytbhidmeobeecmaa
open Go.RowKit
set_option linter.unusedSimpArgs false
set_option linter.unusedVariables false
namespace Md
open Ae (upto upto_succ upto_length blkOf blkOf_length zero16 Arr bflat added added_length ag_one range_only after)
attribute [local go_sem ↓] Md.execOp_loadBlk Md.execOp_rowBlk

/-- m blocks that are read: bs -/
def Blks (w : World) (v : Value) (m : Nat) (bs : List UInt8) : Prop := ∃ ao cap g off, v = .slice ao m cap ∧ (0 < m → ao = some ⟨g, off, none⟩ ∧ g < w.heap.size) ∧ ∀ k, k < m → w.rangeAt g (off + k * 16) ((blkOf bs k).map bv)
theorem Blks.ofOwns {w : World} {base m : Nat} {v : Value} {bs : List UInt8} (hb : bs.length = 16 * m) (h : w.ownsRow base 44 16 v m (bflat bs (upto m))) : Blks w v m bs := by
  have hr : ∀ g cap, v = .slice (some ⟨g, 0, none⟩) m cap → ∀ k, k < m → w.rangeAt g (k * 16) ((blkOf bs k).map bv) := fun g cap e k hk => by
    subst e
    exact row_range (f := fun k => (blkOf bs k).map bv) (xs := upto m) h (fun x hx => by have : x < m := List.mem_range.1 hx; rw [List.length_map, blkOf_length bs m x hb this]) (upto_length m) k k (by simp [upto, hk])
  rcases h.2 with ⟨e, h0⟩ | ⟨g, cap, cur, e, _⟩
  · subst h0
    exact ⟨none, 0, 0, 0, e, fun h => by omega, fun k hk => by omega⟩
  · refine ⟨_, cap, g, 0, e, fun h0 => ⟨rfl, by subst e; exact (h.lt g rfl).2⟩, fun k hk => ?_⟩
    rw [Nat.zero_add]
    exact hr g cap e k hk
theorem Blks.only {w w' : World} {v : Value} {m : Nat} {bs : List UInt8} (h : Blks w v m bs) (o : Only (fun _ => False) w w') : Blks w' v m bs := by
  obtain ⟨ao, cap, g, off, e, h1, h2⟩ := h
  exact ⟨ao, cap, g, off, e, fun h0 => ⟨(h1 h0).1, Nat.lt_of_lt_of_le (h1 h0).2 o.size⟩, fun k hk => range_only (h2 k hk) o (fun e => e)⟩

set_option maxRecDepth 100000 in
set_option maxHeartbeats 2000000 in
theorem join_any (m : Nat) (bs : List UInt8) (hb : bs.length = 16 * m) (hm : m ≤ 8796093022208) (v : Value) (w : World) (hv : Blks w v m bs) :
    Calls Try.prog 29 #[v] w fun e w' => ∃ v', e = .returned v' ∧ Owns w.heap.size w' v' bs ∧ Only (fun _ => False) w w' := by
  obtain ⟨i0, hi, hz0, hz1, hz2⟩ := info_parts Try.info5
  obtain ⟨ao, cap, g, off, rfl, hg, hr⟩ := hv
  have HG := hide hg
  have HR := hide hr
  clear hg hr
  go_enter Try.func29, Try.ntmps29
  go_wp2
  go_loopw [3, 5, 8] (fun s _ i wr => ∃ k : Nat, k ≤ m ∧ i = .int .i64 k ∧ Hid (wr.ownsRow w.heap.size 5 1 s (16 * k) ((bs.take (16 * k)).map bv)) ∧ Hid (Only (fun _ => False) w wr)) (fun _ _ i _ => m - (intOf i).toNat)
  case atStart => exact ⟨0, Nat.zero_le _, rfl, World.ownsRow_nil _ _ _ _, Only.refl _ _⟩
  case round =>
    rename World => wr
    obtain ⟨k, hk, rfl, hrow, hor⟩ := hrel
    by_cases hlt : k < m
    · have hao := (unhide HG (by omega)).1
      subst hao
      obtain ⟨B, hB⟩ : ∃ B, B = blkOf bs k := ⟨_, rfl⟩
      have hBl : B.length = 16 := by rw [hB]; exact blkOf_length bs m k hb hlt
      have hrg : wr.rangeAt g (off + k * 16) (B.map bv) := by
        rw [hB]
        exact range_only (unhide HR k hlt) (unhide hor) (fun e => e)
      have hld := loadM hrg hBl
      have hN : Hid ((bs.take (16 * (k + 1))) = bs.take (16 * k) ++ B) := by
        show _ = _
        rw [hB]
        unfold blkOf
        rw [show 16 * (k + 1) = 16 * k + 16 by omega, List.take_add]
      obtain ⟨wy, b9, ey, eb9, a9, o9⟩ := made16 wr B hBl
      have ht2 : (wr.alloc (.cells (zero16.map bv).toArray 44)).there wr.heap.size 0 (B.map bv).toArray.size := there16 (Arr.new wr 44 zero16 _ rfl) rfl hBl
      have hz2' := size16s hBl
      have HBL := hide hBl
      clear hB hrg
      have hkm : (k : Int) < (m : Int) := by omega
      go_upto_region 5 with (refine wpList_store_mid rfl 44 (.tmp 5) (.tmp 11) rfl wr.heap.size 0 (B.map bv).toArray rfl rfl ht2 hz2' (ag_one _) ?_)
      rw [Ae.zeros_eq, ← ey, ← eb9]
      have hh : Has wy (.slice (some ⟨b9, 0, none⟩) 16 16) B := by
        have h := has_lit a9.out (by rw [hBl]; unfold maxLen; omega)
        rw [hBl] at h
        exact h
      have HH := hide hh
      have hrow2 := hide (o9.owns (unhide hrow) (fun _ _ e => e))
      have OY := hide ((unhide hor).trans o9 (fun _ _ e => e))
      have HSZ := hide (unhide OY).size
      clear ey eb9 a9 o9 ht2 hz2' hld hh hrow
      go_wp2_with (at_builtin; refine wpList_append_has rfl (.tmp 12) (.tmp 13) 22 rfl w.heap.size 5 i0 Try.underlying22 hi hz0 hz1 hz2 _ (16 * k) _ rfl (unhide hrow2) _ B rfl (unhide HH) (by rw [hBl]; omega) (unhide HSZ) ?_; intro ao2 cap2 w2 own2 gr2 at2)
      rw [hBl] at *
      go_roundw
      case rel =>
        refine ⟨k + 1, by omega, by go_num, ?_, ?_⟩
        · show _
          rw [unhide hN, List.map_append]
          exact own2
        · exact (unhide OY).grown gr2 (fun j hj hlt => by have := ((unhide hrow2).lt j hj).1; omega)
      case measure => simp [intOf]; omega
    · obtain rfl : k = m := by omega
      go_wp2
      go_ret
      refine ⟨_, rfl, ?_, unhide hor⟩
      have h := unhide hrow
      rw [List.take_of_length_le (by omega)] at h
      unfold Owns
      rw [hb]
      exact h

end Md
end Go.Proofs.Ytbhidmeobeecmaa
