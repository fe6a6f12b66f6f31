/-
  modes: two blocks, one xored with the other.
-/
import Derived.Test.YtbhidmeobeecmaaMdBlk2
import Derived.Test.YtbhidmeobeecmaaAeS1
import Derived.Test.YtbhidmeobeecmaaAeS4
import Derived.Deep.DeepCutAuto
namespace Go.Proofs.Ytbhidmeobeecmaa
open Go.RowKit
set_option linter.unusedSimpArgs false
set_option linter.unusedVariables false
namespace Md
open Ae

set_option maxRecDepth 100000 in
theorem xored_any (s k : List UInt8) (w : World) (hs : s.length = 16) (hk : k.length = 16) :
    Calls Try.prog 33 #[.agg (s.map bv).toArray, .agg (k.map bv).toArray] w fun e w' => e = .returned (.agg ((added s k).map bv).toArray) ∧ Only (fun _ => False) w w' := by
  have hal := added_length hs hk
  obtain ⟨w3, b1, b2, b3, e3, eb3, eb2, eb1, a1, a2, a3, o3, n12, n13, n23, hb⟩ := three w s k zero16 44 44 44
  go_enter Try.func33, Try.ntmps33
  go_upto_region 1 with fail
  rw [zeros_eq, ← e3, ← eb3, ← eb2, ← eb1]
  clear e3 eb3 eb2 eb1
  have hr := a2.range
  have A1 := hide a1
  have A3 := hide a3
  have O3 := hide o3
  have HB := hide hb
  clear a1 a3 o3 hb a2
  go_wp2_with (refine wpList_load_mid rfl 44 (.tmp 3) rfl b2 0 rfl (k.map bv) _ hr Try.underMB rfl (by rw [Try.sizeMB]; simp [hk]) ?_)
  clear hr
  go_loopw [5, 6, 8] (fun p q i wr => ∃ n : Nat, n ≤ 16 ∧ i = .int .i64 n ∧ Arr wr b1 44 (mixd (added s k) s n) ∧ Only (fun j => j = b1) w3 wr) (fun _ _ i _ => 16 - (intOf i).toNat)
  case atStart => exact ⟨0, Nat.zero_le _, rfl, by rw [mixd_zero]; exact unhide A1, Only.refl _ _⟩
  case round =>
    obtain ⟨n, hn, rfl, har, hor⟩ := hrel
    by_cases hlt : n < 16
    · have hm := mixd_at (added s k) s 16 n hal hs hlt
      rw [gt_some s n (by omega)] at hm
      have hc := har.cell n _ hm
      have hf := har.free n
      have hw2 := har.set n (gt s n ^^^ gt k n)
      rw [mixd_set _ _ 16 n hal hs hlt _ (added_at s k n (by omega) (by omega))] at hw2
      have HW := hide hw2
      have HO := hide (hor.here n (.int .u8 ((gt s n ^^^ gt k n).toNat : Int)))
      have hx := xor_bv (gt s n) (gt k n)
      have hix := index_st 44 16 k .i64 n Try.underMB hk hlt
      clear hm har hor hw2
      generalize gt s n ^^^ gt k n = z at *
      generalize gt s n = x at *
      generalize gt k n = y at *
      have hn15 : (n : Int) < 16 := by omega
      go_wp2
      go_roundw
      case rel => exact ⟨n + 1, by omega, by go_num, unhide HW, unhide HO⟩
      case measure => simp [intOf]; omega
    · obtain rfl : n = 16 := by omega
      rw [mixd_all _ _ 16 hal hs] at har
      have hr1 := har.range
      have ht3 := (((unhide A3).only hor (fun e => n13 e.symm))).there 16 rfl
      have HA3 := hide ((unhide A3).only hor (fun e => n13 e.symm))
      have HOR := hide hor
      clear har hor
      go_wp2_with (first
        | (refine wpList_load_mid rfl 44 (.tmp 2) rfl b1 0 rfl ((added s k).map bv) _ hr1 Try.underMB rfl (by rw [Try.sizeMB]; simp [hal]) ?_)
        | (refine wpList_store_mid rfl 44 (.tmp 4) (.tmp 19) rfl b3 0 ((added s k).map bv).toArray rfl rfl (by simpa [hal] using ht3) (by rw [Try.sizeMB]; simp [hal]) (ag_one _) ?_))
      refine bodyPost_ret (results_cell_row rfl _ _ b3 44 _ _ _ rfl ((unhide HA3).stored _ (by rw [hal]; rfl)).out Try.underMB rfl (by rw [Try.sizeMB]; simp [hal])) rfl ?_
      exact ⟨rfl, done13 (unhide O3) (unhide HOR) (fun j hj => ⟨((unhide HB) j hj).1, ((unhide HB) j hj).2.2⟩)⟩


theorem made16 (x : World) (s : List UInt8) (hs : s.length = 16) : ∃ wy b, wy = (x.alloc (.cells (zero16.map bv).toArray 44)).setCells x.heap.size 0 (s.map bv).toArray.toList ∧ b = x.heap.size ∧ Arr wy b 44 s ∧ Only (fun _ => False) x wy := by
  refine ⟨_, _, rfl, rfl, (Arr.new x 44 zero16 _ rfl).stored s (by rw [hs]; rfl), Only.setCells (fun h => absurd h (by omega)) _ _ _ ((Only.refl _ x).alloc _)⟩
theorem restored (x : World) (b : Nat) (old new : List UInt8) (h : Arr x b 44 old) (hl : new.length = old.length) : ∃ wy, wy = x.setCells b 0 (new.map bv).toArray.toList ∧ Arr wy b 44 new ∧ Only (fun j => j = b) x wy :=
  ⟨_, rfl, h.stored new hl, Only.setCells (S := fun j => j = b) (fun _ => rfl) _ _ _ (Only.refl _ x)⟩
theorem there16 {x : World} {b : Nat} {old new : List UInt8} (h : Arr x b 44 old) (ho : old.length = 16) (hn : new.length = 16) : x.there b 0 (new.map bv).toArray.size := by
  have h1 := h.there 16 ho.symm
  rw [List.size_toArray, List.length_map, hn]
  exact h1
theorem size16s {new : List UInt8} (hn : new.length = 16) : (Try.prog.info? 44).map (·.size) = some (new.map bv).toArray.size := by
  rw [List.size_toArray, List.length_map, hn]
  exact Try.sizeMB

/-- what stands in a chain ahead of block i -/
def ch (f : List UInt8 → List UInt8) (iv bs : List UInt8) : Nat → List UInt8
  | 0 => iv
  | i + 1 => f (added (blkOf bs i) (ch f iv bs i))
/-- its first i sealed blocks -/
def chT (f : List UInt8 → List UInt8) (iv bs : List UInt8) : Nat → List UInt8
  | 0 => []
  | i + 1 => chT f iv bs i ++ ch f iv bs (i + 1)
theorem ch_length (f : List UInt8 → List UInt8) (hf : ∀ s, s.length = 16 → (f s).length = 16) (iv bs : List UInt8) (hv : iv.length = 16) (m : Nat) (hb : bs.length = 16 * m) (i : Nat) (hi : i ≤ m) : (ch f iv bs i).length = 16 := by
  induction i with
  | zero => exact hv
  | succ i ih => exact hf _ (added_length (blkOf_length bs m i hb (by omega)) (ih (by omega)))
theorem chT_length (f : List UInt8 → List UInt8) (hf : ∀ s, s.length = 16 → (f s).length = 16) (iv bs : List UInt8) (hv : iv.length = 16) (m : Nat) (hb : bs.length = 16 * m) (i : Nat) (hi : i ≤ m) : (chT f iv bs i).length = 16 * i := by
  induction i with
  | zero => rfl
  | succ i ih =>
    show (chT f iv bs i ++ ch f iv bs (i + 1)).length = _
    rw [List.length_append, ih (by omega), ch_length f hf iv bs hv m hb (i + 1) hi]
    omega
theorem bflat_take (bs : List UInt8) (m : Nat) (hb : bs.length = 16 * m) (k : Nat) (hk : k ≤ m) : bflat bs (upto k) = (bs.take (16 * k)).map bv := by
  induction k with
  | zero => rfl
  | succ k ih =>
    have e : bflat bs (upto (k + 1)) = bflat bs (upto k) ++ (blkOf bs k).map bv := by
      unfold bflat
      rw [upto_succ, List.flatMap_append]
      simp
    rw [e, ih (by omega), ← List.map_append]
    congr 1
    unfold blkOf
    rw [show 16 * (k + 1) = 16 * k + 16 by omega, List.take_add]
theorem bflat_all (bs : List UInt8) (m : Nat) (hb : bs.length = 16 * m) : bflat bs (upto m) = bs.map bv := by
  rw [bflat_take bs m hb m (Nat.le_refl _), List.take_of_length_le (by omega)]

end Md
end Go.Proofs.Ytbhidmeobeecmaa
