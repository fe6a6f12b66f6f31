/-
  aes.New; a cipher as it lies in memory; what it seals and opens, plain.
-/
import Derived.Test.YtdmcnblnoiahcaaAeKeys
import Derived.Test.YtdmcnblnoiahcaaAeCat2
namespace Go.Proofs.Ytdmcnblnoiahcaa
open Go.RowKit
set_option linter.unusedSimpArgs false
set_option linter.unusedVariables false
namespace Ae

/-- a cipher at block cb: m round keys, cut out of bs -/
def Cip (w : World) (cb m : Nat) (bs : List UInt8) : Prop := bs.length = 16 * m ∧ ∃ g cap, w.heap[cb]? = some (.cells #[.slice (some ⟨g, 0, none⟩) m cap] 63 (0, 0)) ∧ w.ownsRow 0 36 16 (.slice (some ⟨g, 0, none⟩) m cap) m (bflat bs (upto m))
theorem Cip.only {S : Nat → Prop} {w w' : World} {cb m : Nat} {bs : List UInt8} (h : Cip w cb m bs) (ho : Only S w w') (hS : ∀ i, i < w.heap.size → ¬ S i) : Cip w' cb m bs := by
  obtain ⟨hl, g, cap, hb, hr⟩ := h
  exact ⟨hl, g, cap, ho.heap hb (hS _ (lt_of_block hb)), ho.owns hr (fun k hk => hS k (hr.lt k hk).2)⟩
theorem Cip.new {w w' : World} {cb m : Nat} {bs : List UInt8} (h : Cip w cb m bs) (ho : Only (fun _ => False) w w') : Cip w' cb m bs := h.only ho (fun _ _ e => e)
theorem Cip.key {w : World} {g cap m : Nat} {bs : List UInt8} (hl : bs.length = 16 * m) (hr : w.ownsRow 0 36 16 (.slice (some ⟨g, 0, none⟩) m cap) m (bflat bs (upto m))) (i : Nat) (hi : i < m) : w.rangeAt g (i * 16) ((blkOf bs i).map bv) :=
  row_range (f := fun k => (blkOf bs k).map bv) (xs := upto m) hr (fun x hx => by have : x < m := List.mem_range.1 hx; rw [List.length_map, blkOf_length bs m x hl this]) (upto_length m) i i (by simp [upto, hi])

def sealT (bs : List UInt8) (m : Nat) (s : List UInt8) : Nat → List UInt8
  | 0 => s
  | i + 1 => if i = 0 then added (sealT bs m s i) (blkOf bs i) else if i + 1 = m then last (sealT bs m s i) (blkOf bs i) else middle (sealT bs m s i) (blkOf bs i)
def openT (bs : List UInt8) (m : Nat) (s : List UInt8) : Nat → List UInt8
  | 0 => s
  | i + 1 => if i = 0 then lastBack (openT bs m s i) (blkOf bs (m - 1 - i)) else if i + 1 = m then added (openT bs m s i) (blkOf bs (m - 1 - i)) else middleBack (openT bs m s i) (blkOf bs (m - 1 - i))
theorem sealT_length (bs : List UInt8) (m : Nat) (hl : bs.length = 16 * m) (s : List UInt8) (hs : s.length = 16) (i : Nat) (hi : i ≤ m) : (sealT bs m s i).length = 16 := by
  induction i with
  | zero => exact hs
  | succ i ih =>
    have hk := blkOf_length bs m i hl (by omega)
    have h := ih (by omega)
    unfold sealT
    split
    · exact added_length h hk
    · split
      · exact added_length (shifted_length _) hk
      · exact added_length (mixed_length _) hk
theorem openT_length (bs : List UInt8) (m : Nat) (hl : bs.length = 16 * m) (s : List UInt8) (hs : s.length = 16) (i : Nat) (hi : i ≤ m) : (openT bs m s i).length = 16 := by
  induction i with
  | zero => exact hs
  | succ i ih =>
    have hk := blkOf_length bs m (m - 1 - i) hl (by omega)
    have h := ih (by omega)
    unfold openT
    split
    · unfold lastBack; rw [List.length_map]; exact unshifted_length _
    · split
      · exact added_length h hk
      · unfold middleBack; rw [List.length_map]; exact unshifted_length _

set_option maxRecDepth 100000 in
set_option maxHeartbeats 1000000 in
theorem new_any (L N m : Nat) (hL : L = 16 ∨ L = 24 ∨ L = 32) (hm : m = L / 4 + 7) (hN : L + 4 * N = 16 * m) (a : Addr) (cap : Nat) (key : List UInt8) (hk : key.length = L) (w : World) (hx : Has w (.slice (some a) L cap) key) :
    Calls Try.prog 12 #[.slice (some a) L cap] w fun e W' => ∃ cb, e = .returned (.tuple #[.pointer (some ⟨cb, 0, none⟩), .int .i64 0]) ∧ Cip W' cb m (expd L key N).1 ∧ Only (fun _ => False) w W' := by
  have HR := hide (roundKeys_any L N m hL hm hN a cap key hk w hx)
  have hln := expd_length L key hk N
  rw [hN] at hln
  have HLN := hide hln
  have hm0 : 0 < m := by omega
  clear hx hln hm hN hk
  rcases hL with rfl | rfl | rfl
  all_goals
    go_enter Try.func12, Try.ntmps12
    go_wp2_with fail
    refine (unhide HR).mono ?_
    rintro e w1 ⟨v, rfl, hv, ho⟩
    obtain ⟨g, cap2, rfl⟩ : ∃ g cap2, v = .slice (some ⟨g, 0, none⟩) m cap2 := by
      have h := hv
      rw [show m = (m - 1) + 1 by omega] at h ⊢
      exact ownsRow_succ h
    have HV := hide hv
    have HO := hide ho
    clear hv ho
    go_wp2
    go_ret2
    exact ⟨w1.heap.size, rfl, ⟨unhide HLN, g, cap2, heap_alloc_new _ _, ownsRow_base ((unhide HV).alloc _) (Nat.zero_le _)⟩, (unhide HO).alloc _⟩

set_option maxRecDepth 100000 in
theorem newBad_any (ao : Option Addr) (ln cap : Nat) (h1 : ln ≠ 16) (h2 : ln ≠ 24) (h3 : ln ≠ 32) (w : World) :
    Calls Try.prog 12 #[.slice ao ln cap] w fun e W' => e = .returned (.tuple #[.pointer none, .int .i64 1]) ∧ W' = w := by
  have h1' : ((ln : Int) == 16) = false := by simp; omega
  have h2' : ((ln : Int) == 24) = false := by simp; omega
  have h3' : ((ln : Int) == 32) = false := by simp; omega
  go_enter Try.func12, Try.ntmps12
  go_wp2
  go_ret2
  exact ⟨rfl, rfl⟩

end Ae
end Go.Proofs.Ytdmcnblnoiahcaa
