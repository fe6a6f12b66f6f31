/-
  locksmithlaw8.key; AesBack.
-/
import Derived.Test.YtbhidmeobeecmabAeBackS
import Derived.Test.YtbhidmeobeecmabAeSeal
import Derived.Test.YtbhidmeobeecmabAeOpen
import Derived.Test.YtbhidmeobeecmabHandPick
import Derived.Stop.BytesEq
namespace Go.Proofs.Ytbhidmeobeecmab
open Go.RowKit
set_option linter.unusedSimpArgs false
set_option linter.unusedVariables false
namespace Ae

theorem Try.under32 : Try.prog.underlying 22 = some (.array 32 5) := by kernel_rfl
theorem Try.size32 : (Try.prog.info? 22).map (·.size) = some 32 := by kernel_rfl

set_option maxRecDepth 100000 in
set_option maxHeartbeats 1000000 in
theorem key_any (k : List UInt8) (hk : k.length = 32) (n : Int) (L : Nat) (hn : 16 + 8 * (n % 3) = (L : Int)) (w : World) :
    Calls Try.prog 5 #[.agg (k.map bv).toArray, .int .i64 n] w fun e w' => ∃ a cap, e = .returned (.slice (some a) L cap) ∧ Has w' (.slice (some a) L cap) (k.take L) ∧ Only (fun _ => False) w w' := by
  have h0 := Int.emod_nonneg n (show (3 : Int) ≠ 0 by decide)
  have h3 := Int.emod_lt_of_pos n (show (0 : Int) < 3 by decide)
  have hL : L ≤ 32 := by omega
  have hL1 : 16 ≤ L := by omega
  obtain ⟨r, hr⟩ : ∃ r : Nat, n % 3 = (r : Int) := ⟨(n % 3).toNat, by omega⟩
  have hr2 : r ≤ 2 := by omega
  have hLr : 16 + 8 * (r : Int) = (L : Int) := by omega
  have HP := hide (pick_any n 3 (((w.alloc (.cells (k.map bv).toArray 22))).alloc (.cells #[] 5)) (by decide) (by decide))
  rw [hr] at HP
  have hA := (Arr.new w 22 k _ rfl).alloc (.cells #[] 5)
  have hHas : Has ((w.alloc (.cells (k.map bv).toArray 22)).alloc (.cells #[] 5)) (.slice (some ⟨w.heap.size, 0, none⟩) L 32) (k.take L) := by
    refine Or.inr ⟨⟨w.heap.size, 0, none⟩, 32, by rw [List.length_take, Nat.min_eq_left (by omega)], fun _ => rfl, by rw [List.length_take]; omega, by unfold maxLen; omega, fun _ => hA.lt, fun j hj => ?_⟩
    have hj2 : j < k.length := by rw [List.length_take] at hj; omega
    rw [Nat.zero_add, hA.cell j k[j] (by simp [hj2])]
    simp [bv]
  have hown : ((w.alloc (.cells (k.map bv).toArray 22)).alloc (.cells #[] 5)).ownsRow (w.heap.size + 1) 5 1 (.slice (some ⟨w.heap.size + 1, 0, none⟩) 0 0) 0 [] := by
    have h := World.ownsRow_lit (w.alloc (.cells (k.map bv).toArray 22)) #[] 0 (base := w.heap.size + 1) (e := 5) (size := 1) (by simp) (Nat.zero_le _) rfl
    rw [World.size_alloc] at h
    exact h
  have HH := hide hHas
  have HO := hide hown
  have hlt : (k.take L).length = L := by rw [List.length_take]; omega
  have HLT := hide hlt
  clear hA hHas hown hn hr h0 h3 hlt
  obtain ⟨i0, hi, hz0, hz1, hz2⟩ := info_parts Try.info5
  go_enter Try.func5, Try.ntmps5
  go_wp2_with fail
  refine (unhide HP).mono ?_
  rintro e w1 ⟨rfl, hw1⟩
  rw [hw1]
  clear hw1 w1
  have hL32 : (L : Int) ≤ 32 := by omega
  have hb1 : 0 + (k.take L).length ≤ 140737488355328 := by have := unhide HLT; omega
  have hb2 : w.heap.size + 1 ≤ ((w.alloc (.cells (k.map bv).toArray 22)).alloc (.cells #[] 5)).heap.size := by simp
  go_wp2_with (at_builtin; refine wpList_append_has rfl (.tmp 5) (.tmp 10) 24 rfl (w.heap.size + 1) 5 i0 Try.underlying24 hi hz0 hz1 hz2 _ 0 [] rfl (unhide HO) _ (k.take L) rfl (unhide HH) hb1 hb2 ?_; intro ao2 cap2 w2 own2 gr2 at2)
  go_ret
  have hlt := unhide HLT
  have h0 : w2.ownsRow (w.heap.size + 1) 5 1 (.slice ao2 L cap2) L ((k.take L).map bv) := by
    have h := own2
    rw [hlt, Nat.zero_add] at h
    exact h
  obtain ⟨g, cap3, e3⟩ : ∃ g cap3, Value.slice ao2 L cap2 = .slice (some ⟨g, 0, none⟩) L cap3 := by
    have h := h0
    rw [show L = (L - 1) + 1 by omega] at h ⊢
    exact ownsRow_succ h
  rw [e3] at h0
  have hh := Has.ofOwns h0
  refine ⟨⟨g, 0, none⟩, cap3, ?_, hh, ?_⟩
  · rw [← e3]; rfl
  · exact (((Only.refl _ w).alloc _).alloc _).grown gr2 (fun j hj hl => by have h2 : some (w.heap.size + 1) = some j := hj; simp at h2; omega)

theorem eql_blk (x y : List UInt8) (hx : x.length = 16) (hy : y.length = 16) (w : World) : (binOp .eql 23 (.agg (x.map bv).toArray) (.agg (y.map bv).toArray)).run Try.prog w = .ok (.bool (x == y)) w :=
  run_eql_bytes w 23 5 16 Try.under16 Try.underlying5 (fun w => by obtain ⟨i0, hi0, hz0, hz1, hz2⟩ := info_parts Try.info5; simp [sizeOf, typeInfo, hi0, hz1]) x y hx hy

theorem exec_eql {P : Program} {o : Oper} {a : Act} {w : World} (t t2 : TypeId) (x y : Operand) (ho : o.op = .binOp .eql t x y t2) (vx vy v : Value) (hx : a.eval x = vx) (hy : a.eval y = vy) (hr : (binOp .eql t vx vy).run P w = .ok v w) (hg : (eqGuard .eql t x y vx vy).run P w = .ok () w := by rfl) : (execOp a.eval o).run P w = .ok (.value v) w := by
  unfold execOp
  simp only [ho, hx, hy]
  simp [hr, hg, Result.andThen]

theorem seal_inj (bs : List UInt8) (m : Nat) (hm : 2 ≤ m) (hl : bs.length = 16 * m) (a b : List UInt8) (ha : a.length = 16) (hb : b.length = 16) : (sealT bs m a m == sealT bs m b m) = (a == b) := by
  have h1 := open_seal bs m hm hl a ha m (Nat.le_refl _)
  have h2 := open_seal bs m hm hl b hb m (Nat.le_refl _)
  rw [Nat.sub_self] at h1 h2
  have e1 : openT bs m (sealT bs m a m) m = a := h1
  have e2 : openT bs m (sealT bs m b m) m = b := h2
  by_cases h : a = b
  · subst h; simp
  · have hn : ¬ sealT bs m a m = sealT bs m b m := fun e => h (by rw [← e1, ← e2, e])
    rw [show (sealT bs m a m == sealT bs m b m) = false by simpa using hn, show (a == b) = false by simpa using h]

end Ae
end Go.Proofs.Ytbhidmeobeecmab
