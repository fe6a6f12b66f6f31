/-
  How long an item is: plain, and the reference's.
-/
import Derived.Test.YtedmfjnmclbkpaaDoorTtIt
import Derived.Deep.DeepCutAuto
namespace Go.Proofs.YtedmfjnmclbkpaaDoor
open Go.RowKit
set_option linter.unusedSimpArgs false
set_option linter.unusedVariables false
namespace Tt

/-- what Data takes -/
def pad8 (n : Nat) : Nat := (n + 7) / 8 * 8
mutual
/-- chapter 6.2's Size -/
def It.size : It → Nat
  | .mk _ y _ d ks => 8 + (if y = 1 then It.sizeAll ks else if y = 4 ∨ y = 7 ∨ y = 8 then pad8 d.length else 8)
def It.sizeAll : List It → Nat
  | [] => 0
  | k :: r => k.size + It.sizeAll r
end
theorem sizeAll_append (a b : List It) : It.sizeAll (a ++ b) = It.sizeAll a + It.sizeAll b := by
  induction a with
  | nil => simp [It.sizeAll]
  | cons x a ih => simp [It.sizeAll, ih, Nat.add_assoc]
theorem sizeAll_take {ks : List It} {j : Nat} (h : j < ks.length) : It.sizeAll (ks.take (j + 1)) = It.sizeAll (ks.take j) + ks[j].size := by
  rw [List.take_succ_eq_append_getElem h, sizeAll_append]
  simp [It.sizeAll]
theorem sizeAll_le (ks : List It) (j : Nat) : It.sizeAll (ks.take j) ≤ It.sizeAll ks := by
  have h : It.sizeAll (ks.take j ++ ks.drop j) = It.sizeAll ks := by rw [List.take_append_drop]
  rw [sizeAll_append] at h
  omega

theorem cells_of5 {w : World} {b : Nat} {x y z u v : Value} {t : TypeId} (h : w.heap[b]? = some (.cells #[x, y, z, u, v] t (0, 0))) :
    w.cell? ⟨b, 0, none⟩ = some x ∧ w.cell? ⟨b, 1, none⟩ = some y ∧ w.cell? ⟨b, 2, none⟩ = some z ∧ w.cell? ⟨b, 3, none⟩ = some u ∧ w.cell? ⟨b, 4, none⟩ = some v := by
  simp [World.cell?, h]

set_option maxHeartbeats 2000000 in
set_option maxRecDepth 100000 in
theorem rsize_any {Q : Nat → Prop} : ∀ (n : Nat) (i : It) (dv kv : Value) (deep : Nat) (w : World), ItAt Q w n i dv kv → deep + n ≤ 99 → i.size ≤ 2147483648 → i.small 140737488355328 →
    Calls Tryd.prog 35 #[ival i dv kv, .int .i64 deep] w fun e w' => e = .returned (.int .i64 i.size) ∧ Only (fun _ => False) w w' := by
  intro n
  induction n with
  | zero => intro i dv kv deep w h; exact h.elim
  | succ n ih =>
    intro i dv kv deep w h hd hsz hsm
    obtain ⟨t, y, nn, d, ks⟩ := i
    have hdl : d.length ≤ 140737488355328 := hsm.2.2.2.1
    have HSM : Hid (∀ k ∈ ks, k.small 140737488355328) := (smallAll_iff _ ks).1 hsm.2.2.2.2
    clear hsm
    obtain ⟨h1, h2, h3⟩ := h
    have HK := hide h3
    obtain ⟨da, dc, hds, _⟩ := h1.shape
    obtain ⟨ka, kc, hks, hkl, hkm⟩ := h3.shape
    simp only [It.data, It.kids] at hds hks hkl HK
    subst hds
    subst hks
    have HSZ : Hid ((It.mk t y nn d ks).size = 8 + (if y = 1 then It.sizeAll ks else if y = 4 ∨ y = 7 ∨ y = 8 then pad8 d.length else 8)) := rfl
    have hB := heap_alloc_new w (.cells #[.int .i64 t, .int .i64 y, .int .i64 nn, .slice da d.length dc, .slice ka ks.length kc] 25)
    have oA := (Only.refl (fun _ => False) w).alloc (.cells #[.int .i64 t, .int .i64 y, .int .i64 nn, .slice da d.length dc, .slice ka ks.length kc] 25)
    obtain ⟨c0, c1, c2, c3, c4⟩ := cells_of5 hB
    have HB := hide hB
    have HOA := hide oA
    unfold ival
    simp only [It.tag, It.typ, It.int]
    clear h1 h2 h3 hB oA
    by_cases hy : y = 1
    · subst hy
      rw [if_pos rfl] at HSZ
      have hall : 8 + It.sizeAll ks ≤ 2147483648 := by rw [← unhide HSZ]; exact hsz
      go_enter Tryd.func35, Tryd.ntmps35
      go_wp2
      have HC4 := hide c4
      obtain ⟨kl, hkl0⟩ : ∃ kl, kl = ks.length := ⟨_, rfl⟩
      have HKL := hide hkl0
      have hklx : kl ≤ 9223372036854775807 := by unfold maxLen at hkm; omega
      rw [← hkl0] at HK HC4 HOA hkl c4 ⊢
      have hklt : (kl : Int) < 9223372036854775808 := by omega
      have hdeep : (deep : Int) < 99 := by omega
      generalize w.alloc (.cells #[.int .i64 t, .int .i64 1, .int .i64 nn, .slice da d.length dc, .slice ka kl kc] 25) = w1 at *
      clear c0 c1 c2 c3 c4 hkl0
      go_loopw [5, 6] (fun a j wr => ∃ k : Nat, k ≤ kl ∧ a = .int .i64 ((8 + It.sizeAll (ks.take k) : Nat) : Int) ∧ j = .int .i64 k ∧ Only (fun _ => False) w1 wr) (fun _ j _ => kl - (intOf j).toNat)
      case atStart => exact ⟨0, Nat.zero_le _, rfl, rfl, Only.refl _ _⟩
      case round =>
        obtain ⟨k, hk, rfl, rfl, ho⟩ := hrel
        have HO := hide ho
        have c4 := ho.cell (unhide HC4) (fun e => e)
        clear ho
        by_cases hlt : k < kl
        · have hku : k < ks.length := by have := unhide HKL; omega
          have hlt' : (k : Int) < kl := by omega
          have HON := hide ((unhide HOA).trans (unhide HO) (fun _ _ e => e))
          obtain ⟨bb, off, dv', kv', hao, _, e0, e1, e2, e3, e4, hit⟩ := (unhide HK).at k hku
          subst hao
          have f0 := (unhide HON).cell e0 (fun e => e)
          have f1 := (unhide HON).cell e1 (fun e => e)
          have f2 := (unhide HON).cell e2 (fun e => e)
          have f3 := (unhide HON).cell e3 (fun e => e)
          have f4 := (unhide HON).cell e4 (fun e => e)
          have hst := sizeAll_take hku
          have hle := sizeAll_le ks (k + 1)
          have HST := hide hst
          have HIH := hide (ih ks[k] dv' kv' (deep + 1) wr (hit.same (unhide HON)) (by omega) (by omega) (unhide HSM _ (List.getElem_mem hku)))
          obtain ⟨⟨va, vc, hvs⟩, xa, xc, hxs⟩ := hit.shapes
          obtain ⟨kid, hkid⟩ : ∃ kid, kid = ks[k] := ⟨_, rfl⟩
          rw [← hkid] at f0 f1 f2 HST HIH hvs hxs hst
          subst hvs
          subst hxs
          have hb1 : 8 + It.sizeAll (ks.take k) + kid.size ≤ 2147483648 := by omega
          obtain ⟨sa, hsa⟩ : ∃ sa, sa = It.sizeAll (ks.take k) := ⟨_, rfl⟩
          rw [← hsa] at hb1 HST ⊢
          have hmin : min (2147483648 : Int) (((8 + sa : Nat) : Int) + (kid.size : Int)) = ((8 + sa + kid.size : Nat) : Int) := by omega
          have HMIN := hide hmin
          clear hkid hsa hst hle e0 e1 e2 e3 e4 hit hmin
          unfold ival at HIH
          rw [show (((deep + 1 : Nat)) : Int) = (deep : Int) + 1 by omega] at HIH
          go_wp2_with fail
          refine (unhide HIH).mono ?_
          rintro e w2 ⟨rfl, o2⟩
          have HO2 := hide ((unhide HO).trans o2 (fun _ _ e => e))
          clear o2 c4 f0 f1 f2 f3 f4 HIH
          generalize kid.size = kz at *
          go_wp2_with fail
          refine ⟨⟨k + 1, by omega, ?_, by go_num, unhide HO2⟩, by simp [intOf]; omega⟩
          rw [unhide HST]
          exact congrArg (Value.int IntKind.i64) (by split <;> omega)
        · obtain rfl : kl = k := by omega
          have htk : ks.take kl = ks := List.take_of_length_le (by have := unhide HKL; omega)
          rw [htk]
          go_wp2
          go_ret
          rw [unhide HSZ]
          exact ⟨rfl, (unhide HOA).trans (unhide HO) (fun _ _ e => e)⟩
    · have hy1 : (y == 1) = false := by rw [beq_eq_false_iff_ne]; exact hy
      rw [if_neg hy] at HSZ
      by_cases hyd : y = 4 ∨ y = 7 ∨ y = 8
      · rw [if_pos hyd] at HSZ
        rcases hyd with rfl | rfl | rfl
        · clear hy hy1
          have hpd : ((8 : Int) + ((d.length : Int) + 7) / 8 * 8) = ((8 + pad8 d.length : Nat) : Int) := by unfold pad8; omega
          go_enter Tryd.func35, Tryd.ntmps35
          go_wp2
          go_ret
          rw [unhide HSZ, ← hpd]
          exact ⟨rfl, unhide HOA⟩
        · clear hy hy1
          have hpd : ((8 : Int) + ((d.length : Int) + 7) / 8 * 8) = ((8 + pad8 d.length : Nat) : Int) := by unfold pad8; omega
          go_enter Tryd.func35, Tryd.ntmps35
          go_wp2
          go_ret
          rw [unhide HSZ, ← hpd]
          exact ⟨rfl, unhide HOA⟩
        · clear hy hy1
          have hpd : ((8 : Int) + ((d.length : Int) + 7) / 8 * 8) = ((8 + pad8 d.length : Nat) : Int) := by unfold pad8; omega
          go_enter Tryd.func35, Tryd.ntmps35
          go_wp2
          go_ret
          rw [unhide HSZ, ← hpd]
          exact ⟨rfl, unhide HOA⟩
      · rw [if_neg hyd] at HSZ
        have hy4 : (y == 4) = false := by rw [beq_eq_false_iff_ne]; omega
        have hy7 : (y == 7) = false := by rw [beq_eq_false_iff_ne]; omega
        have hy8 : (y == 8) = false := by rw [beq_eq_false_iff_ne]; omega
        clear hy hyd
        go_enter Tryd.func35, Tryd.ntmps35
        go_wp2
        go_ret
        rw [unhide HSZ]
        exact ⟨rfl, unhide HOA⟩
end Tt
end Go.Proofs.YtedmfjnmclbkpaaDoor
