/-
  bytes.Repeat of one byte.
-/
import Derived.Test.YtbhidmeobeecmaaMdMul
import Derived.Lib.MakeNoZero
namespace Go.Proofs.Ytbhidmeobeecmaa
open Go.RowKit
set_option linter.unusedSimpArgs false
set_option linter.unusedVariables false
namespace Md
open Ae (MulAs)

theorem nz_run (n : Nat) (hn : n ≤ 16) (w : World) : ∃ cs : Array Value, (callFunc 76 #[.int .i64 (n : Int)]).run Try.prog w = .ok (.value (.slice (some ⟨w.heap.size, 0, none⟩) n cs.size)) ((w.alloc (.cells cs 5)).drewN 2) ∧ n ≤ cs.size ∧ cs.size ≤ maxLen := by
  obtain ⟨cs, hr, hle, hmax⟩ := Lib.run_makeNoZero (P := Try.prog) w #[3] 22 5 Try.underlying22 n (by omega)
  refine ⟨cs, ?_, hle, hmax (by unfold maxLen; omega)⟩
  have hf : Try.prog.funcs[(76 : Nat)]? = some Try.f76 := by kernel_rfl
  rw [run_callFunc_extern hf (by kernel_rfl) (by kernel_rfl) (by kernel_rfl) (e := Extern.BytealgMakeNoZero.makeNoZero #[3] #[22]) (by kernel_rfl), hr]
  rfl

/-- the first k cells are fv, the others as they were -/
def rj (fv : Value) (cs : List Value) (k : Nat) : List Value := List.replicate k fv ++ cs.drop k
theorem rj_length (fv : Value) (cs : List Value) (k : Nat) (h : k ≤ cs.length) : (rj fv cs k).length = cs.length := by simp [rj]; omega
theorem rj_splice (fv : Value) (cs : List Value) (k m : Nat) (h : k + m ≤ cs.length) : splice (rj fv cs k) k (List.replicate m fv) = rj fv cs (k + m) := by
  unfold splice rj
  rw [List.take_left' (by simp), List.length_replicate, show k + m = (List.replicate k fv).length + m by simp, List.drop_append]
  simp only [List.length_replicate, List.drop_replicate, Nat.add_sub_cancel_left, List.drop_drop]
  rw [show k - (k + m) = 0 by omega, List.replicate_zero, List.nil_append, ← List.append_assoc, List.replicate_append_replicate]
theorem rj_at (fv : Value) (cs : List Value) (k j : Nat) (h : j < k) : (rj fv cs k)[j]? = some fv := by
  unfold rj
  rw [List.getElem?_append_left (by simpa using h), List.getElem?_replicate, if_pos h]

theorem copy_src {w : World} {g : Nat} {t : TypeId} {fr : Nat × Nat} {fv : Value} {cs : List Value} {k m : Nat} (h : w.heap[g]? = some (.cells (rj fv cs k).toArray t fr)) (hm : m ≤ k) : ∀ j v, (List.replicate m fv)[j]? = some v → w.cell? ((⟨g, 0, none⟩ : Addr).add j) = some v := by
  intro j v hv
  have hj : j < m := by have := (List.getElem?_eq_some_iff.1 hv).1; simpa using this
  rw [List.getElem?_replicate, if_pos hj, Option.some.injEq] at hv
  subst hv
  rw [addr_add _ rfl, Nat.zero_add, cell_of_row w g j _ t fr h]
  simpa using rj_at fv cs k j (by omega)

/-- copy(r[k:], src) of m cells that all are fv -/
theorem copy_rj {w : World} {g n k m : Nat} {fv : Value} {cs : List Value} (hfv : fv.oneCell' = true) (hg : w.heap[g]? = some (.cells (rj fv cs k).toArray 5 (0, 0))) (hn : n ≤ cs.length) (hkm : k + m ≤ n) (ad : Addr) (sLen sCap : Nat)
    (hm : m = min sLen (n - k)) (hsrc : ∀ j v, (List.replicate m fv)[j]? = some v → w.cell? (ad.add j) = some v) :
    ∃ w', (Builtin.copy_ #[22, 22] 3 #[.slice (some ⟨g, k, none⟩) (n - k) (n - k), .slice (some ad) sLen sCap]).run Try.prog w = .ok (.int .i64 (m : Int)) w' ∧
      w'.heap[g]? = some (.cells (rj fv cs (k + m)).toArray 5 (0, 0)) ∧ Only (fun j => j = g) w w' := by
  have hr := run_copy_row (P := Try.prog) w 22 22 3 5 g k (n - k) (n - k) ad sLen sCap (rj fv cs k).toArray 5 (List.replicate m fv) Try.underlying22 Try.size5 hg
    (by show _ = min _ _; rw [List.length_replicate, hm]) hsrc (by rw [List.size_toArray, rj_length fv cs k (by omega), List.length_replicate]; omega) (fun v hv => by rw [List.eq_of_mem_replicate hv]; exact hfv)
  rw [List.length_replicate] at hr
  refine ⟨_, hr, ?_, ⟨rfl, rfl, rfl, by simp [World.setRow], fun j _ hj => setRow_other w g j _ hj⟩⟩
  rw [setRow_heap w g _ _ _ _ hg]
  have h2 := rj_splice fv cs k m (by omega)
  unfold splice at h2
  rw [List.length_replicate] at h2
  rw [← h2]
  simp

set_option maxRecDepth 100000 in
set_option maxHeartbeats 1000000 in
theorem repeat_any (n : Nat) (h1 : 1 ≤ n) (h2 : n ≤ 16) (u : UInt8) (xb : Nat) (w : World) (hx : w.cell? ⟨xb, 0, none⟩ = some (bv u)) :
    Calls Try.prog 56 #[.slice (some ⟨xb, 0, none⟩) 1 1, .int .i64 n] w fun e w' => ∃ v, e = .returned v ∧ Has w' v (List.replicate n u) ∧ Only (fun _ => False) w w' := by
  have HM : Hid (MulAs n) := mul_le n h1 h2
  obtain ⟨cs, hnz, hcs, hcm⟩ := nz_run n h2 w
  have hxl := World.block_lt_of_cell? w _ hx
  have HN : ((w.alloc (.cells cs 5)).drewN 2).heap[w.heap.size]? = some (.cells (rj (bv u) cs.toList 0).toArray 5 (0, 0)) := by
    show (w.alloc (.cells cs 5)).heap[w.heap.size]? = _
    rw [heap_alloc_new w (.cells cs 5)]
    simp [rj]
  have HC : ((w.alloc (.cells cs 5)).drewN 2).cell? ⟨xb, 0, none⟩ = some (bv u) := by
    show (w.alloc (.cells cs 5)).cell? ⟨xb, 0, none⟩ = some (bv u)
    rw [World.cell?_alloc_lt _ _ _ hxl]
    exact hx
  have oA : Only (fun _ => False) w ((w.alloc (.cells cs 5)).drewN 2) := ⟨rfl, rfl, rfl, by show _ ≤ (w.alloc (.cells cs 5)).heap.size; simp, fun j hj _ => ((Only.refl (fun _ => False) w).alloc (.cells cs 5)).block j hj (fun e => e)⟩
  have hcl : cs.toList.length = cs.size := by simp
  generalize (w.alloc (.cells cs 5)).drewN 2 = wn at *
  obtain ⟨w2, hcp, hw2, o2⟩ := copy_rj (w := wn) (fv := bv u) rfl HN (n := n) (k := 0) (m := 1) (by omega) (by omega) ⟨xb, 0, none⟩ 1 1 (by omega) (fun j v hv => by
    have hj : j = 0 := by have := (List.getElem?_eq_some_iff.1 hv).1; simpa using this
    subst hj
    rw [show v = bv u by simpa using hv.symm]
    exact HC)
  rw [Nat.sub_zero] at hcp
  have H2 := hide hw2
  have OG : Hid (Only (fun j => j = w.heap.size) w w2) := (oA.mono (fun _ _ e => e.elim)).trans o2 (fun _ _ e => e)
  have hcs' : (n : Int) ≤ (cs.size : Int) := by omega
  have HCL := hide hcl
  clear HN HC hxl hx hw2 o2 oA hcl
  go_enter Try.func56, Try.ntmps56
  go_wp2_with fail
  refine (unhide HM _).mono ?_
  rintro e w1 ⟨rfl, hw1⟩
  rw [hw1]
  clear hw1 w1
  go_wp2_with fail
  clear hcp hnz
  obtain ⟨g, hgw⟩ : ∃ g, g = w.heap.size := ⟨_, rfl⟩
  rw [← hgw] at H2 OG ⊢
  have HG := hide hgw
  clear hgw
  have HCS := hide hcs
  clear hcs hcs'
  go_loopw [10, 11] (fun p _ wr => ∃ k : Nat, 1 ≤ k ∧ k ≤ n ∧ p = .int .i64 k ∧ Hid (wr.heap[g]? = some (.cells (rj (bv u) cs.toList k).toArray 5 (0, 0))) ∧ Hid (Only (fun j => j = g) w wr)) (fun p _ _ => n - (intOf p).toNat)
  case atStart => exact ⟨1, by omega, by omega, by simp, H2, OG⟩
  case round =>
    obtain ⟨k, hk1, hkn, rfl, hkr, hkb⟩ := hrel
    by_cases hlt : k < n
    · obtain ⟨m, hm⟩ : ∃ m, m = min k (n - k) := ⟨_, rfl⟩
      obtain ⟨w3, hcp, hw3, o3⟩ := copy_rj (w := wr.drew) (fv := bv u) rfl (unhide hkr) (n := n) (by rw [unhide HCL]; exact unhide HCS) (k := k) (m := m) (by omega) ⟨g, 0, none⟩ k n hm (copy_src (w := wr.drew) (unhide hkr) (by omega))
      have H3 := hide hw3
      have O3 : Hid (Only (fun j => j = g) w w3) := ((unhide hkb).drew).trans o3 (fun _ _ e => e)
      have hm1 : 1 ≤ m := by omega
      have hmn : k + m ≤ n := by omega
      have hw64 : IntKind.i64.wrap ((k : Int) + (m : Int)) = ((k + m : Nat) : Int) := by rw [wrap_small _ (by omega) (by omega)]; omega
      clear hm hw3 o3 hkr hkb
      have hkn' : (k : Int) < (n : Int) := by omega
      have hkn3 : (k : Int) ≤ (n : Int) := by omega
      have hnk : ¬ n = k := by omega
      go_wp2_with fail
      refine wp_region_held_drew (S := (fun _ => True)) (by kernel_rfl) (trivial) (fun hHeld => ?_)
      refine wpAnyH_take (i := 0) (v := ?v1) rfl (by kernel_rfl) (by kernel_rfl) (by kernel_rfl) (fun _ _ _ h => h) (Or.inl ⟨by rfl, ?hy1⟩) (by assumption) ?rest1
      case hy1 =>
        intro w hSw
        go_simp
        try with_reducible rfl
      try simp only [Act.put, List.setIfInBounds_toArray, List.set_cons_zero, List.set_cons_succ, List.getElem_toArray, List.getElem_cons_succ, List.getElem_cons_zero]
      refine wpAnyH_take (i := 1) (v := ?v2) rfl (by kernel_rfl) (by kernel_rfl) (by kernel_rfl) (fun _ _ _ h => h) (Or.inl ⟨by rfl, ?hy2⟩) (by assumption) ?rest2
      case hy2 =>
        intro w hSw
        go_simp
        try with_reducible rfl
      try simp only [Act.put, List.setIfInBounds_toArray, List.set_cons_zero, List.set_cons_succ, List.getElem_toArray, List.getElem_cons_succ, List.getElem_cons_zero]
      refine wpAnyH_take (i := 2) (v := ?v3) rfl (by kernel_rfl) (by kernel_rfl) (by kernel_rfl) (fun _ _ _ h => h) (Or.inl ⟨by rfl, ?hy3⟩) (by assumption) ?rest3
      case hy3 =>
        intro w hSw
        go_simp
        try with_reducible rfl
      try simp only [Act.put, List.setIfInBounds_toArray, List.set_cons_zero, List.set_cons_succ, List.getElem_toArray, List.getElem_cons_succ, List.getElem_cons_zero]
      refine wpAnyH_take (i := 3) (v := ?v4) rfl (by kernel_rfl) (by kernel_rfl) (by kernel_rfl) (fun _ _ _ h => h) (Or.inl ⟨by rfl, ?hy4⟩) (by assumption) ?rest4
      case hy4 =>
        intro w hSw
        go_simp
        try with_reducible rfl
      try simp only [Act.put, List.setIfInBounds_toArray, List.set_cons_zero, List.set_cons_succ, List.getElem_toArray, List.getElem_cons_succ, List.getElem_cons_zero]
      refine wpAnyH_take (i := 4) (v := ?v5) rfl (by kernel_rfl) (by kernel_rfl) (by kernel_rfl) (fun _ _ _ h => h) (Or.inl ⟨by rfl, ?hy5⟩) (by assumption) ?rest5
      case hy5 =>
        intro w hSw
        go_simp
        try with_reducible rfl
      try simp only [Act.put, List.setIfInBounds_toArray, List.set_cons_zero, List.set_cons_succ, List.getElem_toArray, List.getElem_cons_succ, List.getElem_cons_zero]
      refine wpAnyH_take (i := 5) (v := ?v6) rfl (by kernel_rfl) (by kernel_rfl) (by kernel_rfl) (fun _ _ _ h => h) (Or.inl ⟨by rfl, ?hy6⟩) (by assumption) ?rest6
      case hy6 =>
        intro w hSw
        go_simp
        try with_reducible rfl
      try simp only [Act.put, List.setIfInBounds_toArray, List.set_cons_zero, List.set_cons_succ, List.getElem_toArray, List.getElem_cons_succ, List.getElem_cons_zero]
      refine wpAnyH_take (i := 6) (v := ?v7) rfl (by kernel_rfl) (by kernel_rfl) (by kernel_rfl) (fun _ _ _ h => h) (Or.inl ⟨by rfl, ?hy7⟩) (by assumption) ?rest7
      case hy7 =>
        intro w hSw
        go_simp
        try with_reducible rfl
      try simp only [Act.put, List.setIfInBounds_toArray, List.set_cons_zero, List.set_cons_succ, List.getElem_toArray, List.getElem_cons_succ, List.getElem_cons_zero]
      refine wpAnyH_ready (rs := [7]) (by kernel_rfl) (by simp) ?_
      refine AllReadyH.cons rfl (fun K hK => ?_) AllReadyH.nil
      go_simp
      refine hK.out _ _ (trivial) (fun hHeld => ?_)
      clear hK K
      try simp only [Act.put, List.setIfInBounds_toArray, List.set_cons_zero, List.set_cons_succ, List.getElem_toArray, List.getElem_cons_succ, List.getElem_cons_zero]
      refine wpAnyH_take (i := 8) (v := ?v8) rfl (by kernel_rfl) (by kernel_rfl) (by kernel_rfl) (fun _ _ _ h => h) (Or.inl ⟨by rfl, ?hy8⟩) (by assumption) ?rest8
      case hy8 =>
        intro w hSw
        go_simp
        try with_reducible rfl
      try simp only [Act.put, List.setIfInBounds_toArray, List.set_cons_zero, List.set_cons_succ, List.getElem_toArray, List.getElem_cons_succ, List.getElem_cons_zero]
      refine wpAnyH_take (i := 9) (v := ?v9) rfl (by kernel_rfl) (by kernel_rfl) (by kernel_rfl) (fun _ _ _ h => h) (Or.inl ⟨by rfl, ?hy9⟩) (by assumption) ?rest9
      case hy9 =>
        intro w hSw
        go_simp
        try with_reducible rfl
      try simp only [Act.put, List.setIfInBounds_toArray, List.set_cons_zero, List.set_cons_succ, List.getElem_toArray, List.getElem_cons_succ, List.getElem_cons_zero]
      refine wpAnyH_done (by kernel_rfl) ?_ _
      go_wp2
      go_roundw
      case rel => exact ⟨k + m, by omega, by omega, rfl, H3, O3⟩
      case measure => simp [intOf]; omega
    · obtain rfl : k = n := by omega
      have hkr2 := unhide hkr
      have HKR := hide hkr2
      clear hkr hkr2
      go_wp2
      go_ret
      refine ⟨.slice (some ⟨g, 0, none⟩) k k, rfl, ?_, ?_⟩
      · have h := unhide HKR
        refine Or.inr ⟨⟨g, 0, none⟩, k, by simp, fun _ => rfl, by simp, by unfold maxLen; omega, fun _ => lt_of_block h, fun j hj => ?_⟩
        have hjk : j < k := by simpa using hj
        rw [Nat.zero_add, cell_of_row wr g j _ _ _ h]
        simpa using rj_at (bv u) cs.toList k j hjk
      · exact (unhide hkb).mono (fun i hi e => by have := unhide HG; omega)
end Md
end Go.Proofs.Ytbhidmeobeecmaa
