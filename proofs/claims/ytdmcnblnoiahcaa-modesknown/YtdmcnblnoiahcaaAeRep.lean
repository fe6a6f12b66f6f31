/-
  slices.Repeat, Grow, Concat of rounds.
-/
import Derived.Test.YtdmcnblnoiahcaaRowV
import Derived.Test.YtdmcnblnoiahcaaHeldL
import Derived.Laws.CopyOwn
import Derived.Deep.DeepCutAuto
import Derived.Laws.MakeOwn
import Derived.Laws.OwnMore
namespace Go.Proofs.Ytdmcnblnoiahcaa
open Go.RowKit
set_option linter.unusedSimpArgs false
set_option linter.unusedVariables false
namespace Ae

theorem Try.infoRound : (Try.prog.info? 68).map (fun i => (i.zero, i.size, i.bytes)) = some (some Value.nilFunc, 1, 8) := by kernel_rfl
theorem Try.underRounds : Try.prog.underlying 65 = some (.slice 68) := by kernel_rfl
theorem Try.sizeRound : (Try.prog.info? 68).map (·.size) = some 1 := by kernel_rfl

def MulAs (n : Nat) : Prop := ∀ w : World, Calls Try.prog 56 #[.int .u64 1, .int .u64 (n : Int)] w fun e w' => e = .returned (.tuple #[.int .u64 0, .int .u64 (n : Int)]) ∧ w' = w

set_option maxRecDepth 100000 in
theorem mul64_9 (w : World) : Calls Try.prog 72 #[.int .u64 1, .int .u64 9] w fun e w' => e = .returned (.tuple #[.int .u64 0, .int .u64 9]) ∧ w' = w := by
  have h1 : bits .and .u64 1 4294967295 = 1 := by kernel_rfl
  have h2 : bits .and .u64 9 4294967295 = 9 := by kernel_rfl
  have h3 : bits .and .u64 0 4294967295 = 0 := by kernel_rfl
  go_enter Try.func72, Try.ntmps72
  go_wp2
  go_ret2
  exact ⟨rfl, rfl⟩
set_option maxRecDepth 100000 in
theorem mul_9 : MulAs 9 := by
  intro w
  go_enter Try.func56, Try.ntmps56
  go_wp2_with (go_at_call 72; refine (mul64_9 _).mono ?_; rintro e w1 ⟨rfl, rfl⟩)
  go_ret2
  exact ⟨rfl, rfl⟩

set_option maxRecDepth 100000 in
theorem mul64_11 (w : World) : Calls Try.prog 72 #[.int .u64 1, .int .u64 11] w fun e w' => e = .returned (.tuple #[.int .u64 0, .int .u64 11]) ∧ w' = w := by
  have h1 : bits .and .u64 1 4294967295 = 1 := by kernel_rfl
  have h2 : bits .and .u64 11 4294967295 = 11 := by kernel_rfl
  have h3 : bits .and .u64 0 4294967295 = 0 := by kernel_rfl
  go_enter Try.func72, Try.ntmps72
  go_wp2
  go_ret2
  exact ⟨rfl, rfl⟩
set_option maxRecDepth 100000 in
theorem mul_11 : MulAs 11 := by
  intro w
  go_enter Try.func56, Try.ntmps56
  go_wp2_with (go_at_call 72; refine (mul64_11 _).mono ?_; rintro e w1 ⟨rfl, rfl⟩)
  go_ret2
  exact ⟨rfl, rfl⟩

set_option maxRecDepth 100000 in
theorem mul64_13 (w : World) : Calls Try.prog 72 #[.int .u64 1, .int .u64 13] w fun e w' => e = .returned (.tuple #[.int .u64 0, .int .u64 13]) ∧ w' = w := by
  have h1 : bits .and .u64 1 4294967295 = 1 := by kernel_rfl
  have h2 : bits .and .u64 13 4294967295 = 13 := by kernel_rfl
  have h3 : bits .and .u64 0 4294967295 = 0 := by kernel_rfl
  go_enter Try.func72, Try.ntmps72
  go_wp2
  go_ret2
  exact ⟨rfl, rfl⟩
set_option maxRecDepth 100000 in
theorem mul_13 : MulAs 13 := by
  intro w
  go_enter Try.func56, Try.ntmps56
  go_wp2_with (go_at_call 72; refine (mul64_13 _).mono ?_; rintro e w1 ⟨rfl, rfl⟩)
  go_ret2
  exact ⟨rfl, rfl⟩

theorem make_rounds (n : Nat) (hn : n ≤ 1000) : ∃ Z : Array Value, (∀ w : World, (Instr.makeSlice 65 (.int .i64 n) (.int .i64 n)).run Try.prog w = .ok (.slice (some ⟨w.heap.size, 0, none⟩) n n) (w.alloc (.cells Z 68))) ∧ Z = (List.replicate n Value.nilFunc).toArray := by
  obtain ⟨i0, hi, hz0, hz1, hz2⟩ := info_parts Try.infoRound
  refine ⟨madeCells #[Value.nilFunc] n, fun w => ?_, ?_⟩
  · have h := run_make (P := Try.prog) w 65 68 i0 Value.nilFunc Try.underRounds hi hz0 .i64 .i64 n n (by omega) (by omega) (by rw [hz2]; omega) (by omega)
    simp only [hz1, Nat.mul_one, Int.toNat_natCast] at h
    exact h
  · apply Array.ext'
    rw [toList_madeCells_one]

def rp (fv : Value) (n k : Nat) : List Value := List.replicate k fv ++ List.replicate (n - k) Value.nilFunc
theorem rp_length (fv : Value) (n k : Nat) (h : k ≤ n) : (rp fv n k).length = n := by simp [rp]; omega
theorem rp_splice (fv : Value) (n k m : Nat) (h : k + m ≤ n) : splice (rp fv n k) k (List.replicate m fv) = rp fv n (k + m) := by
  unfold splice rp
  rw [List.take_left' (by simp), List.length_replicate, show k + m = (List.replicate k fv).length + m by simp, List.drop_append]
  simp only [List.length_replicate, List.drop_replicate, Nat.add_sub_cancel_left]
  rw [show k - (k + m) = 0 by omega, show n - k - m = n - (k + m) by omega, List.replicate_zero, List.nil_append, ← List.append_assoc, List.replicate_append_replicate]
theorem rp_at (fv : Value) (n k j : Nat) (h : j < k) : (rp fv n k)[j]? = some fv := by
  unfold rp
  rw [List.getElem?_append_left (by simpa using h), List.getElem?_replicate, if_pos h]

theorem copy_src {w : World} {g : Nat} {t : TypeId} {fr : Nat × Nat} {fv : Value} {n k m : Nat} (h : w.heap[g]? = some (.cells (rp fv n k).toArray t fr)) (hm : m ≤ k) : ∀ j v, (List.replicate m fv)[j]? = some v → w.cell? ((⟨g, 0, none⟩ : Addr).add j) = some v := by
  intro j v hv
  have hj : j < m := by have := (List.getElem?_eq_some_iff.1 hv).1; simpa using this
  rw [List.getElem?_replicate, if_pos hj, Option.some.injEq] at hv
  subst hv
  rw [addr_add _ rfl, Nat.zero_add, cell_of_row w g j _ t fr h]
  simpa using rp_at fv n k j (by omega)

/-- copy(r[k:], src) of m cells that all are fv -/
theorem copy_rp {w : World} {g n k m : Nat} {fv : Value} (hfv : fv.oneCell' = true) (hg : w.heap[g]? = some (.cells (rp fv n k).toArray 68 (0, 0))) (hkm : k + m ≤ n) (ad : Addr) (sLen sCap : Nat)
    (hm : m = min sLen (n - k)) (hsrc : ∀ j v, (List.replicate m fv)[j]? = some v → w.cell? (ad.add j) = some v) :
    ∃ w', (Builtin.copy_ #[65, 65] 3 #[.slice (some ⟨g, k, none⟩) (n - k) (n - k), .slice (some ad) sLen sCap]).run Try.prog w = .ok (.int .i64 (m : Int)) w' ∧
      w'.heap[g]? = some (.cells (rp fv n (k + m)).toArray 68 (0, 0)) ∧ Only (fun j => j = g) w w' := by
  have hr := run_copy_row (P := Try.prog) w 65 65 3 68 g k (n - k) (n - k) ad sLen sCap (rp fv n k).toArray 68 (List.replicate m fv) Try.underRounds Try.sizeRound hg
    (by show _ = min _ _; rw [List.length_replicate, hm]) hsrc (by rw [List.size_toArray, rp_length fv n k (by omega), List.length_replicate]; exact hkm) (fun v hv => by rw [List.eq_of_mem_replicate hv]; exact hfv)
  rw [List.length_replicate] at hr
  refine ⟨_, hr, ?_, ⟨rfl, rfl, rfl, by simp [World.setRow], fun j _ hj => setRow_other w g j _ hj⟩⟩
  rw [setRow_heap w g _ _ _ _ hg]
  have h2 := rp_splice fv n k m hkm
  unfold splice at h2
  rw [List.length_replicate] at h2
  rw [← h2]
  simp

set_option maxRecDepth 100000 in
set_option maxHeartbeats 1000000 in
theorem repeat_any (n : Nat) (h1 : 1 ≤ n) (h2 : n ≤ 100) (HM : Hid (MulAs n)) (fv : Value) (hfv : fv.oneCell' = true) (xb : Nat) (w : World) (hx : w.cell? ⟨xb, 0, none⟩ = some fv) :
    Calls Try.prog 36 #[.slice (some ⟨xb, 0, none⟩) 1 1, .int .i64 n] w fun e w' => ∃ g, e = .returned (.slice (some ⟨g, 0, none⟩) n n) ∧
      w'.ownsRow w.heap.size 68 1 (.slice (some ⟨g, 0, none⟩) n n) n (List.replicate n fv) ∧ Only (fun _ => False) w w' := by
  obtain ⟨Z, hmk, hZ⟩ := make_rounds n (by omega)
  have hxl := World.block_lt_of_cell? w _ hx
  have HN : (w.alloc (.cells Z 68)).heap[w.heap.size]? = some (.cells (rp fv n 0).toArray 68 (0, 0)) := by
    rw [heap_alloc_new w (.cells Z 68), hZ]
    rfl
  have HC : (w.alloc (.cells Z 68)).cell? ⟨xb, 0, none⟩ = some fv := by
    rw [World.cell?_alloc_lt _ _ _ hxl]
    exact hx
  obtain ⟨w2, hcp, hw2, o2⟩ := copy_rp hfv HN (k := 0) (m := 1) (by omega) ⟨xb, 0, none⟩ 1 1 (by omega) (fun j v hv => by
    have hj : j = 0 := by have := (List.getElem?_eq_some_iff.1 hv).1; simpa using this
    subst hj
    rw [show v = fv by simpa using hv.symm]
    exact HC)
  rw [Nat.sub_zero] at hcp
  have H2 := hide hw2
  have OG : Hid (Only (fun j => j = w.heap.size) w w2) := ((Only.refl _ w).alloc _).trans o2 (fun _ _ e => e)
  clear HN HC hxl hZ hx hw2 o2
  go_enter Try.func36, Try.ntmps36
  go_wp2_with fail
  refine (unhide HM _).mono ?_
  rintro e w1 ⟨rfl, hw1⟩
  rw [hw1]
  clear hw1 w1
  go_wp2_with fail
  clear hcp hmk
  obtain ⟨g, hgw⟩ : ∃ g, g = w.heap.size := ⟨_, rfl⟩
  rw [← hgw] at H2 OG ⊢
  have HG := hide hgw
  clear hgw
  go_loopw [8] (fun p wr => ∃ k : Nat, 1 ≤ k ∧ k ≤ n ∧ p = .int .i64 k ∧ Hid (wr.heap[g]? = some (.cells (rp fv n k).toArray 68 (0, 0))) ∧ Hid (Only (fun j => j = g) w wr)) (fun p _ => n - (intOf p).toNat)
  case atStart => exact ⟨1, by omega, by omega, by simp, H2, OG⟩
  case round =>
    obtain ⟨k, hk1, hkn, rfl, hkr, hkb⟩ := hrel
    by_cases hlt : k < n
    · obtain ⟨m, hm⟩ : ∃ m, m = min k (n - k) := ⟨_, rfl⟩
      obtain ⟨w3, hcp, hw3, o3⟩ := copy_rp (w := wr.drew) hfv (unhide hkr) (k := k) (m := m) (by omega) ⟨g, 0, none⟩ k n hm (copy_src (w := wr.drew) (unhide hkr) (by omega))
      have H3 := hide hw3
      have O3 : Hid (Only (fun j => j = g) w w3) := ((unhide hkb).drew).trans o3 (fun _ _ e => e)
      have hm1 : 1 ≤ m := by omega
      have hmn : k + m ≤ n := by omega
      have hw64 : IntKind.i64.wrap ((k : Int) + (m : Int)) = ((k + m : Nat) : Int) := by rw [wrap_small _ (by omega) (by omega)]; omega
      clear hm hw3 o3 hkr hkb
      have hkn' : (k : Int) < (n : Int) := by omega
      have hnk : ¬ n = k := by omega
      go_wp2_with fail
      refine wp_region_held_drew (S := (fun _ => True)) (by kernel_rfl) (trivial) (fun hHeld => ?_)
      refine wpAnyH_take (i := 0) (v := ?v20) rfl (by kernel_rfl) (by kernel_rfl) (by kernel_rfl) (fun _ _ _ h => h) (Or.inl ⟨by rfl, ?hy20⟩) (by assumption) ?rest20
      case hy20 =>
        intro w hSw
        go_simp
        try with_reducible rfl
      try simp only [Act.put, List.setIfInBounds_toArray, List.set_cons_zero, List.set_cons_succ, List.getElem_toArray, List.getElem_cons_succ, List.getElem_cons_zero]
      refine wpAnyH_take (i := 1) (v := ?v21) rfl (by kernel_rfl) (by kernel_rfl) (by kernel_rfl) (fun _ _ _ h => h) (Or.inl ⟨by rfl, ?hy21⟩) (by assumption) ?rest21
      case hy21 =>
        intro w hSw
        go_simp
        try with_reducible rfl
      try simp only [Act.put, List.setIfInBounds_toArray, List.set_cons_zero, List.set_cons_succ, List.getElem_toArray, List.getElem_cons_succ, List.getElem_cons_zero]
      refine wpAnyH_take (i := 2) (v := ?v22) rfl (by kernel_rfl) (by kernel_rfl) (by kernel_rfl) (fun _ _ _ h => h) (Or.inl ⟨by rfl, ?hy22⟩) (by assumption) ?rest22
      case hy22 =>
        intro w hSw
        go_simp
        try with_reducible rfl
      try simp only [Act.put, List.setIfInBounds_toArray, List.set_cons_zero, List.set_cons_succ, List.getElem_toArray, List.getElem_cons_succ, List.getElem_cons_zero]
      refine wpAnyH_take (i := 3) (v := ?v23) rfl (by kernel_rfl) (by kernel_rfl) (by kernel_rfl) (fun _ _ _ h => h) (Or.inl ⟨by rfl, ?hy23⟩) (by assumption) ?rest23
      case hy23 =>
        intro w hSw
        go_simp
        try with_reducible rfl
      try simp only [Act.put, List.setIfInBounds_toArray, List.set_cons_zero, List.set_cons_succ, List.getElem_toArray, List.getElem_cons_succ, List.getElem_cons_zero]
      refine wpAnyH_take (i := 4) (v := ?v24) rfl (by kernel_rfl) (by kernel_rfl) (by kernel_rfl) (fun _ _ _ h => h) (Or.inl ⟨by rfl, ?hy24⟩) (by assumption) ?rest24
      case hy24 =>
        intro w hSw
        go_simp
        try with_reducible rfl
      try simp only [Act.put, List.setIfInBounds_toArray, List.set_cons_zero, List.set_cons_succ, List.getElem_toArray, List.getElem_cons_succ, List.getElem_cons_zero]
      refine wpAnyH_take (i := 5) (v := ?v25) rfl (by kernel_rfl) (by kernel_rfl) (by kernel_rfl) (fun _ _ _ h => h) (Or.inl ⟨by rfl, ?hy25⟩) (by assumption) ?rest25
      case hy25 =>
        intro w hSw
        go_simp
        try with_reducible rfl
      try simp only [Act.put, List.setIfInBounds_toArray, List.set_cons_zero, List.set_cons_succ, List.getElem_toArray, List.getElem_cons_succ, List.getElem_cons_zero]
      refine wpAnyH_take (i := 6) (v := ?v26) rfl (by kernel_rfl) (by kernel_rfl) (by kernel_rfl) (fun _ _ _ h => h) (Or.inl ⟨by rfl, ?hy26⟩) (by assumption) ?rest26
      case hy26 =>
        intro w hSw
        go_simp
        try with_reducible rfl
      try simp only [Act.put, List.setIfInBounds_toArray, List.set_cons_zero, List.set_cons_succ, List.getElem_toArray, List.getElem_cons_succ, List.getElem_cons_zero]
      refine wpAnyH_ready (rs := [7]) (by kernel_rfl) (by simp) ?_
      refine AllReadyH.cons rfl (fun K hK => ?_) AllReadyH.nil
      go_simp
      refine hK.out _ _ (trivial) (fun hHeld => ?_)
      clear hK K
      try simp only [Act.put, List.setIfInBounds_toArray, List.set_cons_zero, List.set_cons_succ, List.getElem_toArray, List.getElem_cons_succ, List.getElem_cons_zero]
      refine wpAnyH_take (i := 8) (v := ?v27) rfl (by kernel_rfl) (by kernel_rfl) (by kernel_rfl) (fun _ _ _ h => h) (Or.inl ⟨by rfl, ?hy27⟩) (by assumption) ?rest27
      case hy27 =>
        intro w hSw
        go_simp
        try with_reducible rfl
      try simp only [Act.put, List.setIfInBounds_toArray, List.set_cons_zero, List.set_cons_succ, List.getElem_toArray, List.getElem_cons_succ, List.getElem_cons_zero]
      refine wpAnyH_take (i := 9) (v := ?v28) rfl (by kernel_rfl) (by kernel_rfl) (by kernel_rfl) (fun _ _ _ h => h) (Or.inl ⟨by rfl, ?hy28⟩) (by assumption) ?rest28
      case hy28 =>
        intro w hSw
        go_simp
        try with_reducible rfl
      try simp only [Act.put, List.setIfInBounds_toArray, List.set_cons_zero, List.set_cons_succ, List.getElem_toArray, List.getElem_cons_succ, List.getElem_cons_zero]
      refine wpAnyH_done (by kernel_rfl) ?_ _
      go_wp2
      go_roundw
      case rel => exact ⟨k + m, by omega, by omega, rfl, H3, O3⟩
      case measure => simp [intOf]; omega
    · obtain rfl : k = n := by omega
      have hkr2 := unhide hkr
      have HKR := hide hkr2
      clear hkr hkr2
      go_wp2
      go_ret
      refine ⟨g, rfl, ?_, ?_⟩
      · have h := unhide HKR
        rw [show rp fv k k = List.replicate k fv by simp [rp]] at h
        refine ⟨by simp, Or.inr ⟨g, k, _, rfl, by rw [unhide HG]; exact Nat.le_refl _, h, Nat.le_refl _, by unfold maxLen; omega, by simp, by simp⟩⟩
      · exact (unhide hkb).trans (Only.refl (fun _ => False) _) (fun _ _ e => False.elim e) |>.mono (fun i hi e => by have := unhide HG; omega)
end Ae
end Go.Proofs.Ytdmcnblnoiahcaa
