/-
  wal's Reset.
-/
import Derived.Test.YtoffcbopolonoaaWalCommit
namespace Go.Proofs.Ytoffcbopolonoaa
open Go.RowKit
set_option linter.unusedSimpArgs false
set_option linter.unusedVariables false
namespace Wal

theorem next1_lt (e : Nat) : next1 e < 18446744073709551616 := Nat.mod_lt _ (by decide)
theorem next1_wrap (e : Nat) : IntKind.u64.wrap ((e : Int) + 1) = (next1 e : Int) := by
  rw [IntKind.wrap_u64]
  unfold next1
  omega

section
variable {w0 w w' : World} {F : Nat → Prop} {B L : Nat} {d : Dk} {l : Lg}

theorem start_le (h : d.Fine) (a : Nat) (ha : a ≤ 1) : start d a ≤ 2049 := by
  have := (half_le d h).1
  unfold start
  have : a * d.half ≤ 1 * d.half := Nat.mul_le_mul_right _ ha
  omega

set_option maxHeartbeats 1000000 in
theorem reset_any (h : Logs w0 w F B L d l) (xv : Value) (u : List UInt8) (hx : Has w xv u) (hxb : u ≠ [] → ∀ j, blk xv = some j → ¬ F j ∧ j ≠ L) (hul : u.length ≤ 10000000) (hwk : d.works ≤ 890000) :
    Calls Try.prog 12 #[.pointer (some ⟨L, 0, none⟩), xv] w fun e w' => e = .returned (.int .i64 (reset l d u).e) ∧ ∃ F', LWent w0 w w' F F' B L (reset l d u).dk (reset l d u).lg := by
  have hh := half_le d h.dk.fine
  have hfa := h.fine.area
  have hst := start_le h.dk.fine (1 - l.hd.area) (by omega)
  have H := hide h
  have HX := hide hx
  have HXB := hide hxb
  obtain ⟨c0, c1, c2, c3, c4, c5, cf⟩ := h.lg.cells
  have HRS : Hid (reset l d u = if l.dead then ⟨l, d, 9⟩ else if d.half < size u then ⟨l, d, 2⟩ else commit l d ⟨next1 l.hd.epoch, 1 - l.hd.area, size u⟩ (start d (1 - l.hd.area)) (lay u)) := rfl
  obtain ⟨xo, xc, hxv, _⟩ := hx.shape
  subst hxv
  clear h hx hxb
  obtain ⟨dead, hdead⟩ : ∃ dead, dead = l.dead := ⟨_, rfl⟩
  rw [← hdead] at c5 HRS
  have HSZ := hide (size_any _ u w (unhide HX) (by omega))
  have hs63 := secsOf_lt (8 + u.length)
  have hsz : size u ≤ 200000 := by unfold size; omega
  clear hs63 hdead
  cases dead with
  | true =>
    go_enter Try.func12, Try.ntmps12
    go_wp2
    go_ret
    rw [unhide HRS]
    exact ⟨rfl, F, LWent.refl (unhide H)⟩
  | false =>
    rw [if_neg (by decide)] at HRS
    by_cases hfull : d.half < size u
    · rw [if_pos hfull] at HRS
      have hfi : (d.half : Int) < size u := by omega
      go_enter Try.func12, Try.ntmps12
      go_wp2_with fail
      refine (unhide HSZ).mono ?_
      rintro e w ⟨rfl, rfl⟩
      go_wp2_with fail
      refine (half_any (unhide H)).mono ?_
      rintro e w ⟨rfl, rfl⟩
      go_wp2
      go_ret
      rw [unhide HRS]
      exact ⟨rfl, F, LWent.refl (unhide H)⟩
    · rw [if_neg hfull] at HRS
      have hfi : ¬ (d.half : Int) < size u := by omega
      have hnw := next1_wrap l.hd.epoch
      have hnl := next1_lt l.hd.epoch
      have HAR : Hid ((1 : Int) - l.hd.area = ((1 - l.hd.area : Nat) : Int)) := by show (1 : Int) - l.hd.area = ((1 - l.hd.area : Nat) : Int); omega
      obtain ⟨ep, hep⟩ : ∃ ep, ep = next1 l.hd.epoch := ⟨_, rfl⟩
      obtain ⟨ar, har⟩ : ∃ ar, ar = 1 - l.hd.area := ⟨_, rfl⟩
      have har1 : ar ≤ 1 := by omega
      rw [← hep] at HRS hnw hnl
      rw [← har] at HRS HAR hst
      clear hep har
      go_enter Try.func12, Try.ntmps12
      go_wp2_with fail
      refine (unhide HSZ).mono ?_
      rintro e w ⟨rfl, rfl⟩
      go_wp2_with fail
      refine (half_any (unhide H)).mono ?_
      rintro e w ⟨rfl, rfl⟩
      go_wp2_with fail
      have hLlt := (unhide H).lt
      have a1 : ∀ o, (w.alloc o).cell? ⟨L, 1, none⟩ = some (.int .u64 l.hd.epoch) := fun o => by rw [World.cell?_alloc_past _ _ _ hLlt]; exact c1
      have a2 : ∀ o, (w.alloc o).cell? ⟨L, 2, none⟩ = some (.int .i64 l.hd.area) := fun o => by rw [World.cell?_alloc_past _ _ _ hLlt]; exact c2
      go_region
      rw [unhide HAR]
      have hB := heap_alloc_new w (.cells #[.int .u64 ep, .int .i64 ar, .int .i64 (size u)] 36)
      have o1 := ((Only.refl (fun _ => False) w).alloc (.cells #[.int .u64 ep, .int .i64 ar, .int .i64 (size u)] 36)).drew
      generalize (w.alloc (.cells #[.int .u64 ep, .int .i64 ar, .int .i64 (size u)] 36)) = wa at *
      obtain ⟨w1, hw1⟩ : ∃ w1, w1 = wa.drew := ⟨_, rfl⟩
      have hB1 : w1.heap[w.heap.size]? = some (.cells #[.int .u64 ep, .int .i64 ar, .int .i64 (size u)] 36) := by rw [hw1]; exact hB
      rw [← hw1] at o1 ⊢
      have HO1 := hide o1
      have HL1 := hide ((unhide H).same o1)
      have HX1 := hide ((unhide HX).only o1 (fun _ _ _ h => h))
      obtain ⟨k0, k1, k2, kf⟩ := cells_three hB1
      have HB1 := hide hB1
      have HLL : Hid ((lay u).length = size u * 64) := lay_length u
      have HST := hide (fun (w' : World) (o : Only (fun _ => False) w1 w') => start_any ((unhide HL1).same o) ar har1)
      have HCO := hide (fun (w3 : World) (o : Only (fun _ => False) w1 w3) (y : Value) (hy : Has w3 y (lay u)) (hyb : lay u ≠ [] → ∀ j, blk y = some j → ¬ F j ∧ j ≠ L) => commit_any ((unhide HL1).same o) ⟨ep, ar, size u⟩ hnl har1 (by show size u ≤ d.half; omega) (start d ar) (by omega) y (lay u) hy hyb (by rw [unhide HLL]; omega) (by rw [unhide HLL]; omega))
      unfold hv at HCO
      obtain ⟨st, hste⟩ : ∃ st, st = start d ar := ⟨_, rfl⟩
      rw [← hste] at HST HCO HRS hst
      obtain ⟨cm, hcm⟩ : ∃ cm, cm = commit l d ⟨ep, ar, size u⟩ st (lay u) := ⟨_, rfl⟩
      rw [← hcm] at HCO HRS
      clear hste hcm hB hw1 a1 a2 o1 hB1 hnw c0 c1 c2 c3 c4 c5 cf
      go_wp2_with fail
      refine wp_region_held_drew (S := (fun w' => w'.cell? ⟨w.heap.size, 0, none⟩ = some (.int .u64 ep) ∧ w'.cell? ⟨w.heap.size, 1, none⟩ = some (.int .i64 ar) ∧ w'.cell? ⟨w.heap.size, 2, none⟩ = some (.int .i64 (size u)))) (by kernel_rfl) (⟨k0, k1, k2⟩) (fun hHeld => ?_)
      refine wpAnyH_take (i := 0) (v := ?v23) rfl (by kernel_rfl) (by kernel_rfl) (by kernel_rfl) (fun _ _ _ h => h) (Or.inl ⟨by rfl, ?hy23⟩) (by assumption) ?rest23
      case hy23 =>
        intro w hSw
        go_simp
        try with_reducible rfl
      try simp only [Act.put, List.setIfInBounds_toArray, List.set_cons_zero, List.set_cons_succ, List.getElem_toArray, List.getElem_cons_succ, List.getElem_cons_zero]
      refine wpAnyH_take (i := 1) (v := ?v24) rfl (by kernel_rfl) (by kernel_rfl) (by kernel_rfl) (fun _ _ _ h => h) (Or.inl ⟨by rfl, ?hy24⟩) (by assumption) ?rest24
      case hy24 =>
        intro w hSw
        (obtain ⟨q0, q1, q2⟩ := hSw; go_simp; try with_reducible rfl)
      try simp only [Act.put, List.setIfInBounds_toArray, List.set_cons_zero, List.set_cons_succ, List.getElem_toArray, List.getElem_cons_succ, List.getElem_cons_zero]
      refine wpAnyH_take (i := 2) (v := ?v25) rfl (by kernel_rfl) (by kernel_rfl) (by kernel_rfl) (fun _ _ _ h => h) (Or.inl ⟨by rfl, ?hy25⟩) (by assumption) ?rest25
      case hy25 =>
        intro w hSw
        go_simp
        try with_reducible rfl
      try simp only [Act.put, List.setIfInBounds_toArray, List.set_cons_zero, List.set_cons_succ, List.getElem_toArray, List.getElem_cons_succ, List.getElem_cons_zero]
      refine wpAnyH_take (i := 3) (v := ?v26) rfl (by kernel_rfl) (by kernel_rfl) (by kernel_rfl) (fun _ _ _ h => h) (Or.inl ⟨by rfl, ?hy26⟩) (by assumption) ?rest26
      case hy26 =>
        intro w hSw
        go_simp
        try with_reducible rfl
      try simp only [Act.put, List.setIfInBounds_toArray, List.set_cons_zero, List.set_cons_succ, List.getElem_toArray, List.getElem_cons_succ, List.getElem_cons_zero]
      refine wpAnyH_take (i := 4) (v := ?v27) rfl (by kernel_rfl) (by kernel_rfl) (by kernel_rfl) (fun _ _ _ h => h) (Or.inl ⟨by rfl, ?hy27⟩) (by assumption) ?rest27
      case hy27 =>
        intro w hSw
        (obtain ⟨q0, q1, q2⟩ := hSw; go_simp; try with_reducible rfl)
      try simp only [Act.put, List.setIfInBounds_toArray, List.set_cons_zero, List.set_cons_succ, List.getElem_toArray, List.getElem_cons_succ, List.getElem_cons_zero]
      refine wpAnyH_take (i := 6) (v := ?v28) rfl (by kernel_rfl) (by kernel_rfl) (by kernel_rfl) (fun _ _ _ h => h) (Or.inl ⟨by rfl, ?hy28⟩) (by assumption) ?rest28
      case hy28 =>
        intro w hSw
        go_simp
        try with_reducible rfl
      try simp only [Act.put, List.setIfInBounds_toArray, List.set_cons_zero, List.set_cons_succ, List.getElem_toArray, List.getElem_cons_succ, List.getElem_cons_zero]
      refine wpAnyH_ready (rs := [5]) (by kernel_rfl) (by simp) ?_
      refine AllReadyH.cons rfl (fun K hK => ?_) AllReadyH.nil
      go_simp
      go_wp2_with fail; refine (unhide HST _ ((Only.refl _ _).drew)).mono ?_; rintro e w2 ⟨rfl, rfl⟩
      refine hK.out _ _ (⟨k0, k1, k2⟩) (fun hHeld => ?_)
      clear hK K
      try simp only [Act.put, List.setIfInBounds_toArray, List.set_cons_zero, List.set_cons_succ, List.getElem_toArray, List.getElem_cons_succ, List.getElem_cons_zero]
      refine wpAnyH_ready (rs := [7]) (by kernel_rfl) (by simp) ?_
      refine AllReadyH.cons rfl (fun K hK => ?_) AllReadyH.nil
      go_simp
      go_wp2_with fail; refine (lay_any _ u w1.drew (unhide HX1) (by omega)).mono ?_; rintro e w3 ⟨y3, rfl, hy3, o3⟩; have o13 : Only (fun _ => False) w1 w3 := ((Only.refl _ _).drew).trans o3 (fun _ _ e => e); obtain ⟨k0', k1', k2', kf'⟩ := cells_three (o13.heap (unhide HB1) (fun h => h)); have HY3 : Hid (Has w3 y3 (lay u) ∧ ∀ j, blk y3 = some j → w1.heap.size ≤ j) := ⟨Has.ofOwns hy3.out, owns_fresh hy3⟩; have HO13 := hide o13; clear hy3 o3 o13
      refine hK.out _ _ (⟨k0', k1', k2'⟩) (fun hHeld => ?_)
      clear hK K
      try simp only [Act.put, List.setIfInBounds_toArray, List.set_cons_zero, List.set_cons_succ, List.getElem_toArray, List.getElem_cons_succ, List.getElem_cons_zero]
      refine wpAnyH_ready (rs := [8]) (by kernel_rfl) (by simp) ?_
      refine AllReadyH.cons rfl (fun K hK => ?_) AllReadyH.nil
      go_simp
      go_wp2_with fail; refine (unhide HCO w3 (unhide HO13) y3 (unhide HY3).1 (fun _ j hj => by have := (unhide HY3).2 j hj; have := (unhide HL1).lt; exact ⟨fun e => by have := (unhide HL1).dk.lt j e; omega, by omega⟩)).mono ?_; rintro e w4 ⟨rfl, F4, hw4⟩; have HW4 := hide ((hw4.box (unhide HO13)).box (unhide HO1)); obtain ⟨k0'', k1'', k2'', kf''⟩ := cells_three ((hw4.box (unhide HO13)).only.heap (unhide HB1) (fun e => by have := (unhide H).lt; rcases e with e | e; have := (unhide H).dk.lt _ e; omega; omega)); clear hw4
      refine hK.out _ _ (⟨k0'', k1'', k2''⟩) (fun hHeld => ?_)
      clear hK K
      try simp only [Act.put, List.setIfInBounds_toArray, List.set_cons_zero, List.set_cons_succ, List.getElem_toArray, List.getElem_cons_succ, List.getElem_cons_zero]
      refine wpAnyH_take (i := 9) (v := ?v29) rfl (by kernel_rfl) (by kernel_rfl) (by kernel_rfl) (fun _ _ _ h => h) (Or.inl ⟨by rfl, ?hy29⟩) (by assumption) ?rest29
      case hy29 =>
        intro w hSw
        go_simp
        try with_reducible rfl
      try simp only [Act.put, List.setIfInBounds_toArray, List.set_cons_zero, List.set_cons_succ, List.getElem_toArray, List.getElem_cons_succ, List.getElem_cons_zero]
      refine wpAnyH_done (by kernel_rfl) ?_ _
      go_wp2
      go_ret
      rw [unhide HRS]
      exact ⟨rfl, F4, unhide HW4⟩
end

end Wal
end Go.Proofs.Ytoffcbopolonoaa
