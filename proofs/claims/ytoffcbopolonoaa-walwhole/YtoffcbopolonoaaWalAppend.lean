/-
  wal's Append.
-/
import Derived.Test.YtoffcbopolonoaaWalReset
namespace Go.Proofs.Ytoffcbopolonoaa
open Go.RowKit
set_option linter.unusedSimpArgs false
set_option linter.unusedVariables false
namespace Wal

theorem sizes_take (us : List (List UInt8)) (k : Nat) (h : k < us.length) : sizes (us.take (k + 1)) = sizes (us.take k) + size us[k] := by
  unfold sizes
  rw [List.take_succ_eq_append_getElem h, List.map_append, List.sum_append, List.map_singleton, List.sum_singleton]
theorem sizes_le (us : List (List UInt8)) (k : Nat) : sizes (us.take k) ≤ sizes us := by
  have : us = us.take k ++ us.drop k := by simp
  unfold sizes
  conv => rhs; rw [this, List.map_append, List.sum_append]
  exact Nat.le_add_right _ _
theorem layAll_take (us : List (List UInt8)) (k : Nat) (h : k < us.length) : layAll (us.take (k + 1)) = layAll (us.take k) ++ lay us[k] := by
  unfold layAll
  rw [List.take_succ_eq_append_getElem h, List.flatMap_append, List.flatMap_singleton]
theorem layAll_length (us : List (List UInt8)) : (layAll us).length = sizes us * 64 := by
  unfold layAll sizes
  induction us with
  | nil => rfl
  | cons u r ih => rw [List.flatMap_cons, List.length_append, ih, lay_length, List.map_cons, List.sum_cons, Nat.add_mul]
theorem size_ge (u : List UInt8) : u.length ≤ size u * 64 := by have := secsOf_ge (8 + u.length); unfold size; omega
theorem size_le_sizes (us : List (List UInt8)) (k : Nat) (h : k < us.length) : size us[k] ≤ sizes us := by
  have h1 := sizes_take us k h
  have h2 := sizes_le us (k + 1)
  omega
theorem len_le_sizes (us : List (List UInt8)) : us.length ≤ sizes us := by
  unfold sizes
  induction us with
  | nil => simp
  | cons u r ih => rw [List.map_cons, List.sum_cons, List.length_cons]; have := size_pos u; omega

section
variable {w0 w w' : World} {F : Nat → Prop} {B L : Nat} {d : Dk} {l : Lg}

set_option maxHeartbeats 2000000 in
theorem append_any (h : Logs w0 w F B L d l) (xv : Value) (us : List (List UInt8)) (hx : HasU (fun j => ¬ F j ∧ j ≠ L) w xv us) (hss : sizes us ≤ 100000) (hwk : d.works ≤ 890000) :
    Calls Try.prog 11 #[.pointer (some ⟨L, 0, none⟩), xv] w fun e w' => e = .returned (.int .i64 (append l d us).e) ∧ ∃ F', LWent w0 w w' F F' B L (append l d us).dk (append l d us).lg := by
  have hh := half_le d h.dk.fine
  have hfa := h.fine.area
  have hfu := h.fine.used
  have hst := start_le h.dk.fine l.hd.area hfa
  have hul := len_le_sizes us
  have H := hide h
  have HX := hide hx
  obtain ⟨c0, c1, c2, c3, c4, c5, cf⟩ := h.lg.cells
  have HRS : Hid (append l d us = if l.dead then ⟨l, d, 9⟩ else if us = [] then ⟨l, d, 0⟩ else if d.half < l.hd.used + sizes us then ⟨l, d, 2⟩ else commit l d ⟨next1 l.hd.epoch, l.hd.area, l.hd.used + sizes us⟩ (start d l.hd.area + l.hd.used) (layAll us)) := rfl
  obtain ⟨xo, xc, hxv, hlc, hmc⟩ := hx.shape
  subst hxv
  clear h hx
  obtain ⟨dead, hdead⟩ : ∃ dead, dead = l.dead := ⟨_, rfl⟩
  rw [← hdead] at c5 HRS
  clear hdead
  obtain ⟨n, hn⟩ : ∃ n, n = us.length := ⟨_, rfl⟩
  rw [← hn] at HX hlc hul ⊢
  have HN := hide hn
  have hnb : n ≤ 100000 := by omega
  clear hn hlc
  cases dead with
  | true =>
    go_enter Try.func11, Try.ntmps11
    go_wp2
    go_ret
    rw [unhide HRS]
    exact ⟨rfl, F, LWent.refl (unhide H)⟩
  | false =>
    rw [if_neg (by decide)] at HRS
    by_cases hnil : us = []
    · rw [if_pos hnil] at HRS
      have hn0 : n = 0 := by rw [unhide HN, hnil]; rfl
      subst hn0
      clear hnil
      go_enter Try.func11, Try.ntmps11
      go_wp2
      go_ret
      rw [unhide HRS]
      exact ⟨rfl, F, LWent.refl (unhide H)⟩
    · rw [if_neg hnil] at HRS
      have hnp : 0 < n := by rw [unhide HN]; exact List.length_pos_iff.2 hnil
      have hn0 : ((n : Int) == 0) = false := by simp; omega
      clear hnil
      go_enter Try.func11, Try.ntmps11
      go_wp2_with fail
      go_loop [5, 21] (fun s i => ∃ k : Nat, k ≤ n ∧ i = .int .i64 k ∧ s = .int .i64 (sizes (us.take k) : Nat)) (fun _ i => n - (intOf i).toNat)
      case atStart => exact ⟨0, Nat.zero_le _, rfl, rfl⟩
      case round =>
        obtain ⟨k, hk, rfl, rfl⟩ := hrel
        have hsl := sizes_le us k
        by_cases hlt : k < n
        · have hku : k < us.length := by have := unhide HN; omega
          obtain ⟨bb, off, x, hao, hcx, hxh, hxp⟩ := (unhide HX).at k hku
          subst hao
          have hst1 := sizes_take us k hku
          have hs1 := size_le_sizes us k hku
          have hsg := size_ge us[k]
          have HS1 := hide hst1
          have hlt' : (k : Int) < n := by omega
          have HSZ := hide (size_any x us[k] w hxh (by omega))
          clear hst1 hxh hxp
          generalize sizes (us.take k) = sk at *
          go_wp2_with fail
          refine (unhide HSZ).mono ?_
          rintro e w1 ⟨rfl, hw1⟩
          subst hw1
          go_wp2
          go_round
          case rel => exact ⟨k + 1, by omega, by go_num, by rw [unhide HS1]; simp⟩
          case measure => simp [intOf]; omega
        · obtain rfl : n = k := by omega
          have htk : us.take n = us := List.take_of_length_le (by have := unhide HN; omega)
          rw [htk]
          clear htk hsl
          by_cases hfull : d.half < l.hd.used + sizes us
          · rw [if_pos hfull] at HRS
            have hfi : (d.half : Int) - l.hd.used < sizes us := by omega
            go_wp2_with fail
            refine (room_any (unhide H)).mono ?_
            rintro e w1 ⟨rfl, nq, rfl⟩
            go_wp2
            go_ret
            rw [unhide HRS]
            exact ⟨rfl, F, (LWent.refl (unhide H)).same (Only.drews nq)⟩
          · rw [if_neg hfull] at HRS
            have hfi : ¬ (d.half : Int) - l.hd.used < sizes us := by omega
            go_wp2_with fail
            refine (room_any (unhide H)).mono ?_
            rintro e w1 ⟨rfl, nq, hw1⟩
            have o1 : Only (fun _ => False) w w1 := by rw [hw1]; exact Only.drews nq
            clear hw1
            go_wp2_with fail
            refine (WO.mine_new w1).mono ?_
            rintro e w2 ⟨wb, rfl, m2⟩
            have HM2 := hide (m2.back o1)
            clear m2 o1 c0 c1 c2 c3 c4 c5 cf
            go_wp2_with fail
            go_loopw [37] (fun i wr => ∃ k, k ≤ n ∧ i = .int .i64 k ∧ WO.Mine w wr wb (layAll (us.take k))) (fun i _ => n - (intOf i).toNat)
            case atStart => exact ⟨0, Nat.zero_le _, rfl, unhide HM2⟩
            case round =>
              obtain ⟨k, hk, rfl, hm⟩ := hrel
              have HM := hide hm
              have hsl := sizes_le us k
              have HLL := hide (layAll_length (us.take k))
              clear hm
              by_cases hlt : k < n
              · have hku : k < us.length := by have := unhide HN; omega
                have hlt' : (k : Int) < n := by omega
                obtain ⟨bb, off, x, hao, hcx, hxh, hxp⟩ := ((unhide HX).only (unhide HM).only (fun _ _ _ h => h)).at k hku
                subst hao
                have hs1 := size_le_sizes us k hku
                have hsg := size_ge us[k]
                have HT := hide (layAll_take us k hku)
                have HLY := hide (lay_any x us[k] wr hxh (by omega))
                have HLN := hide (lay_length us[k])
                clear hxh hxp
                generalize us[k] = u at *
                generalize layAll (us.take k) = la at *
                go_wp2_with fail
                refine (unhide HLY).mono ?_
                rintro e w3 ⟨y3, rfl, hy3, o3⟩
                have HY3 := hide (WO.mine_raw ((unhide HM).same o3) y3 (lay u) (Has.ofOwns hy3.out) (by rw [unhide HLL, unhide HLN]; omega))
                clear hy3 o3
                go_wp2_with fail
                refine (unhide HY3).mono ?_
                rintro e w4 ⟨rfl, m4⟩
                rw [← unhide HT] at m4
                have HM4 := hide m4
                clear m4
                go_wp2_with fail
                go_roundw
                case rel => exact ⟨k + 1, by omega, by go_num, unhide HM4⟩
                case measure => simp [intOf]; omega
              · obtain rfl : n = k := by omega
                have htk : us.take n = us := List.take_of_length_le (by have := unhide HN; omega)
                rw [htk] at HM HLL
                clear htk hsl
                have HL := hide ((unhide H).same (unhide HM).only)
                obtain ⟨c0, c1, c2, c3, c4, c5, cf⟩ := (unhide HL).lg.cells
                have hnw := next1_wrap l.hd.epoch
                have hnl := next1_lt l.hd.epoch
                obtain ⟨ep, hep⟩ : ∃ ep, ep = next1 l.hd.epoch := ⟨_, rfl⟩
                rw [← hep] at HRS hnw hnl
                obtain ⟨us1, hus1⟩ : ∃ us1, us1 = l.hd.used + sizes us := ⟨_, rfl⟩
                rw [← hus1] at HRS
                have hus2 : IntKind.i64.wrap ((l.hd.used : Int) + (sizes us : Int)) = (us1 : Int) := by rw [IntKind.wrap_i64]; omega
                have HUS1 := hide hus1
                clear hep hus1
                have hLlt := (unhide HL).lt
                have a1 : ∀ o, (wr.alloc o).cell? ⟨L, 1, none⟩ = some (.int .u64 l.hd.epoch) := fun o => by rw [World.cell?_alloc_past _ _ _ hLlt]; exact c1
                have a2 : ∀ o, (wr.alloc o).cell? ⟨L, 2, none⟩ = some (.int .i64 l.hd.area) := fun o => by rw [World.cell?_alloc_past _ _ _ hLlt]; exact c2
                have a3 : ∀ o, (wr.alloc o).cell? ⟨L, 3, none⟩ = some (.int .i64 l.hd.used) := fun o => by rw [World.cell?_alloc_past _ _ _ hLlt]; exact c3
                go_wp2_with fail
                go_region
                have hB := heap_alloc_new wr (.cells #[.int .u64 ep, .int .i64 l.hd.area, .int .i64 us1] 36)
                have o1 := ((Only.refl (fun _ => False) wr).alloc (.cells #[.int .u64 ep, .int .i64 l.hd.area, .int .i64 us1] 36)).drew
                generalize (wr.alloc (.cells #[.int .u64 ep, .int .i64 l.hd.area, .int .i64 us1] 36)) = wa at *
                obtain ⟨w1, hw1⟩ : ∃ w1, w1 = wa.drew := ⟨_, rfl⟩
                have hB1 : w1.heap[wr.heap.size]? = some (.cells #[.int .u64 ep, .int .i64 l.hd.area, .int .i64 us1] 36) := by rw [hw1]; exact hB
                rw [← hw1] at o1 ⊢
                have HO1 := hide o1
                have HL1 := hide ((unhide HL).same o1)
                have HM1 := hide ((unhide HM).same o1)
                obtain ⟨k0, k1, k2, kf⟩ := cells_three hB1
                have HB1 := hide hB1
                have HST := hide (fun (w' : World) (o : Only (fun _ => False) w1 w') => start_any ((unhide HL1).same o) l.hd.area hfa)
                have HCO := hide (fun (w3 : World) (o : Only (fun _ => False) w1 w3) (y : Value) (hy : Has w3 y (layAll us)) (hyb : layAll us ≠ [] → ∀ j, blk y = some j → ¬ F j ∧ j ≠ L) => commit_any ((unhide HL1).same o) ⟨ep, l.hd.area, us1⟩ hnl hfa (by show us1 ≤ d.half; have := unhide HUS1; omega) (start d l.hd.area + l.hd.used) (by omega) y (layAll us) hy hyb (by rw [unhide HLL]; omega) (by rw [unhide HLL]; have := unhide HUS1; omega))
                unfold hv at HCO
                obtain ⟨st, hste⟩ : ∃ st, st = start d l.hd.area := ⟨_, rfl⟩
                rw [← hste] at HST HCO HRS hst
                obtain ⟨sp, hspe⟩ : ∃ sp, sp = st + l.hd.used := ⟨_, rfl⟩
                rw [← hspe] at HCO HRS
                have hws : IntKind.i64.wrap ((st : Int) + (l.hd.used : Int)) = (sp : Int) := by rw [IntKind.wrap_i64]; omega
                obtain ⟨cm, hcm⟩ : ∃ cm, cm = commit l d ⟨ep, l.hd.area, us1⟩ sp (layAll us) := ⟨_, rfl⟩
                rw [← hcm] at HCO HRS
                clear hste hcm hB hw1 a1 a2 a3 o1 hB1 hnw hspe hus2 c0 c1 c2 c3 c4 c5 cf
                obtain ⟨c0, c1, c2, c3, c4, c5, cf⟩ := (unhide HL1).lg.cells
                go_wp2_with fail
                refine wp_region_held_drew (S := (fun w' => w'.cell? ⟨wr.heap.size, 0, none⟩ = some (.int .u64 ep) ∧ w'.cell? ⟨wr.heap.size, 1, none⟩ = some (.int .i64 l.hd.area) ∧ w'.cell? ⟨wr.heap.size, 2, none⟩ = some (.int .i64 us1))) (by kernel_rfl) (⟨k0, k1, k2⟩) (fun hHeld => ?_)
                refine wpAnyH_take (i := 0) (v := ?v30) rfl (by kernel_rfl) (by kernel_rfl) (by kernel_rfl) (fun _ _ _ h => h) (Or.inl ⟨by rfl, ?hy30⟩) (by assumption) ?rest30
                case hy30 =>
                  intro w hSw
                  go_simp
                  try with_reducible rfl
                try simp only [Act.put, List.setIfInBounds_toArray, List.set_cons_zero, List.set_cons_succ, List.getElem_toArray, List.getElem_cons_succ, List.getElem_cons_zero]
                refine wpAnyH_take (i := 1) (v := ?v31) rfl (by kernel_rfl) (by kernel_rfl) (by kernel_rfl) (fun _ _ _ h => h) (Or.inl ⟨by rfl, ?hy31⟩) (by assumption) ?rest31
                case hy31 =>
                  intro w hSw
                  (obtain ⟨q0, q1, q2⟩ := hSw; go_simp; try with_reducible rfl)
                try simp only [Act.put, List.setIfInBounds_toArray, List.set_cons_zero, List.set_cons_succ, List.getElem_toArray, List.getElem_cons_succ, List.getElem_cons_zero]
                refine wpAnyH_take (i := 2) (v := ?v32) rfl (by kernel_rfl) (by kernel_rfl) (by kernel_rfl) (fun _ _ _ h => h) (Or.inl ⟨by rfl, ?hy32⟩) (by assumption) ?rest32
                case hy32 =>
                  intro w hSw
                  go_simp
                  try with_reducible rfl
                try simp only [Act.put, List.setIfInBounds_toArray, List.set_cons_zero, List.set_cons_succ, List.getElem_toArray, List.getElem_cons_succ, List.getElem_cons_zero]
                refine wpAnyH_take (i := 3) (v := ?v33) rfl (by kernel_rfl) (by kernel_rfl) (by kernel_rfl) (fun _ _ _ h => h) (Or.inl ⟨by rfl, ?hy33⟩) (by assumption) ?rest33
                case hy33 =>
                  intro w hSw
                  go_simp
                  try with_reducible rfl
                try simp only [Act.put, List.setIfInBounds_toArray, List.set_cons_zero, List.set_cons_succ, List.getElem_toArray, List.getElem_cons_succ, List.getElem_cons_zero]
                refine wpAnyH_take (i := 4) (v := ?v34) rfl (by kernel_rfl) (by kernel_rfl) (by kernel_rfl) (fun _ _ _ h => h) (Or.inl ⟨by rfl, ?hy34⟩) (by assumption) ?rest34
                case hy34 =>
                  intro w hSw
                  (obtain ⟨q0, q1, q2⟩ := hSw; go_simp; try with_reducible rfl)
                try simp only [Act.put, List.setIfInBounds_toArray, List.set_cons_zero, List.set_cons_succ, List.getElem_toArray, List.getElem_cons_succ, List.getElem_cons_zero]
                refine wpAnyH_take (i := 6) (v := ?v35) rfl (by kernel_rfl) (by kernel_rfl) (by kernel_rfl) (fun _ _ _ h => h) (Or.inl ⟨by rfl, ?hy35⟩) (by assumption) ?rest35
                case hy35 =>
                  intro w hSw
                  go_simp
                  try with_reducible rfl
                try simp only [Act.put, List.setIfInBounds_toArray, List.set_cons_zero, List.set_cons_succ, List.getElem_toArray, List.getElem_cons_succ, List.getElem_cons_zero]
                refine wpAnyH_take (i := 7) (v := ?v36) rfl (by kernel_rfl) (by kernel_rfl) (by kernel_rfl) (fun _ _ _ h => h) (Or.inl ⟨by rfl, ?hy36⟩) (by assumption) ?rest36
                case hy36 =>
                  intro w hSw
                  go_simp
                  try with_reducible rfl
                try simp only [Act.put, List.setIfInBounds_toArray, List.set_cons_zero, List.set_cons_succ, List.getElem_toArray, List.getElem_cons_succ, List.getElem_cons_zero]
                refine wpAnyH_take (i := 8) (v := ?v37) rfl (by kernel_rfl) (by kernel_rfl) (by kernel_rfl) (fun _ _ _ h => h) (Or.inl ⟨by rfl, ?hy37⟩) (by assumption) ?rest37
                case hy37 =>
                  intro w hSw
                  go_simp
                  try with_reducible rfl
                try simp only [Act.put, List.setIfInBounds_toArray, List.set_cons_zero, List.set_cons_succ, List.getElem_toArray, List.getElem_cons_succ, List.getElem_cons_zero]
                refine wpAnyH_take (i := 9) (v := ?v38) rfl (by kernel_rfl) (by kernel_rfl) (by kernel_rfl) (fun _ _ _ h => h) (Or.inl ⟨by rfl, ?hy38⟩) (by assumption) ?rest38
                case hy38 =>
                  intro w hSw
                  go_simp
                  try with_reducible rfl
                try simp only [Act.put, List.setIfInBounds_toArray, List.set_cons_zero, List.set_cons_succ, List.getElem_toArray, List.getElem_cons_succ, List.getElem_cons_zero]
                refine wpAnyH_take (i := 12) (v := ?v39) rfl (by kernel_rfl) (by kernel_rfl) (by kernel_rfl) (fun _ _ _ h => h) (Or.inl ⟨by rfl, ?hy39⟩) (by assumption) ?rest39
                case hy39 =>
                  intro w hSw
                  go_simp
                  try with_reducible rfl
                try simp only [Act.put, List.setIfInBounds_toArray, List.set_cons_zero, List.set_cons_succ, List.getElem_toArray, List.getElem_cons_succ, List.getElem_cons_zero]
                refine wpAnyH_ready (rs := [5, 10]) (by kernel_rfl) (by simp) ?_
                refine (AllReadyH.cons rfl (fun K hK => ?_) (AllReadyH.cons rfl (fun K hK => ?_) AllReadyH.nil))
                · skip
                  go_simp
                  go_wp2_with fail; refine (unhide HST _ ((Only.refl _ _).drew)).mono ?_; rintro e w2 ⟨rfl, hw2⟩; subst hw2
                  refine hK.out _ _ (⟨k0, k1, k2⟩) (fun hHeld => ?_)
                  clear hK K
                  try simp only [Act.put, List.setIfInBounds_toArray, List.set_cons_zero, List.set_cons_succ, List.getElem_toArray, List.getElem_cons_succ, List.getElem_cons_zero]
                  refine wpAnyH_ready (rs := [10, 13]) (by kernel_rfl) (by simp) ?_
                  refine (AllReadyH.cons rfl (fun K hK => ?_) (AllReadyH.cons rfl (fun K hK => ?_) AllReadyH.nil))
                  · skip
                    go_simp
                    refine hK.out _ _ (⟨k0, k1, k2⟩) (fun hHeld => ?_)
                    clear hK K
                    try simp only [Act.put, List.setIfInBounds_toArray, List.set_cons_zero, List.set_cons_succ, List.getElem_toArray, List.getElem_cons_succ, List.getElem_cons_zero]
                    refine wpAnyH_take (i := 11) (v := ?v40) rfl (by kernel_rfl) (by kernel_rfl) (by kernel_rfl) (fun _ _ _ h => h) (Or.inl ⟨by rfl, ?hy40⟩) (by assumption) ?rest40
                    case hy40 =>
                      intro w hSw
                      go_simp
                      try with_reducible rfl
                    try simp only [Act.put, List.setIfInBounds_toArray, List.set_cons_zero, List.set_cons_succ, List.getElem_toArray, List.getElem_cons_succ, List.getElem_cons_zero]
                    refine wpAnyH_ready (rs := [13]) (by kernel_rfl) (by simp) ?_
                    refine AllReadyH.cons rfl (fun K hK => ?_) AllReadyH.nil
                    go_simp
                    go_wp2_with fail; refine (WO.mine_bytes ((unhide HM1).same ((Only.refl _ w1).drew)) (by rw [unhide HLL]; omega)).mono ?_; rintro e w3 ⟨y3, rfl, hy3⟩; have o13 : Only (fun _ => False) w1 w3 := ((Only.refl _ _).drew).trans hy3.only (fun _ _ e => e); obtain ⟨k0', k1', k2', kf'⟩ := cells_three (o13.heap (unhide HB1) (fun h => h)); have c3' := ((unhide HL1).same o13).lg.cells.2.2.2.1; have HY3 : Hid (Has w3 y3 (layAll us) ∧ ∀ j, blk y3 = some j → w1.heap.size ≤ j) := ⟨Has.ofOwns hy3.own, owns_fresh (w := w1.drew) hy3.own⟩; have HO13 := hide o13; clear hy3 o13
                    refine hK.out _ _ (⟨k0', k1', k2'⟩) (fun hHeld => ?_)
                    clear hK K
                    try simp only [Act.put, List.setIfInBounds_toArray, List.set_cons_zero, List.set_cons_succ, List.getElem_toArray, List.getElem_cons_succ, List.getElem_cons_zero]
                    refine wpAnyH_ready (rs := [14]) (by kernel_rfl) (by simp) ?_
                    refine AllReadyH.cons rfl (fun K hK => ?_) AllReadyH.nil
                    go_simp
                    go_wp2_with fail; refine (unhide HCO w3 (unhide HO13) y3 (unhide HY3).1 (fun _ j hj => by have := (unhide HY3).2 j hj; have := (unhide HL1).lt; exact ⟨fun e => by have := (unhide HL1).dk.lt j e; omega, by omega⟩)).mono ?_; rintro e w4 ⟨rfl, F4, hw4⟩; have HW4 := hide (((hw4.box (unhide HO13)).box (unhide HO1)).box (unhide HM).only); obtain ⟨k0'', k1'', k2'', kf''⟩ := cells_three ((hw4.box (unhide HO13)).only.heap (unhide HB1) (fun e => by have := (unhide HL).lt; rcases e with e | e; have := (unhide HL).dk.lt _ e; omega; omega)); clear hw4
                    refine hK.out _ _ (⟨k0'', k1'', k2''⟩) (fun hHeld => ?_)
                    clear hK K
                    try simp only [Act.put, List.setIfInBounds_toArray, List.set_cons_zero, List.set_cons_succ, List.getElem_toArray, List.getElem_cons_succ, List.getElem_cons_zero]
                    refine wpAnyH_take (i := 15) (v := ?v41) rfl (by kernel_rfl) (by kernel_rfl) (by kernel_rfl) (fun _ _ _ h => h) (Or.inl ⟨by rfl, ?hy41⟩) (by assumption) ?rest41
                    case hy41 =>
                      intro w hSw
                      go_simp
                      try with_reducible rfl
                    try simp only [Act.put, List.setIfInBounds_toArray, List.set_cons_zero, List.set_cons_succ, List.getElem_toArray, List.getElem_cons_succ, List.getElem_cons_zero]
                    refine wpAnyH_done (by kernel_rfl) ?_ _
                    go_wp2
                    go_ret
                    rw [unhide HRS]
                    exact ⟨rfl, F4, unhide HW4⟩
                  · skip
                    go_simp
                    go_wp2_with fail; refine (WO.mine_bytes ((unhide HM1).same ((Only.refl _ w1).drew)) (by rw [unhide HLL]; omega)).mono ?_; rintro e w3 ⟨y3, rfl, hy3⟩; have o13 : Only (fun _ => False) w1 w3 := ((Only.refl _ _).drew).trans hy3.only (fun _ _ e => e); obtain ⟨k0', k1', k2', kf'⟩ := cells_three (o13.heap (unhide HB1) (fun h => h)); have c3' := ((unhide HL1).same o13).lg.cells.2.2.2.1; have HY3 : Hid (Has w3 y3 (layAll us) ∧ ∀ j, blk y3 = some j → w1.heap.size ≤ j) := ⟨Has.ofOwns hy3.own, owns_fresh (w := w1.drew) hy3.own⟩; have HO13 := hide o13; clear hy3 o13
                    refine hK.out _ _ (⟨k0', k1', k2'⟩) (fun hHeld => ?_)
                    clear hK K
                    try simp only [Act.put, List.setIfInBounds_toArray, List.set_cons_zero, List.set_cons_succ, List.getElem_toArray, List.getElem_cons_succ, List.getElem_cons_zero]
                    refine wpAnyH_ready (rs := [10]) (by kernel_rfl) (by simp) ?_
                    refine AllReadyH.cons rfl (fun K hK => ?_) AllReadyH.nil
                    go_simp
                    refine hK.out _ _ (⟨k0', k1', k2'⟩) (fun hHeld => ?_)
                    clear hK K
                    try simp only [Act.put, List.setIfInBounds_toArray, List.set_cons_zero, List.set_cons_succ, List.getElem_toArray, List.getElem_cons_succ, List.getElem_cons_zero]
                    refine wpAnyH_take (i := 11) (v := ?v42) rfl (by kernel_rfl) (by kernel_rfl) (by kernel_rfl) (fun _ _ _ h => h) (Or.inl ⟨by rfl, ?hy42⟩) (by assumption) ?rest42
                    case hy42 =>
                      intro w hSw
                      go_simp
                      try with_reducible rfl
                    try simp only [Act.put, List.setIfInBounds_toArray, List.set_cons_zero, List.set_cons_succ, List.getElem_toArray, List.getElem_cons_succ, List.getElem_cons_zero]
                    refine wpAnyH_ready (rs := [14]) (by kernel_rfl) (by simp) ?_
                    refine AllReadyH.cons rfl (fun K hK => ?_) AllReadyH.nil
                    go_simp
                    go_wp2_with fail; refine (unhide HCO w3 (unhide HO13) y3 (unhide HY3).1 (fun _ j hj => by have := (unhide HY3).2 j hj; have := (unhide HL1).lt; exact ⟨fun e => by have := (unhide HL1).dk.lt j e; omega, by omega⟩)).mono ?_; rintro e w4 ⟨rfl, F4, hw4⟩; have HW4 := hide (((hw4.box (unhide HO13)).box (unhide HO1)).box (unhide HM).only); obtain ⟨k0'', k1'', k2'', kf''⟩ := cells_three ((hw4.box (unhide HO13)).only.heap (unhide HB1) (fun e => by have := (unhide HL).lt; rcases e with e | e; have := (unhide HL).dk.lt _ e; omega; omega)); clear hw4
                    refine hK.out _ _ (⟨k0'', k1'', k2''⟩) (fun hHeld => ?_)
                    clear hK K
                    try simp only [Act.put, List.setIfInBounds_toArray, List.set_cons_zero, List.set_cons_succ, List.getElem_toArray, List.getElem_cons_succ, List.getElem_cons_zero]
                    refine wpAnyH_take (i := 15) (v := ?v43) rfl (by kernel_rfl) (by kernel_rfl) (by kernel_rfl) (fun _ _ _ h => h) (Or.inl ⟨by rfl, ?hy43⟩) (by assumption) ?rest43
                    case hy43 =>
                      intro w hSw
                      go_simp
                      try with_reducible rfl
                    try simp only [Act.put, List.setIfInBounds_toArray, List.set_cons_zero, List.set_cons_succ, List.getElem_toArray, List.getElem_cons_succ, List.getElem_cons_zero]
                    refine wpAnyH_done (by kernel_rfl) ?_ _
                    go_wp2
                    go_ret
                    rw [unhide HRS]
                    exact ⟨rfl, F4, unhide HW4⟩
                · skip
                  go_simp
                  refine hK.out _ _ (⟨k0, k1, k2⟩) (fun hHeld => ?_)
                  clear hK K
                  try simp only [Act.put, List.setIfInBounds_toArray, List.set_cons_zero, List.set_cons_succ, List.getElem_toArray, List.getElem_cons_succ, List.getElem_cons_zero]
                  refine wpAnyH_ready (rs := [5]) (by kernel_rfl) (by simp) ?_
                  refine AllReadyH.cons rfl (fun K hK => ?_) AllReadyH.nil
                  go_simp
                  go_wp2_with fail; refine (unhide HST _ ((Only.refl _ _).drew)).mono ?_; rintro e w2 ⟨rfl, hw2⟩; subst hw2
                  refine hK.out _ _ (⟨k0, k1, k2⟩) (fun hHeld => ?_)
                  clear hK K
                  try simp only [Act.put, List.setIfInBounds_toArray, List.set_cons_zero, List.set_cons_succ, List.getElem_toArray, List.getElem_cons_succ, List.getElem_cons_zero]
                  refine wpAnyH_take (i := 11) (v := ?v44) rfl (by kernel_rfl) (by kernel_rfl) (by kernel_rfl) (fun _ _ _ h => h) (Or.inl ⟨by rfl, ?hy44⟩) (by assumption) ?rest44
                  case hy44 =>
                    intro w hSw
                    go_simp
                    try with_reducible rfl
                  try simp only [Act.put, List.setIfInBounds_toArray, List.set_cons_zero, List.set_cons_succ, List.getElem_toArray, List.getElem_cons_succ, List.getElem_cons_zero]
                  refine wpAnyH_ready (rs := [13]) (by kernel_rfl) (by simp) ?_
                  refine AllReadyH.cons rfl (fun K hK => ?_) AllReadyH.nil
                  go_simp
                  go_wp2_with fail; refine (WO.mine_bytes ((unhide HM1).same ((Only.refl _ w1).drew)) (by rw [unhide HLL]; omega)).mono ?_; rintro e w3 ⟨y3, rfl, hy3⟩; have o13 : Only (fun _ => False) w1 w3 := ((Only.refl _ _).drew).trans hy3.only (fun _ _ e => e); obtain ⟨k0', k1', k2', kf'⟩ := cells_three (o13.heap (unhide HB1) (fun h => h)); have c3' := ((unhide HL1).same o13).lg.cells.2.2.2.1; have HY3 : Hid (Has w3 y3 (layAll us) ∧ ∀ j, blk y3 = some j → w1.heap.size ≤ j) := ⟨Has.ofOwns hy3.own, owns_fresh (w := w1.drew) hy3.own⟩; have HO13 := hide o13; clear hy3 o13
                  refine hK.out _ _ (⟨k0', k1', k2'⟩) (fun hHeld => ?_)
                  clear hK K
                  try simp only [Act.put, List.setIfInBounds_toArray, List.set_cons_zero, List.set_cons_succ, List.getElem_toArray, List.getElem_cons_succ, List.getElem_cons_zero]
                  refine wpAnyH_ready (rs := [14]) (by kernel_rfl) (by simp) ?_
                  refine AllReadyH.cons rfl (fun K hK => ?_) AllReadyH.nil
                  go_simp
                  go_wp2_with fail; refine (unhide HCO w3 (unhide HO13) y3 (unhide HY3).1 (fun _ j hj => by have := (unhide HY3).2 j hj; have := (unhide HL1).lt; exact ⟨fun e => by have := (unhide HL1).dk.lt j e; omega, by omega⟩)).mono ?_; rintro e w4 ⟨rfl, F4, hw4⟩; have HW4 := hide (((hw4.box (unhide HO13)).box (unhide HO1)).box (unhide HM).only); obtain ⟨k0'', k1'', k2'', kf''⟩ := cells_three ((hw4.box (unhide HO13)).only.heap (unhide HB1) (fun e => by have := (unhide HL).lt; rcases e with e | e; have := (unhide HL).dk.lt _ e; omega; omega)); clear hw4
                  refine hK.out _ _ (⟨k0'', k1'', k2''⟩) (fun hHeld => ?_)
                  clear hK K
                  try simp only [Act.put, List.setIfInBounds_toArray, List.set_cons_zero, List.set_cons_succ, List.getElem_toArray, List.getElem_cons_succ, List.getElem_cons_zero]
                  refine wpAnyH_take (i := 15) (v := ?v45) rfl (by kernel_rfl) (by kernel_rfl) (by kernel_rfl) (fun _ _ _ h => h) (Or.inl ⟨by rfl, ?hy45⟩) (by assumption) ?rest45
                  case hy45 =>
                    intro w hSw
                    go_simp
                    try with_reducible rfl
                  try simp only [Act.put, List.setIfInBounds_toArray, List.set_cons_zero, List.set_cons_succ, List.getElem_toArray, List.getElem_cons_succ, List.getElem_cons_zero]
                  refine wpAnyH_done (by kernel_rfl) ?_ _
                  go_wp2
                  go_ret
                  rw [unhide HRS]
                  exact ⟨rfl, F4, unhide HW4⟩
end

end Wal
end Go.Proofs.Ytoffcbopolonoaa
