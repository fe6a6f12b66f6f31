/-
  wal's commit.
-/
import Derived.Test.YtoffcbopolonoaaWalWrite
namespace Go.Proofs.Ytoffcbopolonoaa
open Go.RowKit
set_option linter.unusedSimpArgs false
set_option linter.unusedVariables false
namespace Wal

theorem LWent.box {w0 w w1 w' : World} {F F' : Nat → Prop} {B L : Nat} {d' : Dk} {l' : Lg} (ho : Only (fun _ => False) w w1) (h : LWent w0 w1 w' F F' B L d' l') : LWent w0 w w' F F' B L d' l' :=
  ⟨h.lg, (ho.mono (fun _ _ e => e.elim)).trans h.only (fun _ _ e => e), fun k e => by have := ho.size; rcases h.grew k e with e | e; exact Or.inl e; exact Or.inr (by omega)⟩

theorem LWent.same {w0 w w1 w' : World} {F F' : Nat → Prop} {B L : Nat} {d' : Dk} {l' : Lg} (h : LWent w0 w w1 F F' B L d' l') (ho : Only (fun _ => False) w1 w') : LWent w0 w w' F F' B L d' l' :=
  ⟨h.lg.same ho, h.only.trans ho (fun _ _ e => e.elim), h.grew⟩

/-- a log's dead mark is set -/
theorem LgAt.kill {w : World} {L B : Nat} {l : Lg} (h : LgAt w L B l) : LgAt (w.setCell ⟨L, 5, none⟩ (.bool true)) L B { l with dead := true } := by
  unfold LgAt
  rw [two_setCell h]
  rfl

theorem LWent.turn {w0 w w1 w2 : World} {F F' : Nat → Prop} {B L : Nat} {d' : Dk} {l' l2 : Lg} (h : LWent w0 w w1 F F' B L d' l') (ha : LgAt w2 L B l2) (o2 : Only (fun k => k = L) w1 w2) (hf : l2.Fine d'.half) : LWent w0 w w2 F F' B L d' l2 := by
  have h2 := h.lg.put (Only.refl _ _) l2 ha o2 hf
  exact ⟨h2.1, h.only.trans o2 (fun _ _ e => Or.inr e), h.grew⟩

section
variable {w0 w w' : World} {F : Nat → Prop} {B L : Nat} {d : Dk} {l : Lg}

set_option maxHeartbeats 1000000 in
theorem commit_any (h : Logs w0 w F B L d l) (hd : Hd) (hE : hd.epoch < 18446744073709551616) (hA : hd.area ≤ 1) (hU : hd.used ≤ d.half) (at' : Nat) (hat : at' ≤ 100000) (xv : Value) (laid : List UInt8) (hx : Has w xv laid) (hxb : laid ≠ [] → ∀ j, blk xv = some j → ¬ F j ∧ j ≠ L) (hll : laid.length ≤ 10000000) (hwk : d.works + laid.length / 64 + 3 ≤ 900000) :
    Calls Try.prog 44 #[.pointer (some ⟨L, 0, none⟩), hv hd, .int .i64 at', xv] w fun e w' => e = .returned (.int .i64 (commit l d hd at' laid).e) ∧ ∃ F', LWent w0 w w' F F' B L (commit l d hd at' laid).dk (commit l d hd at' laid).lg := by
  have hh := half_le d h.dk.fine
  have hfn := h.fine.next
  have H := hide h
  have HX := hide hx
  have HXB := hide hxb
  have hoL : ¬ L = w.heap.size := by have := h.lt; omega
  have hFH : ¬ F w.heap.size := fun e => by have := h.dk.lt _ e; omega
  unfold hv
  clear h hx hxb
  obtain ⟨xo, xc, hxv, _⟩ := (unhide HX).shape
  subst hxv
  go_enter Try.func44, Try.ntmps44
  go_wp2_with fail
  have hB := heap_alloc_new w (.cells #[.int .u64 hd.epoch, .int .i64 hd.area, .int .i64 hd.used] 36)
  have o1 := (Only.refl (fun _ => False) w).alloc (.cells #[.int .u64 hd.epoch, .int .i64 hd.area, .int .i64 hd.used] 36)
  generalize w.alloc (.cells #[.int .u64 hd.epoch, .int .i64 hd.area, .int .i64 hd.used] 36) = w1 at *
  have HB := hide hB
  have HO1 := hide o1
  have HWA := hide (write_any ((unhide H).same o1) at' hat _ laid ((unhide HX).only o1 (fun _ _ _ h => h)) (unhide HXB) hll (by omega))
  have hwl := wr_len d at' laid
  have hww := wr_works d at' laid
  have HCM : Hid (commit l d hd at' laid = let b := if (wr d at' laid).2 = 0 then wr (wr d at' laid).1 l.next hd.lay else wr d at' laid; if b.2 = 0 then ⟨⟨hd, 1 - l.next, l.dead⟩, b.1, 0⟩ else ⟨{ l with dead := true }, b.1, b.2⟩) := rfl
  obtain ⟨da, hda⟩ : ∃ da, da = (wr d at' laid).1 := ⟨_, rfl⟩
  obtain ⟨ea, hea⟩ : ∃ ea, ea = (wr d at' laid).2 := ⟨_, rfl⟩
  have hpair : wr d at' laid = (da, ea) := by rw [hda, hea]
  rw [hpair] at HCM HWA hwl hww
  simp only at HCM HWA hwl hww
  have HLN := hide hwl
  clear hpair hda hea hB o1 hwl
  refine (unhide HWA).mono ?_
  rintro e w2 ⟨rfl, F2, hw2⟩
  have HW2 := hide (hw2.box (unhide HO1))
  have HB2 := hide (hw2.only.heap (unhide HB) (fun e => by rcases e with e | e; exact hFH e; exact hoL e.symm))
  have hF2 : ¬ F2 w.heap.size := fun e => by
    rcases hw2.grew _ e with e | e
    · exact hFH e
    · have := lt_of_block (unhide HB); omega
  clear hw2 HWA
  by_cases hea : ea = 0
  · rw [if_pos hea] at HCM
    subst hea
    obtain ⟨c0, c1, c2, c3, c4, c5, cf⟩ := (unhide HW2).lg.lg.cells
    obtain ⟨k0, k1, k2, kf⟩ := cells_three (unhide HB2)
    have hwl := wr_len da l.next hd.lay
    have hww2 := wr_works da l.next hd.lay
    rw [Hd.lay_length] at hww2
    have HWB := hide (fun (w3 : World) (F3 : Nat → Prop) (hl3 : Logs w0 w3 F3 B L da l) (y : Value) (hy : Has w3 y hd.lay) (hyb : hd.lay ≠ [] → ∀ j, blk y = some j → ¬ F3 j ∧ j ≠ L) => write_any hl3 l.next (by omega) y hd.lay hy hyb (by rw [Hd.lay_length]; decide) (by rw [Hd.lay_length]; omega))
    obtain ⟨db, hdb⟩ : ∃ db, db = (wr da l.next hd.lay).1 := ⟨_, rfl⟩
    obtain ⟨eb, heb⟩ : ∃ eb, eb = (wr da l.next hd.lay).2 := ⟨_, rfl⟩
    have hpair : wr da l.next hd.lay = (db, eb) := by rw [hdb, heb]
    rw [hpair] at HCM HWB hwl hww2
    simp only at HCM HWB hwl hww2
    have HLN2 := hide hwl
    clear hpair hdb heb hwl
    go_wp2_with fail
    refine wp_region_held_drew (S := (fun w' => w'.cell? ⟨L, 4, none⟩ = some (.int .i64 l.next) ∧ w'.cell? ⟨w.heap.size, 0, none⟩ = some (.int .u64 hd.epoch) ∧ w'.cell? ⟨w.heap.size, 1, none⟩ = some (.int .i64 hd.area) ∧ w'.cell? ⟨w.heap.size, 2, none⟩ = some (.int .i64 hd.used))) (by kernel_rfl) (⟨c4, k0, k1, k2⟩) (fun hHeld => ?_)
    refine wpAnyH_take (i := 0) (v := ?v16) rfl (by kernel_rfl) (by kernel_rfl) (by kernel_rfl) (fun _ _ _ h => h) (Or.inl ⟨by rfl, ?hy16⟩) (by assumption) ?rest16
    case hy16 =>
      intro w hSw
      go_simp
      try with_reducible rfl
    try simp only [Act.put, List.setIfInBounds_toArray, List.set_cons_zero, List.set_cons_succ, List.getElem_toArray, List.getElem_cons_succ, List.getElem_cons_zero]
    refine wpAnyH_take (i := 1) (v := ?v17) rfl (by kernel_rfl) (by kernel_rfl) (by kernel_rfl) (fun _ _ _ h => h) (Or.inl ⟨by rfl, ?hy17⟩) (by assumption) ?rest17
    case hy17 =>
      intro w hSw
      go_simp
      try with_reducible rfl
    try simp only [Act.put, List.setIfInBounds_toArray, List.set_cons_zero, List.set_cons_succ, List.getElem_toArray, List.getElem_cons_succ, List.getElem_cons_zero]
    refine wpAnyH_take (i := 2) (v := ?v18) rfl (by kernel_rfl) (by kernel_rfl) (by kernel_rfl) (fun _ _ _ h => h) (Or.inl ⟨by rfl, ?hy18⟩) (by assumption) ?rest18
    case hy18 =>
      intro w hSw
      go_simp
      try with_reducible rfl
    try simp only [Act.put, List.setIfInBounds_toArray, List.set_cons_zero, List.set_cons_succ, List.getElem_toArray, List.getElem_cons_succ, List.getElem_cons_zero]
    refine wpAnyH_take (i := 3) (v := ?v19) rfl (by kernel_rfl) (by kernel_rfl) (by kernel_rfl) (fun _ _ _ h => h) (Or.inl ⟨by rfl, ?hy19⟩) (by assumption) ?rest19
    case hy19 =>
      intro w hSw
      go_simp
      try with_reducible rfl
    try simp only [Act.put, List.setIfInBounds_toArray, List.set_cons_zero, List.set_cons_succ, List.getElem_toArray, List.getElem_cons_succ, List.getElem_cons_zero]
    refine wpAnyH_take (i := 4) (v := ?v20) rfl (by kernel_rfl) (by kernel_rfl) (by kernel_rfl) (fun _ _ _ h => h) (Or.inl ⟨by rfl, ?hy20⟩) (by assumption) ?rest20
    case hy20 =>
      intro w hSw
      (obtain ⟨q4, q0, q1, q2⟩ := hSw; go_simp; try with_reducible rfl)
    try simp only [Act.put, List.setIfInBounds_toArray, List.set_cons_zero, List.set_cons_succ, List.getElem_toArray, List.getElem_cons_succ, List.getElem_cons_zero]
    refine wpAnyH_take (i := 5) (v := ?v21) rfl (by kernel_rfl) (by kernel_rfl) (by kernel_rfl) (fun _ _ _ h => h) (Or.inl ⟨by rfl, ?hy21⟩) (by assumption) ?rest21
    case hy21 =>
      intro w hSw
      (obtain ⟨q4, q0, q1, q2⟩ := hSw; go_simp; try with_reducible rfl)
    try simp only [Act.put, List.setIfInBounds_toArray, List.set_cons_zero, List.set_cons_succ, List.getElem_toArray, List.getElem_cons_succ, List.getElem_cons_zero]
    refine wpAnyH_ready (rs := [6]) (by kernel_rfl) (by simp) ?_
    refine AllReadyH.cons rfl (fun K hK => ?_) AllReadyH.nil
    go_simp
    go_wp2_with fail; refine (headLay_any hd _ hE (by omega) (by omega)).mono ?_; rintro e w3 ⟨y3, rfl, hy3, o3⟩; have o23 : Only (fun _ => False) w2 w3 := ((Only.refl _ _).drew).trans o3 (fun _ _ e => e); have HW3 := hide ((unhide HW2).same o23); have HB3 := hide (o23.heap (unhide HB2) (fun h => h)); have c4' := (unhide HW3).lg.lg.cells.2.2.2.2.1; obtain ⟨k0', k1', k2', kf'⟩ := cells_three (unhide HB3); have HY3 : Hid (Has w3 y3 hd.lay ∧ ∀ j, blk y3 = some j → w2.heap.size ≤ j) := ⟨Has.ofOwns hy3.out, owns_fresh hy3⟩; clear hy3
    refine hK.out _ _ (⟨c4', k0', k1', k2'⟩) (fun hHeld => ?_)
    clear hK K
    try simp only [Act.put, List.setIfInBounds_toArray, List.set_cons_zero, List.set_cons_succ, List.getElem_toArray, List.getElem_cons_succ, List.getElem_cons_zero]
    refine wpAnyH_ready (rs := [7]) (by kernel_rfl) (by simp) ?_
    refine AllReadyH.cons rfl (fun K hK => ?_) AllReadyH.nil
    go_simp
    go_wp2_with fail; refine (unhide HWB w3 F2 (unhide HW3).lg y3 (unhide HY3).1 (fun _ j hj => by have := (unhide HY3).2 j hj; have h1 := (unhide HW2).lg.lt; exact ⟨fun e => by have := (unhide HW2).lg.dk.lt j e; omega, by omega⟩)).mono ?_; rintro e w4 ⟨rfl, F4, hw4⟩; have HW4 := hide ((unhide HW3).trans hw4); have HB4 := hide (hw4.only.heap (unhide HB3) (fun e => by rcases e with e | e; exact hF2 e; exact hoL e.symm)); have c4'' := (unhide HW4).lg.lg.cells.2.2.2.2.1; obtain ⟨k0'', k1'', k2'', kf''⟩ := cells_three (unhide HB4)
    refine hK.out _ _ (⟨c4'', k0'', k1'', k2''⟩) (fun hHeld => ?_)
    clear hK K
    try simp only [Act.put, List.setIfInBounds_toArray, List.set_cons_zero, List.set_cons_succ, List.getElem_toArray, List.getElem_cons_succ, List.getElem_cons_zero]
    refine wpAnyH_take (i := 8) (v := ?v22) rfl (by kernel_rfl) (by kernel_rfl) (by kernel_rfl) (fun _ _ _ h => h) (Or.inl ⟨by rfl, ?hy22⟩) (by assumption) ?rest22
    case hy22 =>
      intro w hSw
      go_simp
      try with_reducible rfl
    try simp only [Act.put, List.setIfInBounds_toArray, List.set_cons_zero, List.set_cons_succ, List.getElem_toArray, List.getElem_cons_succ, List.getElem_cons_zero]
    refine wpAnyH_done (by kernel_rfl) ?_ _
    clear c0 c1 c2 c3 c4 c5 cf k0 k1 k2 kf c4' k0' k1' k2' kf' c4'' k0'' k1'' k2'' kf'' hw4 o3 o23
    obtain ⟨c0, c1, c2, c3, c4, c5, cf⟩ := (unhide HW4).lg.lg.cells
    obtain ⟨k0, k1, k2, kf⟩ := cells_three (unhide HB4)
    by_cases heb : eb = 0
    · rw [if_pos heb] at HCM
      subst heb
      have HNX : Hid ((1 : Int) - l.next = ((1 - l.next : Nat) : Int)) := by show (1 : Int) - l.next = ((1 - l.next : Nat) : Int); omega
      go_wp2_with fail
      go_region
      rw [unhide HNX]
      have hP := (unhide HW4).lg.lg.put hd (1 - l.next)
      have hPO := Only.put (Only.refl (fun k => k = L) w4) (fun _ => rfl) (.int .u64 hd.epoch) (.int .i64 hd.area) (.int .i64 hd.used) (.int .i64 ((1 - l.next : Nat) : Int))
      generalize (((w4.setCell ⟨L, 1, none⟩ (.int .u64 hd.epoch)).setCell ⟨L, 2, none⟩ (.int .i64 hd.area)).setCell ⟨L, 3, none⟩ (.int .i64 hd.used)).setCell ⟨L, 4, none⟩ (.int .i64 ((1 - l.next : Nat) : Int)) = w5 at *
      have hF4 : db.half = d.half := half_len ((unhide HLN2).trans (unhide HLN))
      have HFIN := hide ((unhide HW4).turn (w2 := w5.drew) hP hPO.drew ⟨hE, hA, by rw [hF4]; exact hU, by show 1 - l.next ≤ 1; omega⟩)
      clear hP hPO hF4
      go_wp2
      go_ret
      rw [unhide HCM]
      exact ⟨rfl, F4, unhide HFIN⟩
    · rw [if_neg heb] at HCM
      go_wp2
      go_ret
      rw [unhide HCM]
      exact ⟨rfl, F4, (unhide HW4).turn (unhide HW4).lg.lg.kill ((Only.refl _ _).here _ _) ⟨(unhide HW4).lg.fine.epoch, (unhide HW4).lg.fine.area, (unhide HW4).lg.fine.used, (unhide HW4).lg.fine.next⟩⟩
  · rw [if_neg hea] at HCM
    simp only [if_neg hea] at HCM
    obtain ⟨c0, c1, c2, c3, c4, c5, cf⟩ := (unhide HW2).lg.lg.cells
    go_wp2
    go_ret
    rw [unhide HCM]
    exact ⟨rfl, F2, (unhide HW2).turn (unhide HW2).lg.lg.kill ((Only.refl _ _).here _ _) ⟨(unhide HW2).lg.fine.epoch, (unhide HW2).lg.fine.area, (unhide HW2).lg.fine.used, (unhide HW2).lg.fine.next⟩⟩
end

end Wal
end Go.Proofs.Ytoffcbopolonoaa
