/-
  room as a place; Fits.
-/
import Derived.Test.YtmcobkcnpnfobaaStStore
namespace Go.Proofs.Ytmcobkcnpnfobaa
open Go.RowKit Go.Maps
set_option linter.unusedSimpArgs false
set_option linter.unusedVariables false

namespace St
open Wal (Lg Logs LWent)

/-- what is left of an area, and an area -/
structure RM where
  left : Nat
  half : Nat

def apR (s : RM) (u : List UInt8) : Int × RM := if s.left < Wal.size u then (2, s) else (0, ⟨s.left - Wal.size u, s.half⟩)
def reR (s : RM) (u : List UInt8) : Int × RM := if s.half < Wal.size u then (2, s) else (0, ⟨s.half - Wal.size u, s.half⟩)
def okR (_ : Nat) (s : RM) : Prop := s.left ≤ 3000 ∧ s.half ≤ 3000
def RAt (base rb : Nat) (w : World) (F : Nat → Prop) (s : RM) : Prop := w.heap[rb]? = some (.cells #[.int .i64 s.left, .int .i64 s.half] 80 (0, 0)) ∧ (F = fun k => k = rb) ∧ base ≤ rb

theorem meth_roomA (a : Value) (w : World) : Sem.run Try.prog (method 275 78 a "Append") w = .ok (116, a) w := by kernel_rfl
theorem meth_roomR (a : Value) (w : World) : Sem.run Try.prog (method 275 78 a "Reset") w = .ok (117, a) w := by kernel_rfl
theorem enter_roomA (args : Array Value) (w : World) : Sem.run Try.prog (callFunc 116 args) w = .ok (.enter 116 args) w := by kernel_rfl
theorem enter_roomR (args : Array Value) (w : World) : Sem.run Try.prog (callFunc 117 args) w = .ok (.enter 117 args) w := by kernel_rfl

/-- what room's calls leave -/
structure RWent (base rb : Nat) (w w' : World) (s : RM) : Prop where
  now : RAt base rb w' (fun k => k = rb) s
  only : Only (fun k => k = rb) w w'

set_option maxHeartbeats 1000000 in
set_option maxRecDepth 100000 in
theorem roomReset_any {base rb : Nat} {w : World} {F : Nat → Prop} {s : RM} (h : RAt base rb w F s) (xv : Value) (us : List UInt8) (hx : Has w xv us) (hu : us.length ≤ 100000000) (hok : okR 0 s) :
    Calls Try.prog 117 #[.pointer (some ⟨rb, 0, none⟩), xv] w fun e w' => e = .returned (.int .i64 (reR s us).1) ∧ RWent base rb w w' (reR s us).2 := by
  have H := hide h
  have HSZ := hide (Wal.size_any xv us w hx (by omega))
  obtain ⟨xo, xc, rfl, _⟩ := hx.shape
  obtain ⟨c0, c1, f0, f1⟩ := cells_two h.1
  have hs63 := Wal.secsOf_lt (8 + us.length)
  have hsz : Wal.size us ≤ 2000000 := by unfold Wal.size; omega
  obtain ⟨l, hf⟩ := s
  have hok1 := hok.1
  have hok2 := hok.2
  simp only at c0 c1 hok1 hok2
  clear h hx hok hs63
  have HRE : Hid (reR ⟨l, hf⟩ us = if hf < Wal.size us then (2, ⟨l, hf⟩) else (0, ⟨hf - Wal.size us, hf⟩)) := rfl
  generalize Wal.size us = z at *
  by_cases hfull : hf < z
  · rw [if_pos hfull] at HRE
    have hfi : (hf : Int) < z := by omega
    go_enter Try.func117, Try.ntmps117
    go_wp2_with fail
    refine (unhide HSZ).mono ?_
    rintro e w1 ⟨rfl, rfl⟩
    go_wp2
    go_ret
    rw [unhide HRE]
    exact ⟨rfl, ⟨(unhide H).1, rfl, (unhide H).2.2⟩, Only.refl _ _⟩
  · rw [if_neg hfull] at HRE
    have hfi : ¬ (hf : Int) < z := by omega
    have hsub : ((hf : Int) - z) = ((hf - z : Nat) : Int) := by omega
    go_enter Try.func117, Try.ntmps117
    go_wp2_with fail
    refine (unhide HSZ).mono ?_
    rintro e w1 ⟨rfl, rfl⟩
    go_wp2
    go_ret
    rw [unhide HRE]
    refine ⟨rfl, ⟨?_, rfl, (unhide H).2.2⟩, (Only.refl _ _).here 0 _⟩
    rw [two_setCell (unhide H).1]
    first | rfl | (rw [hsub]; rfl)

set_option maxHeartbeats 1000000 in
set_option maxRecDepth 100000 in
theorem roomAppend_any {base rb : Nat} {w : World} {F : Nat → Prop} {s : RM} (h : RAt base rb w F s) (xv : Value) (us : List UInt8) (hx : HasU (fun j => ¬ F j) w xv [us]) (hu : us.length ≤ 100000000) (hok : okR 0 s) :
    Calls Try.prog 116 #[.pointer (some ⟨rb, 0, none⟩), xv] w fun e w' => e = .returned (.int .i64 (apR s us).1) ∧ RWent base rb w w' (apR s us).2 := by
  have H := hide h
  obtain ⟨xo, xc, rfl, _⟩ := hx.shape
  obtain ⟨bb, off, x, rfl, hcx, hxh, _⟩ := hx.at 0 (by simp)
  simp only [List.getElem_cons_zero, Nat.add_zero] at hcx hxh
  have HSZ := hide (Wal.size_any x us w hxh (by omega))
  obtain ⟨yo, yc, rfl, _⟩ := hxh.shape
  obtain ⟨c0, c1, f0, f1⟩ := cells_two h.1
  have hs63 := Wal.secsOf_lt (8 + us.length)
  have hsz : Wal.size us ≤ 2000000 := by unfold Wal.size; omega
  obtain ⟨l, hf⟩ := s
  have hok1 := hok.1
  have hok2 := hok.2
  simp only at c0 c1 hok1 hok2
  clear h hx hxh hok hs63
  have HRE : Hid (apR ⟨l, hf⟩ us = if l < Wal.size us then (2, ⟨l, hf⟩) else (0, ⟨l - Wal.size us, hf⟩)) := rfl
  generalize Wal.size us = z at *
  simp only [List.length_singleton]
  go_enter Try.func116, Try.ntmps116
  go_wp2
  go_loop [5, 10] (fun s i => (i = .int .i64 0 ∧ s = .int .i64 0) ∨ (i = .int .i64 1 ∧ s = .int .i64 z)) (fun _ i => 1 - (intOf i).toNat)
  case atStart => exact Or.inl ⟨rfl, rfl⟩
  case round =>
    rcases hrel with ⟨rfl, rfl⟩ | ⟨rfl, rfl⟩
    · go_wp2_with fail
      refine (unhide HSZ).mono ?_
      rintro e w1 ⟨rfl, rfl⟩
      go_wp2
      go_round
      case rel => exact Or.inr ⟨rfl, by simp⟩
      case measure => simp [intOf]
    · by_cases hfull : l < z
      · rw [if_pos hfull] at HRE
        have hfi : (l : Int) < z := by omega
        go_wp2
        go_ret
        rw [unhide HRE]
        exact ⟨rfl, ⟨(unhide H).1, rfl, (unhide H).2.2⟩, Only.refl _ _⟩
      · rw [if_neg hfull] at HRE
        have hfi : ¬ (l : Int) < z := by omega
        have hsub : ((l : Int) - z) = ((l - z : Nat) : Int) := by omega
        go_wp2
        go_ret
        rw [unhide HRE]
        refine ⟨rfl, ⟨?_, rfl, (unhide H).2.2⟩, (Only.refl _ _).here 0 _⟩
        rw [two_setCell (unhide H).1]
        first | rfl | (rw [hsub]; rfl)

theorem apR_ok (s : RM) (u : List UInt8) (b c : Nat) (h : okR b s) : okR c (apR s u).2 := by
  unfold apR
  split
  · exact h
  · exact ⟨by have := h.1; show s.left - _ ≤ _; omega, h.2⟩
theorem reR_ok (s : RM) (u : List UInt8) (b c : Nat) (h : okR b s) : okR c (reR s u).2 := by
  unfold reR
  split
  · exact h
  · exact ⟨by have := h.2; show s.half - _ ≤ _; omega, h.2⟩

theorem plcR (base rb : Nat) : Plc base 78 (.pointer (some ⟨rb, 0, none⟩)) 116 117 (RAt base rb) apR reR okR where
  mA := meth_roomA _
  mR := meth_roomR _
  eA := enter_roomA
  eR := enter_roomR
  lt := by
    rintro w F s ⟨h, rfl, hb⟩ k e
    rw [e]
    exact ⟨hb, lt_of_block h⟩
  later := by
    rintro w w' F s S ⟨h, rfl, hb⟩ ho hS
    exact ⟨ho.heap h (fun e => (hS rb (lt_of_block h) e).2 rfl), rfl, hb⟩
  cA := by
    intro w F s xv u b h hx hu hok
    have hF := h.2.1
    refine (roomAppend_any h xv u hx hu hok).mono ?_
    rintro e w' ⟨rfl, hw⟩
    exact ⟨rfl, _, hw.now, by rw [hF]; exact hw.only, fun k e => Or.inl (by rw [hF]; exact e)⟩
  cR := by
    intro w F s xv u b h hx hxb hu hok
    have hF := h.2.1
    refine (roomReset_any h xv u hx hu hok).mono ?_
    rintro e w' ⟨rfl, hw⟩
    exact ⟨rfl, _, hw.now, by rw [hF]; exact hw.only, fun k e => Or.inl (by rw [hF]; exact e)⟩
  full := by
    intro s u h
    unfold apR at h ⊢
    split
    · rfl
    · rename_i h2
      rw [if_neg h2] at h
      simp at h
  okA := fun s u b h => apR_ok s u _ _ h
  okR := fun s u b h => reR_ok s u _ _ h
  okD := fun s b h => h

/-- would all be made sure of? -/
def fitsS (s : LD) (P : Prs) (u : Nat) (ls : List (List Chg)) : Bool := !s.l.dead && decide ((keepEachS apR reR ls ⟨s.d.half - s.l.hd.used, s.d.half⟩ P u).2.e = 0)

section
variable {w0 w w' : World} {B sb n : Nat} {X : Nat → Prop} {s : LD} {P : Prs} {u : Nat}

set_option maxHeartbeats 4000000 in
set_option maxRecDepth 100000 in
theorem fits_any (h : Stt w0 w B sb X s P u n) (xv : Value) (ls : List (List Chg)) (hx : HasCC (fun j => ¬ X j) w xv ls) (hn : n + tot ls ≤ 900000000) (hN : ls.length + u ≤ 1000000000) :
    Calls Try.prog 11 #[.pointer (some ⟨sb, 0, none⟩), xv] w fun e w' => e = .returned (.bool (fitsS s P u ls)) ∧ Only (fun _ => False) w w' := by
  obtain ⟨L, mb, F, hs, rfl⟩ := h
  obtain ⟨Fd, hl, hF⟩ := hs.k.plc
  have HDE := hide (dead_any hs)
  have hc := hs.c
  have c0 := hs.k.c0
  have c1 := hs.k.c1
  rw [show 1 + 1 = 2 from rfl] at c1
  have hslt := hs.k.slt
  have HX := hide hx
  obtain ⟨xo, xc, hxv, _⟩ := hx.shape
  subst hxv
  have HS := hide hs
  have HL := hide hl
  have hus := hl.fine.used
  have hhl := Wal.half_le s.d hl.dk.fine
  clear hs hl hx hF
  have HFS : Hid (fitsS s P u ls = (!s.l.dead && decide ((keepEachS apR reR ls ⟨s.d.half - s.l.hd.used, s.d.half⟩ P u).2.e = 0))) := rfl
  obtain ⟨dead, hdead⟩ : ∃ dead, dead = s.l.dead := ⟨_, rfl⟩
  rw [← hdead] at HDE HFS
  clear hdead
  cases dead with
  | true =>
    go_enter Try.func11, Try.ntmps11
    go_wp2_with fail
    refine (unhide HDE).mono ?_
    rintro e w1 ⟨rfl, rfl⟩
    go_wp2
    go_ret
    rw [unhide HFS]
    exact ⟨rfl, Only.refl _ _⟩
  | false =>
    have HSUB : Hid (((s.d.half : Int) - s.l.hd.used) = ((s.d.half - s.l.hd.used : Nat) : Int)) := by show ((s.d.half : Int) - s.l.hd.used) = _; omega
    have HCL : Hid (∀ (w' : World), Only (fun _ => False) w w' → Calls Try.prog 28 #[.map (some mb)] w' fun e w2 => e = .returned (.map (some w'.heap.size)) ∧ MapAt (fun j => j < w.heap.size) w2 w'.heap.size n P ∧ Only (fun _ => False) w w2 ∧ Only (fun _ => False) w' w2) := fun w' o =>
      (clone_any (((unhide HS).k.map.mono (U := fun j => j < w.heap.size) (fun j hj _ => hj)).same o)).mono (fun e w2 h => ⟨h.1, h.2.1, o.trans h.2.2 (fun _ _ e => e), h.2.2⟩)
    have c0a : ∀ o, (w.alloc o).cell? ⟨sb, 1, none⟩ = some (.map (some mb)) := fun o => by rw [World.cell?_alloc_past _ _ _ hslt]; exact c0
    have c1a : ∀ o, (w.alloc o).cell? ⟨sb, 2, none⟩ = some (.int .i64 u) := fun o => by rw [World.cell?_alloc_past _ _ _ hslt]; exact c1
    go_enter Try.func11, Try.ntmps11
    go_wp2_with fail
    refine (unhide HDE).mono ?_
    rintro e w1 ⟨rfl, rfl⟩
    go_wp2_with fail
    refine wp_region_held_drew (S := (fun w' => w'.cell? ⟨sb, 1, none⟩ = some (.map (some mb)) ∧ w'.cell? ⟨sb, 2, none⟩ = some (.int .i64 u))) (by kernel_rfl) (⟨c0, c1⟩) (fun hHeld => ?_)
    refine wpAnyH_take (i := 0) (v := ?v6) rfl (by kernel_rfl) (by kernel_rfl) (by kernel_rfl) (fun _ _ _ h => h) (Or.inl ⟨by rfl, ?hy6⟩) (by assumption) ?rest6
    case hy6 =>
      intro w hSw
      go_simp
      try with_reducible rfl
    try simp only [Act.put, List.setIfInBounds_toArray, List.set_cons_zero, List.set_cons_succ, List.getElem_toArray, List.getElem_cons_succ, List.getElem_cons_zero]
    refine wpAnyH_take (i := 1) (v := ?v7) rfl (by kernel_rfl) (by kernel_rfl) (by kernel_rfl) (fun _ _ _ h => h) (Or.inl ⟨by rfl, ?hy7⟩) (by assumption) ?rest7
    case hy7 =>
      intro w hSw
      go_simp
      try with_reducible rfl
    try simp only [Act.put, List.setIfInBounds_toArray, List.set_cons_zero, List.set_cons_succ, List.getElem_toArray, List.getElem_cons_succ, List.getElem_cons_zero]
    refine wpAnyH_take (i := 2) (v := ?v8) rfl (by kernel_rfl) (by kernel_rfl) (by kernel_rfl) (fun _ _ _ h => h) (Or.inl ⟨by rfl, ?hy8⟩) (by assumption) ?rest8
    case hy8 =>
      intro w hSw
      go_simp
      try with_reducible rfl
    try simp only [Act.put, List.setIfInBounds_toArray, List.set_cons_zero, List.set_cons_succ, List.getElem_toArray, List.getElem_cons_succ, List.getElem_cons_zero]
    refine wpAnyH_take (i := 3) (v := ?v9) rfl (by kernel_rfl) (by kernel_rfl) (by kernel_rfl) (fun _ _ _ h => h) (Or.inl ⟨by rfl, ?hy9⟩) (by assumption) ?rest9
    case hy9 =>
      intro w hSw
      go_simp
      try with_reducible rfl
    try simp only [Act.put, List.setIfInBounds_toArray, List.set_cons_zero, List.set_cons_succ, List.getElem_toArray, List.getElem_cons_succ, List.getElem_cons_zero]
    refine wpAnyH_take (i := 4) (v := ?v10) rfl (by kernel_rfl) (by kernel_rfl) (by kernel_rfl) (fun _ _ _ h => h) (Or.inl ⟨by rfl, ?hy10⟩) (by assumption) ?rest10
    case hy10 =>
      intro w hSw
      (obtain ⟨q0, q1⟩ := hSw; go_simp; try with_reducible rfl)
    try simp only [Act.put, List.setIfInBounds_toArray, List.set_cons_zero, List.set_cons_succ, List.getElem_toArray, List.getElem_cons_succ, List.getElem_cons_zero]
    refine wpAnyH_take (i := 6) (v := ?v11) rfl (by kernel_rfl) (by kernel_rfl) (by kernel_rfl) (fun _ _ _ h => h) (Or.inl ⟨by rfl, ?hy11⟩) (by assumption) ?rest11
    case hy11 =>
      intro w hSw
      go_simp
      try with_reducible rfl
    try simp only [Act.put, List.setIfInBounds_toArray, List.set_cons_zero, List.set_cons_succ, List.getElem_toArray, List.getElem_cons_succ, List.getElem_cons_zero]
    refine wpAnyH_take (i := 7) (v := ?v12) rfl (by kernel_rfl) (by kernel_rfl) (by kernel_rfl) (fun _ _ _ h => h) (Or.inl ⟨by rfl, ?hy12⟩) (by assumption) ?rest12
    case hy12 =>
      intro w hSw
      go_simp
      try with_reducible rfl
    try simp only [Act.put, List.setIfInBounds_toArray, List.set_cons_zero, List.set_cons_succ, List.getElem_toArray, List.getElem_cons_succ, List.getElem_cons_zero]
    refine wpAnyH_take (i := 8) (v := ?v13) rfl (by kernel_rfl) (by kernel_rfl) (by kernel_rfl) (fun _ _ _ h => h) (Or.inl ⟨by rfl, ?hy13⟩) (by assumption) ?rest13
    case hy13 =>
      intro w hSw
      go_simp
      try with_reducible rfl
    try simp only [Act.put, List.setIfInBounds_toArray, List.set_cons_zero, List.set_cons_succ, List.getElem_toArray, List.getElem_cons_succ, List.getElem_cons_zero]
    refine wpAnyH_take (i := 9) (v := ?v14) rfl (by kernel_rfl) (by kernel_rfl) (by kernel_rfl) (fun _ _ _ h => h) (Or.inl ⟨by rfl, ?hy14⟩) (by assumption) ?rest14
    case hy14 =>
      intro w hSw
      go_simp
      try with_reducible rfl
    try simp only [Act.put, List.setIfInBounds_toArray, List.set_cons_zero, List.set_cons_succ, List.getElem_toArray, List.getElem_cons_succ, List.getElem_cons_zero]
    refine wpAnyH_take (i := 10) (v := ?v15) rfl (by kernel_rfl) (by kernel_rfl) (by kernel_rfl) (fun _ _ _ h => h) (Or.inl ⟨by rfl, ?hy15⟩) (by assumption) ?rest15
    case hy15 =>
      intro w hSw
      (obtain ⟨q0, q1⟩ := hSw; go_simp; try with_reducible rfl)
    try simp only [Act.put, List.setIfInBounds_toArray, List.set_cons_zero, List.set_cons_succ, List.getElem_toArray, List.getElem_cons_succ, List.getElem_cons_zero]
    refine wpAnyH_ready (rs := [5, 12]) (by kernel_rfl) (by simp) ?_
    refine (AllReadyH.cons rfl (fun K hK => ?_) (AllReadyH.cons rfl (fun K hK => ?_) AllReadyH.nil))
    · skip
      go_simp
      go_wp2_with fail; refine (unhide HCL _ ((Only.refl _ _).drew)).mono ?_; rintro e w2 ⟨rfl, hm2, o2, o2'⟩; have e0 := o2.cell c0 (fun e => e); have e1 := o2.cell c1 (fun e => e)
      refine hK.out _ _ (⟨e0, e1⟩) (fun hHeld => ?_)
      clear hK K
      try simp only [Act.put, List.setIfInBounds_toArray, List.set_cons_zero, List.set_cons_succ, List.getElem_toArray, List.getElem_cons_succ, List.getElem_cons_zero]
      have hs2 := Nat.lt_of_lt_of_le hslt o2.size
      refine wpAnyH_take (i := 11) (v := ?v16) rfl (by kernel_rfl) (by kernel_rfl) (by kernel_rfl) (fun _ _ _ h => h) (Or.inl ⟨by rfl, ?hy16⟩) (by assumption) ?rest16
      case hy16 =>
        intro w hSw
        go_simp
        try with_reducible rfl
      try simp only [Act.put, List.setIfInBounds_toArray, List.set_cons_zero, List.set_cons_succ, List.getElem_toArray, List.getElem_cons_succ, List.getElem_cons_zero]
      have hsz2 : w1.heap.size < w2.heap.size := hm2.lt
      refine wpAnyH_ready (rs := [12]) (by kernel_rfl) (by simp) ?_
      refine AllReadyH.cons rfl (fun K hK => ?_) AllReadyH.nil
      go_simp
      refine hK.out _ _ (⟨by rw [World.cell?_alloc_past _ _ _ hs2]; exact e0, by rw [World.cell?_alloc_past _ _ _ hs2]; exact e1⟩) (fun hHeld => ?_)
      clear hK K
      try simp only [Act.put, List.setIfInBounds_toArray, List.set_cons_zero, List.set_cons_succ, List.getElem_toArray, List.getElem_cons_succ, List.getElem_cons_zero]
      have hBA := heap_alloc_new w2 (.cells #[.map none, .int .i64 0] 66)
      have oA2 := (Only.refl (fun _ => False) w2).alloc (.cells #[.map none, .int .i64 0] 66)
      generalize (w2.alloc (.cells #[.map none, .int .i64 0] 66)) = w3 at *
      obtain ⟨z0, z1, y0, y1⟩ := cells_two hBA
      have hslt2 : sb ≠ w2.heap.size := by omega
      have o3 : Only (fun k => k = w2.heap.size) w3 ((w3.setCell ⟨w2.heap.size, 0, none⟩ (.map (some w1.heap.size))).setCell ⟨w2.heap.size, 1, none⟩ (.int .i64 u)) := ((Only.refl _ w3).here 0 _).here 1 _
      have g0 := oA2.cell e0 (fun e => e)
      have g1 := oA2.cell e1 (fun e => e)
      refine wpAnyH_ready (rs := [13]) (by kernel_rfl) (by simp) ?_
      refine AllReadyH.cons rfl (fun K hK => ?_) AllReadyH.nil
      go_simp
      refine hK.out _ _ (⟨o3.cell g0 hslt2, o3.cell g1 hslt2⟩) (fun hHeld => ?_)
      clear hK K
      try simp only [Act.put, List.setIfInBounds_toArray, List.set_cons_zero, List.set_cons_succ, List.getElem_toArray, List.getElem_cons_succ, List.getElem_cons_zero]
      refine wpAnyH_done (by kernel_rfl) ?_ _
      have hBT : ((w3.setCell ⟨w2.heap.size, 0, none⟩ (.map (some w1.heap.size))).setCell ⟨w2.heap.size, 1, none⟩ (.int .i64 u)).heap[w2.heap.size]? = some (.cells #[.map (some w1.heap.size), .int .i64 u] 66 (0, 0)) := by rw [two_setCell (two_setCell hBA)]; rfl
      have oW : Only (fun _ => False) w1 ((w3.setCell ⟨w2.heap.size, 0, none⟩ (.map (some w1.heap.size))).setCell ⟨w2.heap.size, 1, none⟩ (.int .i64 u)) := (o2.trans oA2 (fun _ _ e => e)).trans o3 (fun i hi e => by have := o2.size; omega)
      obtain ⟨tb, htb⟩ : ∃ tb, tb = w2.heap.size := ⟨_, rfl⟩
      obtain ⟨nb, hnb⟩ : ∃ nb, nb = w1.heap.size := ⟨_, rfl⟩
      have hMW : MapAt (fun j => j < w1.heap.size) ((w3.setCell ⟨w2.heap.size, 0, none⟩ (.map (some w1.heap.size))).setCell ⟨w2.heap.size, 1, none⟩ (.int .i64 u)) nb n P := by rw [hnb]; exact (hm2.same oA2).only o3 (fun (e : w1.heap.size = w2.heap.size) => by omega) (fun k hk hv e => by have := o2.size; omega)
      have htn : w1.heap.size ≤ tb ∧ w1.heap.size ≤ nb ∧ tb ≠ nb := by omega
      generalize ((w3.setCell ⟨w2.heap.size, 0, none⟩ (.map (some w1.heap.size))).setCell ⟨w2.heap.size, 1, none⟩ (.int .i64 u)) = W at *
      rw [← htb] at hBT ⊢
      rw [← hnb] at hBT ⊢
      have HBT := hide hBT
      have HOW := hide oW
      have HMW := hide hMW
      clear hBT oW hMW htb hnb hHeld
      have hL1 := (unhide HOW).cell hc (fun e => e)
      have HLW := hide ((unhide HL).same (unhide HOW))
      go_wp2_with fail
      refine wp_region_held_drew (S := (fun w' => w'.cell? ⟨sb, 0, none⟩ = some (.pointer (some ⟨L, 0, none⟩)))) (by kernel_rfl) (hL1) (fun hHeld => ?_)
      refine wpAnyH_take (i := 0) (v := ?v17) rfl (by kernel_rfl) (by kernel_rfl) (by kernel_rfl) (fun _ _ _ h => h) (Or.inl ⟨by rfl, ?hy17⟩) (by assumption) ?rest17
      case hy17 =>
        intro w hSw
        go_simp
        try with_reducible rfl
      try simp only [Act.put, List.setIfInBounds_toArray, List.set_cons_zero, List.set_cons_succ, List.getElem_toArray, List.getElem_cons_succ, List.getElem_cons_zero]
      refine wpAnyH_take (i := 1) (v := ?v18) rfl (by kernel_rfl) (by kernel_rfl) (by kernel_rfl) (fun _ _ _ h => h) (Or.inl ⟨by rfl, ?hy18⟩) (by assumption) ?rest18
      case hy18 =>
        intro w hSw
        go_simp
        try with_reducible rfl
      try simp only [Act.put, List.setIfInBounds_toArray, List.set_cons_zero, List.set_cons_succ, List.getElem_toArray, List.getElem_cons_succ, List.getElem_cons_zero]
      refine wpAnyH_take (i := 2) (v := ?v19) rfl (by kernel_rfl) (by kernel_rfl) (by kernel_rfl) (fun _ _ _ h => h) (Or.inl ⟨by rfl, ?hy19⟩) (by assumption) ?rest19
      case hy19 =>
        intro w hSw
        go_simp
        try with_reducible rfl
      try simp only [Act.put, List.setIfInBounds_toArray, List.set_cons_zero, List.set_cons_succ, List.getElem_toArray, List.getElem_cons_succ, List.getElem_cons_zero]
      refine wpAnyH_take (i := 3) (v := ?v20) rfl (by kernel_rfl) (by kernel_rfl) (by kernel_rfl) (fun _ _ _ h => h) (Or.inl ⟨by rfl, ?hy20⟩) (by assumption) ?rest20
      case hy20 =>
        intro w hSw
        (go_simp; try with_reducible rfl)
      try simp only [Act.put, List.setIfInBounds_toArray, List.set_cons_zero, List.set_cons_succ, List.getElem_toArray, List.getElem_cons_succ, List.getElem_cons_zero]
      refine wpAnyH_take (i := 5) (v := ?v21) rfl (by kernel_rfl) (by kernel_rfl) (by kernel_rfl) (fun _ _ _ h => h) (Or.inl ⟨by rfl, ?hy21⟩) (by assumption) ?rest21
      case hy21 =>
        intro w hSw
        go_simp
        try with_reducible rfl
      try simp only [Act.put, List.setIfInBounds_toArray, List.set_cons_zero, List.set_cons_succ, List.getElem_toArray, List.getElem_cons_succ, List.getElem_cons_zero]
      refine wpAnyH_take (i := 6) (v := ?v22) rfl (by kernel_rfl) (by kernel_rfl) (by kernel_rfl) (fun _ _ _ h => h) (Or.inl ⟨by rfl, ?hy22⟩) (by assumption) ?rest22
      case hy22 =>
        intro w hSw
        go_simp
        try with_reducible rfl
      try simp only [Act.put, List.setIfInBounds_toArray, List.set_cons_zero, List.set_cons_succ, List.getElem_toArray, List.getElem_cons_succ, List.getElem_cons_zero]
      refine wpAnyH_take (i := 7) (v := ?v23) rfl (by kernel_rfl) (by kernel_rfl) (by kernel_rfl) (fun _ _ _ h => h) (Or.inl ⟨by rfl, ?hy23⟩) (by assumption) ?rest23
      case hy23 =>
        intro w hSw
        go_simp
        try with_reducible rfl
      try simp only [Act.put, List.setIfInBounds_toArray, List.set_cons_zero, List.set_cons_succ, List.getElem_toArray, List.getElem_cons_succ, List.getElem_cons_zero]
      refine wpAnyH_take (i := 8) (v := ?v24) rfl (by kernel_rfl) (by kernel_rfl) (by kernel_rfl) (fun _ _ _ h => h) (Or.inl ⟨by rfl, ?hy24⟩) (by assumption) ?rest24
      case hy24 =>
        intro w hSw
        (go_simp; try with_reducible rfl)
      try simp only [Act.put, List.setIfInBounds_toArray, List.set_cons_zero, List.set_cons_succ, List.getElem_toArray, List.getElem_cons_succ, List.getElem_cons_zero]
      refine wpAnyH_take (i := 13) (v := ?v25) rfl (by kernel_rfl) (by kernel_rfl) (by kernel_rfl) (fun _ _ _ h => h) (Or.inl ⟨by rfl, ?hy25⟩) (by assumption) ?rest25
      case hy25 =>
        intro w hSw
        go_simp
        try with_reducible rfl
      try simp only [Act.put, List.setIfInBounds_toArray, List.set_cons_zero, List.set_cons_succ, List.getElem_toArray, List.getElem_cons_succ, List.getElem_cons_zero]
      refine wpAnyH_ready (rs := [4]) (by kernel_rfl) (by simp) ?_
      refine AllReadyH.cons rfl (fun K hK => ?_) AllReadyH.nil
      go_simp
      go_wp2_with fail; refine (Wal.room_any ((unhide HLW).same ((Only.refl _ _).drew))).mono ?_; rintro e w4 ⟨rfl, q4, hq4⟩; have o4 : Only (fun _ => False) W w4 := (by rw [hq4]; exact ((Only.refl _ _).drew).trans (Only.drews q4) (fun _ _ e => e)); have hL4 := o4.cell hL1 (fun e => e); clear hq4
      refine hK.out _ _ (hL4) (fun hHeld => ?_)
      clear hK K
      try simp only [Act.put, List.setIfInBounds_toArray, List.set_cons_zero, List.set_cons_succ, List.getElem_toArray, List.getElem_cons_succ, List.getElem_cons_zero]
      refine wpAnyH_ready (rs := [9]) (by kernel_rfl) (by simp) ?_
      refine AllReadyH.cons rfl (fun K hK => ?_) AllReadyH.nil
      go_simp
      go_wp2_with fail; refine (Wal.half_any ((unhide HLW).same o4)).mono ?_; rintro e w5 ⟨rfl, hw5⟩; subst hw5
      refine hK.out _ _ (hL4) (fun hHeld => ?_)
      clear hK K
      try simp only [Act.put, List.setIfInBounds_toArray, List.set_cons_zero, List.set_cons_succ, List.getElem_toArray, List.getElem_cons_succ, List.getElem_cons_zero]
      rw [unhide HSUB]
      refine wpAnyH_take (i := 10) (v := ?v26) rfl (by kernel_rfl) (by kernel_rfl) (by kernel_rfl) (fun _ _ _ h => h) (Or.inl ⟨by rfl, ?hy26⟩) (by assumption) ?rest26
      case hy26 =>
        intro w hSw
        go_simp
        try with_reducible rfl
      try simp only [Act.put, List.setIfInBounds_toArray, List.set_cons_zero, List.set_cons_succ, List.getElem_toArray, List.getElem_cons_succ, List.getElem_cons_zero]
      have hBR := heap_alloc_new w5 (.cells #[.int .i64 ((s.d.half - s.l.hd.used : Nat) : Int), .int .i64 s.d.half] 80)
      have oR := (Only.refl (fun _ => False) w5).alloc (.cells #[.int .i64 ((s.d.half - s.l.hd.used : Nat) : Int), .int .i64 s.d.half] 80)
      refine wpAnyH_ready (rs := [11]) (by kernel_rfl) (by simp) ?_
      refine AllReadyH.cons rfl (fun K hK => ?_) AllReadyH.nil
      go_simp
      refine hK.out _ _ (oR.cell hL4 (fun e => e)) (fun hHeld => ?_)
      clear hK K
      try simp only [Act.put, List.setIfInBounds_toArray, List.set_cons_zero, List.set_cons_succ, List.getElem_toArray, List.getElem_cons_succ, List.getElem_cons_zero]
      generalize (w5.alloc (.cells #[.int .i64 ((s.d.half - s.l.hd.used : Nat) : Int), .int .i64 s.d.half] 80)) = w6 at *
      refine wpAnyH_take (i := 12) (v := ?v27) rfl (by kernel_rfl) (by kernel_rfl) (by kernel_rfl) (fun _ _ _ h => h) (Or.inl ⟨by rfl, ?hy27⟩) (by assumption) ?rest27
      case hy27 =>
        intro w hSw
        go_simp
        try with_reducible rfl
      try simp only [Act.put, List.setIfInBounds_toArray, List.set_cons_zero, List.set_cons_succ, List.getElem_toArray, List.getElem_cons_succ, List.getElem_cons_zero]
      have hltW : w1.heap.size ≤ W.heap.size := (unhide HOW).size
      have hsW := o4.size
      have htlt : tb < W.heap.size := lt_of_block (unhide HBT)
      have hnlt : nb < W.heap.size := (unhide HMW).lt
      have o46 : Only (fun _ => False) W w6 := o4.trans oR (fun _ _ e => e)
      have hK6 : KAt w1.heap.size (RAt w1.heap.size w5.heap.size) w6 (fun k => k = w5.heap.size) tb 0 nb n ⟨s.d.half - s.l.hd.used, s.d.half⟩ P u := by
        obtain ⟨t0, t1, _, _⟩ := cells_two (o46.heap (unhide HBT) (fun e => e))
        exact ⟨⟨hBR, rfl, by omega⟩, t0, t1, fun i => by simp [World.frozen?, o46.heap (unhide HBT) (fun e => e)], ((unhide HMW).same o46).mono (fun j hj (hv : j < w1.heap.size) => ⟨by show ¬ j = w5.heap.size; omega, by show ¬ j = tb; omega, by show ¬ j = nb; omega⟩), by omega, by omega, by omega, by omega, by omega⟩
      have hX6 : HasCC (fun j => ¬ j = w5.heap.size ∧ j ≠ tb ∧ j ≠ nb) w6 (.slice xo ls.length xc) ls := (((unhide HX).mono (R := fun j => j < w1.heap.size) (fun j hj _ => hj)).same ((unhide HOW).trans o46 (fun _ _ e => e))).mono (fun j _ hj => ⟨by omega, by omega, by omega⟩)
      have hKE := keepEach_any (plcR w1.heap.size w5.heap.size) hK6 _ ls hX6 hn hN 0 ⟨by show s.d.half - s.l.hd.used ≤ 3000; omega, by show s.d.half ≤ 3000; omega⟩
      refine wpAnyH_ready (rs := [14]) (by kernel_rfl) (by simp) ?_
      refine AllReadyH.cons rfl (fun K hK => ?_) AllReadyH.nil
      go_simp
      go_wp2_with fail; refine hKE.mono ?_; rintro e w8 ⟨rfl, hw8⟩; have o8 : Only (fun _ => False) w1 w8 := ((unhide HOW).trans o46 (fun _ _ e => e)).trans hw8.only (fun i hi e => by rcases e with e | e | e <;> omega); have hL8 := o8.cell hc (fun e => e); have HO8 := hide o8; clear hw8 o8
      refine hK.out _ _ (hL8) (fun hHeld => ?_)
      clear hK K
      try simp only [Act.put, List.setIfInBounds_toArray, List.set_cons_zero, List.set_cons_succ, List.getElem_toArray, List.getElem_cons_succ, List.getElem_cons_zero]
      refine wpAnyH_take (i := 15) (v := ?v28) rfl (by kernel_rfl) (by kernel_rfl) (by kernel_rfl) (fun _ _ _ h => h) (Or.inl ⟨by rfl, ?hy28⟩) (by assumption) ?rest28
      case hy28 =>
        intro w hSw
        go_simp
        try with_reducible rfl
      try simp only [Act.put, List.setIfInBounds_toArray, List.set_cons_zero, List.set_cons_succ, List.getElem_toArray, List.getElem_cons_succ, List.getElem_cons_zero]
      refine wpAnyH_take (i := 16) (v := ?v29) rfl (by kernel_rfl) (by kernel_rfl) (by kernel_rfl) (fun _ _ _ h => h) (Or.inl ⟨by rfl, ?hy29⟩) (by assumption) ?rest29
      case hy29 =>
        intro w hSw
        go_simp
        try with_reducible rfl
      try simp only [Act.put, List.setIfInBounds_toArray, List.set_cons_zero, List.set_cons_succ, List.getElem_toArray, List.getElem_cons_succ, List.getElem_cons_zero]
      refine wpAnyH_take (i := 17) (v := ?v30) rfl (by kernel_rfl) (by kernel_rfl) (by kernel_rfl) (fun _ _ _ h => h) (Or.inl ⟨by rfl, ?hy30⟩) (by assumption) ?rest30
      case hy30 =>
        intro w hSw
        go_simp
        try with_reducible rfl
      try simp only [Act.put, List.setIfInBounds_toArray, List.set_cons_zero, List.set_cons_succ, List.getElem_toArray, List.getElem_cons_succ, List.getElem_cons_zero]
      refine wpAnyH_take (i := 18) (v := ?v31) rfl (by kernel_rfl) (by kernel_rfl) (by kernel_rfl) (fun _ _ _ h => h) (Or.inl ⟨by rfl, ?hy31⟩) (by assumption) ?rest31
      case hy31 =>
        intro w hSw
        go_simp
        try with_reducible rfl
      try simp only [Act.put, List.setIfInBounds_toArray, List.set_cons_zero, List.set_cons_succ, List.getElem_toArray, List.getElem_cons_succ, List.getElem_cons_zero]
      refine wpAnyH_take (i := 19) (v := ?v32) rfl (by kernel_rfl) (by kernel_rfl) (by kernel_rfl) (fun _ _ _ h => h) (Or.inl ⟨by rfl, ?hy32⟩) (by assumption) ?rest32
      case hy32 =>
        intro w hSw
        go_simp
        try with_reducible rfl
      try simp only [Act.put, List.setIfInBounds_toArray, List.set_cons_zero, List.set_cons_succ, List.getElem_toArray, List.getElem_cons_succ, List.getElem_cons_zero]
      refine wpAnyH_done (by kernel_rfl) ?_ _
      clear hHeld
      go_wp2
      go_ret
      rw [unhide HFS]
      exact ⟨by simp; rfl, unhide HO8⟩
    · skip
      have hBA : (w1.alloc (.cells #[.map none, .int .i64 0] 66)).drew.heap[w1.heap.size]? = some (.cells #[.map none, .int .i64 0] 66 (0, 0)) := heap_alloc_new w1 _
      have oA2 : Only (fun _ => False) w1 (w1.alloc (.cells #[.map none, .int .i64 0] 66)).drew := ((Only.refl _ _).alloc _).drew
      have hsz1 : (w1.alloc (.cells #[.map none, .int .i64 0] 66)).drew.heap.size = w1.heap.size + 1 := by simp
      go_simp
      refine hK.out _ _ (⟨oA2.cell c0 (fun e => e), oA2.cell c1 (fun e => e)⟩) (fun hHeld => ?_)
      clear hK K
      try simp only [Act.put, List.setIfInBounds_toArray, List.set_cons_zero, List.set_cons_succ, List.getElem_toArray, List.getElem_cons_succ, List.getElem_cons_zero]
      generalize (w1.alloc (.cells #[.map none, .int .i64 0] 66)).drew = w3 at *
      refine wpAnyH_ready (rs := [5]) (by kernel_rfl) (by simp) ?_
      refine AllReadyH.cons rfl (fun K hK => ?_) AllReadyH.nil
      go_simp
      go_wp2_with fail; refine (unhide HCL _ oA2).mono ?_; rintro e w2 ⟨rfl, hm2, o2, o2'⟩; have e0 := o2.cell c0 (fun e => e); have e1 := o2.cell c1 (fun e => e)
      refine hK.out _ _ (⟨e0, e1⟩) (fun hHeld => ?_)
      clear hK K
      try simp only [Act.put, List.setIfInBounds_toArray, List.set_cons_zero, List.set_cons_succ, List.getElem_toArray, List.getElem_cons_succ, List.getElem_cons_zero]
      rw [hsz1] at hm2
      have hsz2 : w1.heap.size + 1 < w2.heap.size := hm2.lt
      have hBB := o2'.heap hBA (fun e => e)
      obtain ⟨z0, z1, y0, y1⟩ := cells_two hBB
      have hslt2 : sb ≠ w1.heap.size := by omega
      have o3 : Only (fun k => k = w1.heap.size) w2 ((w2.setCell ⟨w1.heap.size, 0, none⟩ (.map (some (w1.heap.size + 1)))).setCell ⟨w1.heap.size, 1, none⟩ (.int .i64 u)) := ((Only.refl _ w2).here 0 _).here 1 _
      refine wpAnyH_take (i := 11) (v := ?v33) rfl (by kernel_rfl) (by kernel_rfl) (by kernel_rfl) (fun _ _ _ h => h) (Or.inl ⟨by rfl, ?hy33⟩) (by assumption) ?rest33
      case hy33 =>
        intro w hSw
        go_simp
        try with_reducible rfl
      try simp only [Act.put, List.setIfInBounds_toArray, List.set_cons_zero, List.set_cons_succ, List.getElem_toArray, List.getElem_cons_succ, List.getElem_cons_zero]
      refine wpAnyH_ready (rs := [13]) (by kernel_rfl) (by simp) ?_
      refine AllReadyH.cons rfl (fun K hK => ?_) AllReadyH.nil
      go_simp
      refine hK.out _ _ (⟨o3.cell e0 hslt2, o3.cell e1 hslt2⟩) (fun hHeld => ?_)
      clear hK K
      try simp only [Act.put, List.setIfInBounds_toArray, List.set_cons_zero, List.set_cons_succ, List.getElem_toArray, List.getElem_cons_succ, List.getElem_cons_zero]
      refine wpAnyH_done (by kernel_rfl) ?_ _
      have hBT : ((w2.setCell ⟨w1.heap.size, 0, none⟩ (.map (some (w1.heap.size + 1)))).setCell ⟨w1.heap.size, 1, none⟩ (.int .i64 u)).heap[w1.heap.size]? = some (.cells #[.map (some (w1.heap.size + 1)), .int .i64 u] 66 (0, 0)) := by rw [two_setCell (two_setCell hBB)]; rfl
      have oW : Only (fun _ => False) w1 ((w2.setCell ⟨w1.heap.size, 0, none⟩ (.map (some (w1.heap.size + 1)))).setCell ⟨w1.heap.size, 1, none⟩ (.int .i64 u)) := o2.trans o3 (fun i hi e => by omega)
      obtain ⟨tb, htb⟩ : ∃ tb, tb = w1.heap.size := ⟨_, rfl⟩
      obtain ⟨nb, hnb⟩ : ∃ nb, nb = w1.heap.size + 1 := ⟨_, rfl⟩
      have hMW : MapAt (fun j => j < w1.heap.size) ((w2.setCell ⟨w1.heap.size, 0, none⟩ (.map (some (w1.heap.size + 1)))).setCell ⟨w1.heap.size, 1, none⟩ (.int .i64 u)) nb n P := by rw [hnb]; exact hm2.only o3 (fun e => by omega) (fun k hk hv e => by omega)
      have htn : w1.heap.size ≤ tb ∧ w1.heap.size ≤ nb ∧ tb ≠ nb := by omega
      generalize ((w2.setCell ⟨w1.heap.size, 0, none⟩ (.map (some (w1.heap.size + 1)))).setCell ⟨w1.heap.size, 1, none⟩ (.int .i64 u)) = W at *
      rw [← hnb] at hBT ⊢
      rw [← htb] at hBT ⊢
      have HBT := hide hBT
      have HOW := hide oW
      have HMW := hide hMW
      clear hBT oW hMW htb hnb hHeld
      have hL1 := (unhide HOW).cell hc (fun e => e)
      have HLW := hide ((unhide HL).same (unhide HOW))
      go_wp2_with fail
      refine wp_region_held_drew (S := (fun w' => w'.cell? ⟨sb, 0, none⟩ = some (.pointer (some ⟨L, 0, none⟩)))) (by kernel_rfl) (hL1) (fun hHeld => ?_)
      refine wpAnyH_take (i := 0) (v := ?v34) rfl (by kernel_rfl) (by kernel_rfl) (by kernel_rfl) (fun _ _ _ h => h) (Or.inl ⟨by rfl, ?hy34⟩) (by assumption) ?rest34
      case hy34 =>
        intro w hSw
        go_simp
        try with_reducible rfl
      try simp only [Act.put, List.setIfInBounds_toArray, List.set_cons_zero, List.set_cons_succ, List.getElem_toArray, List.getElem_cons_succ, List.getElem_cons_zero]
      refine wpAnyH_take (i := 1) (v := ?v35) rfl (by kernel_rfl) (by kernel_rfl) (by kernel_rfl) (fun _ _ _ h => h) (Or.inl ⟨by rfl, ?hy35⟩) (by assumption) ?rest35
      case hy35 =>
        intro w hSw
        go_simp
        try with_reducible rfl
      try simp only [Act.put, List.setIfInBounds_toArray, List.set_cons_zero, List.set_cons_succ, List.getElem_toArray, List.getElem_cons_succ, List.getElem_cons_zero]
      refine wpAnyH_take (i := 2) (v := ?v36) rfl (by kernel_rfl) (by kernel_rfl) (by kernel_rfl) (fun _ _ _ h => h) (Or.inl ⟨by rfl, ?hy36⟩) (by assumption) ?rest36
      case hy36 =>
        intro w hSw
        go_simp
        try with_reducible rfl
      try simp only [Act.put, List.setIfInBounds_toArray, List.set_cons_zero, List.set_cons_succ, List.getElem_toArray, List.getElem_cons_succ, List.getElem_cons_zero]
      refine wpAnyH_take (i := 3) (v := ?v37) rfl (by kernel_rfl) (by kernel_rfl) (by kernel_rfl) (fun _ _ _ h => h) (Or.inl ⟨by rfl, ?hy37⟩) (by assumption) ?rest37
      case hy37 =>
        intro w hSw
        (go_simp; try with_reducible rfl)
      try simp only [Act.put, List.setIfInBounds_toArray, List.set_cons_zero, List.set_cons_succ, List.getElem_toArray, List.getElem_cons_succ, List.getElem_cons_zero]
      refine wpAnyH_take (i := 5) (v := ?v38) rfl (by kernel_rfl) (by kernel_rfl) (by kernel_rfl) (fun _ _ _ h => h) (Or.inl ⟨by rfl, ?hy38⟩) (by assumption) ?rest38
      case hy38 =>
        intro w hSw
        go_simp
        try with_reducible rfl
      try simp only [Act.put, List.setIfInBounds_toArray, List.set_cons_zero, List.set_cons_succ, List.getElem_toArray, List.getElem_cons_succ, List.getElem_cons_zero]
      refine wpAnyH_take (i := 6) (v := ?v39) rfl (by kernel_rfl) (by kernel_rfl) (by kernel_rfl) (fun _ _ _ h => h) (Or.inl ⟨by rfl, ?hy39⟩) (by assumption) ?rest39
      case hy39 =>
        intro w hSw
        go_simp
        try with_reducible rfl
      try simp only [Act.put, List.setIfInBounds_toArray, List.set_cons_zero, List.set_cons_succ, List.getElem_toArray, List.getElem_cons_succ, List.getElem_cons_zero]
      refine wpAnyH_take (i := 7) (v := ?v40) rfl (by kernel_rfl) (by kernel_rfl) (by kernel_rfl) (fun _ _ _ h => h) (Or.inl ⟨by rfl, ?hy40⟩) (by assumption) ?rest40
      case hy40 =>
        intro w hSw
        go_simp
        try with_reducible rfl
      try simp only [Act.put, List.setIfInBounds_toArray, List.set_cons_zero, List.set_cons_succ, List.getElem_toArray, List.getElem_cons_succ, List.getElem_cons_zero]
      refine wpAnyH_take (i := 8) (v := ?v41) rfl (by kernel_rfl) (by kernel_rfl) (by kernel_rfl) (fun _ _ _ h => h) (Or.inl ⟨by rfl, ?hy41⟩) (by assumption) ?rest41
      case hy41 =>
        intro w hSw
        (go_simp; try with_reducible rfl)
      try simp only [Act.put, List.setIfInBounds_toArray, List.set_cons_zero, List.set_cons_succ, List.getElem_toArray, List.getElem_cons_succ, List.getElem_cons_zero]
      refine wpAnyH_take (i := 13) (v := ?v42) rfl (by kernel_rfl) (by kernel_rfl) (by kernel_rfl) (fun _ _ _ h => h) (Or.inl ⟨by rfl, ?hy42⟩) (by assumption) ?rest42
      case hy42 =>
        intro w hSw
        go_simp
        try with_reducible rfl
      try simp only [Act.put, List.setIfInBounds_toArray, List.set_cons_zero, List.set_cons_succ, List.getElem_toArray, List.getElem_cons_succ, List.getElem_cons_zero]
      refine wpAnyH_ready (rs := [4]) (by kernel_rfl) (by simp) ?_
      refine AllReadyH.cons rfl (fun K hK => ?_) AllReadyH.nil
      go_simp
      go_wp2_with fail; refine (Wal.room_any ((unhide HLW).same ((Only.refl _ _).drew))).mono ?_; rintro e w4 ⟨rfl, q4, hq4⟩; have o4 : Only (fun _ => False) W w4 := (by rw [hq4]; exact ((Only.refl _ _).drew).trans (Only.drews q4) (fun _ _ e => e)); have hL4 := o4.cell hL1 (fun e => e); clear hq4
      refine hK.out _ _ (hL4) (fun hHeld => ?_)
      clear hK K
      try simp only [Act.put, List.setIfInBounds_toArray, List.set_cons_zero, List.set_cons_succ, List.getElem_toArray, List.getElem_cons_succ, List.getElem_cons_zero]
      refine wpAnyH_ready (rs := [9]) (by kernel_rfl) (by simp) ?_
      refine AllReadyH.cons rfl (fun K hK => ?_) AllReadyH.nil
      go_simp
      go_wp2_with fail; refine (Wal.half_any ((unhide HLW).same o4)).mono ?_; rintro e w5 ⟨rfl, hw5⟩; subst hw5
      refine hK.out _ _ (hL4) (fun hHeld => ?_)
      clear hK K
      try simp only [Act.put, List.setIfInBounds_toArray, List.set_cons_zero, List.set_cons_succ, List.getElem_toArray, List.getElem_cons_succ, List.getElem_cons_zero]
      rw [unhide HSUB]
      refine wpAnyH_take (i := 10) (v := ?v43) rfl (by kernel_rfl) (by kernel_rfl) (by kernel_rfl) (fun _ _ _ h => h) (Or.inl ⟨by rfl, ?hy43⟩) (by assumption) ?rest43
      case hy43 =>
        intro w hSw
        go_simp
        try with_reducible rfl
      try simp only [Act.put, List.setIfInBounds_toArray, List.set_cons_zero, List.set_cons_succ, List.getElem_toArray, List.getElem_cons_succ, List.getElem_cons_zero]
      have hBR := heap_alloc_new w5 (.cells #[.int .i64 ((s.d.half - s.l.hd.used : Nat) : Int), .int .i64 s.d.half] 80)
      have oR := (Only.refl (fun _ => False) w5).alloc (.cells #[.int .i64 ((s.d.half - s.l.hd.used : Nat) : Int), .int .i64 s.d.half] 80)
      refine wpAnyH_ready (rs := [11]) (by kernel_rfl) (by simp) ?_
      refine AllReadyH.cons rfl (fun K hK => ?_) AllReadyH.nil
      go_simp
      refine hK.out _ _ (oR.cell hL4 (fun e => e)) (fun hHeld => ?_)
      clear hK K
      try simp only [Act.put, List.setIfInBounds_toArray, List.set_cons_zero, List.set_cons_succ, List.getElem_toArray, List.getElem_cons_succ, List.getElem_cons_zero]
      generalize (w5.alloc (.cells #[.int .i64 ((s.d.half - s.l.hd.used : Nat) : Int), .int .i64 s.d.half] 80)) = w6 at *
      refine wpAnyH_take (i := 12) (v := ?v44) rfl (by kernel_rfl) (by kernel_rfl) (by kernel_rfl) (fun _ _ _ h => h) (Or.inl ⟨by rfl, ?hy44⟩) (by assumption) ?rest44
      case hy44 =>
        intro w hSw
        go_simp
        try with_reducible rfl
      try simp only [Act.put, List.setIfInBounds_toArray, List.set_cons_zero, List.set_cons_succ, List.getElem_toArray, List.getElem_cons_succ, List.getElem_cons_zero]
      have hltW : w1.heap.size ≤ W.heap.size := (unhide HOW).size
      have hsW := o4.size
      have htlt : tb < W.heap.size := lt_of_block (unhide HBT)
      have hnlt : nb < W.heap.size := (unhide HMW).lt
      have o46 : Only (fun _ => False) W w6 := o4.trans oR (fun _ _ e => e)
      have hK6 : KAt w1.heap.size (RAt w1.heap.size w5.heap.size) w6 (fun k => k = w5.heap.size) tb 0 nb n ⟨s.d.half - s.l.hd.used, s.d.half⟩ P u := by
        obtain ⟨t0, t1, _, _⟩ := cells_two (o46.heap (unhide HBT) (fun e => e))
        exact ⟨⟨hBR, rfl, by omega⟩, t0, t1, fun i => by simp [World.frozen?, o46.heap (unhide HBT) (fun e => e)], ((unhide HMW).same o46).mono (fun j hj (hv : j < w1.heap.size) => ⟨by show ¬ j = w5.heap.size; omega, by show ¬ j = tb; omega, by show ¬ j = nb; omega⟩), by omega, by omega, by omega, by omega, by omega⟩
      have hX6 : HasCC (fun j => ¬ j = w5.heap.size ∧ j ≠ tb ∧ j ≠ nb) w6 (.slice xo ls.length xc) ls := (((unhide HX).mono (R := fun j => j < w1.heap.size) (fun j hj _ => hj)).same ((unhide HOW).trans o46 (fun _ _ e => e))).mono (fun j _ hj => ⟨by omega, by omega, by omega⟩)
      have hKE := keepEach_any (plcR w1.heap.size w5.heap.size) hK6 _ ls hX6 hn hN 0 ⟨by show s.d.half - s.l.hd.used ≤ 3000; omega, by show s.d.half ≤ 3000; omega⟩
      refine wpAnyH_ready (rs := [14]) (by kernel_rfl) (by simp) ?_
      refine AllReadyH.cons rfl (fun K hK => ?_) AllReadyH.nil
      go_simp
      go_wp2_with fail; refine hKE.mono ?_; rintro e w8 ⟨rfl, hw8⟩; have o8 : Only (fun _ => False) w1 w8 := ((unhide HOW).trans o46 (fun _ _ e => e)).trans hw8.only (fun i hi e => by rcases e with e | e | e <;> omega); have hL8 := o8.cell hc (fun e => e); have HO8 := hide o8; clear hw8 o8
      refine hK.out _ _ (hL8) (fun hHeld => ?_)
      clear hK K
      try simp only [Act.put, List.setIfInBounds_toArray, List.set_cons_zero, List.set_cons_succ, List.getElem_toArray, List.getElem_cons_succ, List.getElem_cons_zero]
      refine wpAnyH_take (i := 15) (v := ?v45) rfl (by kernel_rfl) (by kernel_rfl) (by kernel_rfl) (fun _ _ _ h => h) (Or.inl ⟨by rfl, ?hy45⟩) (by assumption) ?rest45
      case hy45 =>
        intro w hSw
        go_simp
        try with_reducible rfl
      try simp only [Act.put, List.setIfInBounds_toArray, List.set_cons_zero, List.set_cons_succ, List.getElem_toArray, List.getElem_cons_succ, List.getElem_cons_zero]
      refine wpAnyH_take (i := 16) (v := ?v46) rfl (by kernel_rfl) (by kernel_rfl) (by kernel_rfl) (fun _ _ _ h => h) (Or.inl ⟨by rfl, ?hy46⟩) (by assumption) ?rest46
      case hy46 =>
        intro w hSw
        go_simp
        try with_reducible rfl
      try simp only [Act.put, List.setIfInBounds_toArray, List.set_cons_zero, List.set_cons_succ, List.getElem_toArray, List.getElem_cons_succ, List.getElem_cons_zero]
      refine wpAnyH_take (i := 17) (v := ?v47) rfl (by kernel_rfl) (by kernel_rfl) (by kernel_rfl) (fun _ _ _ h => h) (Or.inl ⟨by rfl, ?hy47⟩) (by assumption) ?rest47
      case hy47 =>
        intro w hSw
        go_simp
        try with_reducible rfl
      try simp only [Act.put, List.setIfInBounds_toArray, List.set_cons_zero, List.set_cons_succ, List.getElem_toArray, List.getElem_cons_succ, List.getElem_cons_zero]
      refine wpAnyH_take (i := 18) (v := ?v48) rfl (by kernel_rfl) (by kernel_rfl) (by kernel_rfl) (fun _ _ _ h => h) (Or.inl ⟨by rfl, ?hy48⟩) (by assumption) ?rest48
      case hy48 =>
        intro w hSw
        go_simp
        try with_reducible rfl
      try simp only [Act.put, List.setIfInBounds_toArray, List.set_cons_zero, List.set_cons_succ, List.getElem_toArray, List.getElem_cons_succ, List.getElem_cons_zero]
      refine wpAnyH_take (i := 19) (v := ?v49) rfl (by kernel_rfl) (by kernel_rfl) (by kernel_rfl) (fun _ _ _ h => h) (Or.inl ⟨by rfl, ?hy49⟩) (by assumption) ?rest49
      case hy49 =>
        intro w hSw
        go_simp
        try with_reducible rfl
      try simp only [Act.put, List.setIfInBounds_toArray, List.set_cons_zero, List.set_cons_succ, List.getElem_toArray, List.getElem_cons_succ, List.getElem_cons_zero]
      refine wpAnyH_done (by kernel_rfl) ?_ _
      clear hHeld
      go_wp2
      go_ret
      rw [unhide HFS]
      exact ⟨by simp; rfl, unhide HO8⟩
end
end St
end Go.Proofs.Ytmcobkcnpnfobaa
