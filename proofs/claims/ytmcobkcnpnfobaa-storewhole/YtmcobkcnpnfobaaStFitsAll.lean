/-
  room as a place; Fits.
  A store over a disk that does not fall: plain.
  StoreFits: what is said to fit is made sure of, as long as nothing falls.
-/
import Derived.Test.YtmcobkcnpnfobaaStStore
import Derived.Test.YtmcobkcnpnfobaaStKnown
import Derived.Test.YtmcobkcnpnfobaaStListAll
namespace Go.Proofs.Ytmcobkcnpnfobaa
open Go.RowKit Go.Maps
set_option linter.unusedSimpArgs false
set_option linter.unusedVariables false

namespace St
open Wal (Lg Logs LWent)

/-- what is left of an area, and an area -/
structure RM where
  left : Nat
  half : Nat

def apR (s : RM) (u : List UInt8) : Int × RM := if s.left < Wal.size u then (2, s) else (0, ⟨s.left - Wal.size u, s.half⟩)
def reR (s : RM) (u : List UInt8) : Int × RM := if s.half < Wal.size u then (2, s) else (0, ⟨s.half - Wal.size u, s.half⟩)
def okR (_ : Nat) (s : RM) : Prop := s.left ≤ 3000 ∧ s.half ≤ 3000
def RAt (base rb : Nat) (w : World) (F : Nat → Prop) (s : RM) : Prop := w.heap[rb]? = some (.cells #[.int .i64 s.left, .int .i64 s.half] 80 (0, 0)) ∧ (F = fun k => k = rb) ∧ base ≤ rb

theorem meth_roomA (a : Value) (w : World) : Sem.run Try.prog (method 275 78 a "Append") w = .ok (116, a) w := by kernel_rfl
theorem meth_roomR (a : Value) (w : World) : Sem.run Try.prog (method 275 78 a "Reset") w = .ok (117, a) w := by kernel_rfl
theorem enter_roomA (args : Array Value) (w : World) : Sem.run Try.prog (callFunc 116 args) w = .ok (.enter 116 args) w := by kernel_rfl
theorem enter_roomR (args : Array Value) (w : World) : Sem.run Try.prog (callFunc 117 args) w = .ok (.enter 117 args) w := by kernel_rfl

/-- what room's calls leave -/
structure RWent (base rb : Nat) (w w' : World) (s : RM) : Prop where
  now : RAt base rb w' (fun k => k = rb) s
  only : Only (fun k => k = rb) w w'

set_option maxHeartbeats 1000000 in
set_option maxRecDepth 100000 in
theorem roomReset_any {base rb : Nat} {w : World} {F : Nat → Prop} {s : RM} (h : RAt base rb w F s) (xv : Value) (us : List UInt8) (hx : Has w xv us) (hu : us.length ≤ 100000000) (hok : okR 0 s) :
    Calls Try.prog 117 #[.pointer (some ⟨rb, 0, none⟩), xv] w fun e w' => e = .returned (.int .i64 (reR s us).1) ∧ RWent base rb w w' (reR s us).2 := by
  have H := hide h
  have HSZ := hide (Wal.size_any xv us w hx (by omega))
  obtain ⟨xo, xc, rfl, _⟩ := hx.shape
  obtain ⟨c0, c1, f0, f1⟩ := cells_two h.1
  have hs63 := Wal.secsOf_lt (8 + us.length)
  have hsz : Wal.size us ≤ 2000000 := by unfold Wal.size; omega
  obtain ⟨l, hf⟩ := s
  have hok1 := hok.1
  have hok2 := hok.2
  simp only at c0 c1 hok1 hok2
  clear h hx hok hs63
  have HRE : Hid (reR ⟨l, hf⟩ us = if hf < Wal.size us then (2, ⟨l, hf⟩) else (0, ⟨hf - Wal.size us, hf⟩)) := rfl
  generalize Wal.size us = z at *
  by_cases hfull : hf < z
  · rw [if_pos hfull] at HRE
    have hfi : (hf : Int) < z := by omega
    go_enter Try.func117, Try.ntmps117
    go_wp2_with fail
    refine (unhide HSZ).mono ?_
    rintro e w1 ⟨rfl, rfl⟩
    go_wp2
    go_ret
    rw [unhide HRE]
    exact ⟨rfl, ⟨(unhide H).1, rfl, (unhide H).2.2⟩, Only.refl _ _⟩
  · rw [if_neg hfull] at HRE
    have hfi : ¬ (hf : Int) < z := by omega
    have hsub : ((hf : Int) - z) = ((hf - z : Nat) : Int) := by omega
    go_enter Try.func117, Try.ntmps117
    go_wp2_with fail
    refine (unhide HSZ).mono ?_
    rintro e w1 ⟨rfl, rfl⟩
    go_wp2
    go_ret
    rw [unhide HRE]
    refine ⟨rfl, ⟨?_, rfl, (unhide H).2.2⟩, (Only.refl _ _).here 0 _⟩
    rw [two_setCell (unhide H).1]
    first | rfl | (rw [hsub]; rfl)

set_option maxHeartbeats 1000000 in
set_option maxRecDepth 100000 in
theorem roomAppend_any {base rb : Nat} {w : World} {F : Nat → Prop} {s : RM} (h : RAt base rb w F s) (xv : Value) (us : List UInt8) (hx : HasU (fun j => ¬ F j) w xv [us]) (hu : us.length ≤ 100000000) (hok : okR 0 s) :
    Calls Try.prog 116 #[.pointer (some ⟨rb, 0, none⟩), xv] w fun e w' => e = .returned (.int .i64 (apR s us).1) ∧ RWent base rb w w' (apR s us).2 := by
  have H := hide h
  obtain ⟨xo, xc, rfl, _⟩ := hx.shape
  obtain ⟨bb, off, x, rfl, hcx, hxh, _⟩ := hx.at 0 (by simp)
  simp only [List.getElem_cons_zero, Nat.add_zero] at hcx hxh
  have HSZ := hide (Wal.size_any x us w hxh (by omega))
  obtain ⟨yo, yc, rfl, _⟩ := hxh.shape
  obtain ⟨c0, c1, f0, f1⟩ := cells_two h.1
  have hs63 := Wal.secsOf_lt (8 + us.length)
  have hsz : Wal.size us ≤ 2000000 := by unfold Wal.size; omega
  obtain ⟨l, hf⟩ := s
  have hok1 := hok.1
  have hok2 := hok.2
  simp only at c0 c1 hok1 hok2
  clear h hx hxh hok hs63
  have HRE : Hid (apR ⟨l, hf⟩ us = if l < Wal.size us then (2, ⟨l, hf⟩) else (0, ⟨l - Wal.size us, hf⟩)) := rfl
  generalize Wal.size us = z at *
  simp only [List.length_singleton]
  go_enter Try.func116, Try.ntmps116
  go_wp2
  go_loop [5, 10] (fun s i => (i = .int .i64 0 ∧ s = .int .i64 0) ∨ (i = .int .i64 1 ∧ s = .int .i64 z)) (fun _ i => 1 - (intOf i).toNat)
  case atStart => exact Or.inl ⟨rfl, rfl⟩
  case round =>
    rcases hrel with ⟨rfl, rfl⟩ | ⟨rfl, rfl⟩
    · go_wp2_with fail
      refine (unhide HSZ).mono ?_
      rintro e w1 ⟨rfl, rfl⟩
      go_wp2
      go_round
      case rel => exact Or.inr ⟨rfl, by simp⟩
      case measure => simp [intOf]
    · by_cases hfull : l < z
      · rw [if_pos hfull] at HRE
        have hfi : (l : Int) < z := by omega
        go_wp2
        go_ret
        rw [unhide HRE]
        exact ⟨rfl, ⟨(unhide H).1, rfl, (unhide H).2.2⟩, Only.refl _ _⟩
      · rw [if_neg hfull] at HRE
        have hfi : ¬ (l : Int) < z := by omega
        have hsub : ((l : Int) - z) = ((l - z : Nat) : Int) := by omega
        go_wp2
        go_ret
        rw [unhide HRE]
        refine ⟨rfl, ⟨?_, rfl, (unhide H).2.2⟩, (Only.refl _ _).here 0 _⟩
        rw [two_setCell (unhide H).1]
        first | rfl | (rw [hsub]; rfl)

theorem apR_ok (s : RM) (u : List UInt8) (b c : Nat) (h : okR b s) : okR c (apR s u).2 := by
  unfold apR
  split
  · exact h
  · exact ⟨by have := h.1; show s.left - _ ≤ _; omega, h.2⟩
theorem reR_ok (s : RM) (u : List UInt8) (b c : Nat) (h : okR b s) : okR c (reR s u).2 := by
  unfold reR
  split
  · exact h
  · exact ⟨by have := h.2; show s.half - _ ≤ _; omega, h.2⟩

theorem plcR (base rb : Nat) : Plc base 78 (.pointer (some ⟨rb, 0, none⟩)) 116 117 (RAt base rb) apR reR okR where
  mA := meth_roomA _
  mR := meth_roomR _
  eA := enter_roomA
  eR := enter_roomR
  lt := by
    rintro w F s ⟨h, rfl, hb⟩ k e
    rw [e]
    exact ⟨hb, lt_of_block h⟩
  later := by
    rintro w w' F s S ⟨h, rfl, hb⟩ ho hS
    exact ⟨ho.heap h (fun e => (hS rb (lt_of_block h) e).2 rfl), rfl, hb⟩
  cA := by
    intro w F s xv u b h hx hu hok
    have hF := h.2.1
    refine (roomAppend_any h xv u hx hu hok).mono ?_
    rintro e w' ⟨rfl, hw⟩
    exact ⟨rfl, _, hw.now, by rw [hF]; exact hw.only, fun k e => Or.inl (by rw [hF]; exact e)⟩
  cR := by
    intro w F s xv u b h hx hxb hu hok
    have hF := h.2.1
    refine (roomReset_any h xv u hx hu hok).mono ?_
    rintro e w' ⟨rfl, hw⟩
    exact ⟨rfl, _, hw.now, by rw [hF]; exact hw.only, fun k e => Or.inl (by rw [hF]; exact e)⟩
  full := by
    intro s u h
    unfold apR at h ⊢
    split
    · rfl
    · rename_i h2
      rw [if_neg h2] at h
      simp at h
  okA := fun s u b h => apR_ok s u _ _ h
  okR := fun s u b h => reR_ok s u _ _ h
  okD := fun s b h => h

/-- would all be made sure of? -/
def fitsS (s : LD) (P : Prs) (u : Nat) (ls : List (List Chg)) : Bool := !s.l.dead && decide ((keepEachS apR reR ls ⟨s.d.half - s.l.hd.used, s.d.half⟩ P u).2.e = 0)

section
variable {w0 w w' : World} {B sb n : Nat} {X : Nat → Prop} {s : LD} {P : Prs} {u : Nat}

set_option maxHeartbeats 4000000 in
set_option maxRecDepth 100000 in
theorem fits_any (h : Stt w0 w B sb X s P u n) (xv : Value) (ls : List (List Chg)) (hx : HasCC (fun j => ¬ X j) w xv ls) (hn : n + tot ls ≤ 900000000) (hN : ls.length + u ≤ 1000000000) :
    Calls Try.prog 11 #[.pointer (some ⟨sb, 0, none⟩), xv] w fun e w' => e = .returned (.bool (fitsS s P u ls)) ∧ Only (fun _ => False) w w' := by
  obtain ⟨L, mb, F, hs, rfl⟩ := h
  obtain ⟨Fd, hl, hF⟩ := hs.k.plc
  have HDE := hide (dead_any hs)
  have hc := hs.c
  have c0 := hs.k.c0
  have c1 := hs.k.c1
  rw [show 1 + 1 = 2 from rfl] at c1
  have hslt := hs.k.slt
  have HX := hide hx
  obtain ⟨xo, xc, hxv, _⟩ := hx.shape
  subst hxv
  have HS := hide hs
  have HL := hide hl
  have hus := hl.fine.used
  have hhl := Wal.half_le s.d hl.dk.fine
  clear hs hl hx hF
  have HFS : Hid (fitsS s P u ls = (!s.l.dead && decide ((keepEachS apR reR ls ⟨s.d.half - s.l.hd.used, s.d.half⟩ P u).2.e = 0))) := rfl
  obtain ⟨dead, hdead⟩ : ∃ dead, dead = s.l.dead := ⟨_, rfl⟩
  rw [← hdead] at HDE HFS
  clear hdead
  cases dead with
  | true =>
    go_enter Try.func11, Try.ntmps11
    go_wp2_with fail
    refine (unhide HDE).mono ?_
    rintro e w1 ⟨rfl, rfl⟩
    go_wp2
    go_ret
    rw [unhide HFS]
    exact ⟨rfl, Only.refl _ _⟩
  | false =>
    have HSUB : Hid (((s.d.half : Int) - s.l.hd.used) = ((s.d.half - s.l.hd.used : Nat) : Int)) := by show ((s.d.half : Int) - s.l.hd.used) = _; omega
    have HCL : Hid (∀ (w' : World), Only (fun _ => False) w w' → Calls Try.prog 28 #[.map (some mb)] w' fun e w2 => e = .returned (.map (some w'.heap.size)) ∧ MapAt (fun j => j < w.heap.size) w2 w'.heap.size n P ∧ Only (fun _ => False) w w2 ∧ Only (fun _ => False) w' w2) := fun w' o =>
      (clone_any (((unhide HS).k.map.mono (U := fun j => j < w.heap.size) (fun j hj _ => hj)).same o)).mono (fun e w2 h => ⟨h.1, h.2.1, o.trans h.2.2 (fun _ _ e => e), h.2.2⟩)
    have c0a : ∀ o, (w.alloc o).cell? ⟨sb, 1, none⟩ = some (.map (some mb)) := fun o => by rw [World.cell?_alloc_past _ _ _ hslt]; exact c0
    have c1a : ∀ o, (w.alloc o).cell? ⟨sb, 2, none⟩ = some (.int .i64 u) := fun o => by rw [World.cell?_alloc_past _ _ _ hslt]; exact c1
    go_enter Try.func11, Try.ntmps11
    go_wp2_with fail
    refine (unhide HDE).mono ?_
    rintro e w1 ⟨rfl, rfl⟩
    go_wp2_with fail
    refine wp_region_held_drew (S := (fun w' => w'.cell? ⟨sb, 1, none⟩ = some (.map (some mb)) ∧ w'.cell? ⟨sb, 2, none⟩ = some (.int .i64 u))) (by kernel_rfl) (⟨c0, c1⟩) (fun hHeld => ?_)
    refine wpAnyH_take (i := 0) (v := ?v46) rfl (by kernel_rfl) (by kernel_rfl) (by kernel_rfl) (fun _ _ _ h => h) (Or.inl ⟨by rfl, ?hy46⟩) (by assumption) ?rest46
    case hy46 =>
      intro w hSw
      go_simp
      try with_reducible rfl
    try simp only [Act.put, List.setIfInBounds_toArray, List.set_cons_zero, List.set_cons_succ, List.getElem_toArray, List.getElem_cons_succ, List.getElem_cons_zero]
    refine wpAnyH_take (i := 1) (v := ?v47) rfl (by kernel_rfl) (by kernel_rfl) (by kernel_rfl) (fun _ _ _ h => h) (Or.inl ⟨by rfl, ?hy47⟩) (by assumption) ?rest47
    case hy47 =>
      intro w hSw
      go_simp
      try with_reducible rfl
    try simp only [Act.put, List.setIfInBounds_toArray, List.set_cons_zero, List.set_cons_succ, List.getElem_toArray, List.getElem_cons_succ, List.getElem_cons_zero]
    refine wpAnyH_take (i := 2) (v := ?v48) rfl (by kernel_rfl) (by kernel_rfl) (by kernel_rfl) (fun _ _ _ h => h) (Or.inl ⟨by rfl, ?hy48⟩) (by assumption) ?rest48
    case hy48 =>
      intro w hSw
      go_simp
      try with_reducible rfl
    try simp only [Act.put, List.setIfInBounds_toArray, List.set_cons_zero, List.set_cons_succ, List.getElem_toArray, List.getElem_cons_succ, List.getElem_cons_zero]
    refine wpAnyH_take (i := 3) (v := ?v49) rfl (by kernel_rfl) (by kernel_rfl) (by kernel_rfl) (fun _ _ _ h => h) (Or.inl ⟨by rfl, ?hy49⟩) (by assumption) ?rest49
    case hy49 =>
      intro w hSw
      go_simp
      try with_reducible rfl
    try simp only [Act.put, List.setIfInBounds_toArray, List.set_cons_zero, List.set_cons_succ, List.getElem_toArray, List.getElem_cons_succ, List.getElem_cons_zero]
    refine wpAnyH_take (i := 4) (v := ?v50) rfl (by kernel_rfl) (by kernel_rfl) (by kernel_rfl) (fun _ _ _ h => h) (Or.inl ⟨by rfl, ?hy50⟩) (by assumption) ?rest50
    case hy50 =>
      intro w hSw
      (obtain ⟨q0, q1⟩ := hSw; go_simp; try with_reducible rfl)
    try simp only [Act.put, List.setIfInBounds_toArray, List.set_cons_zero, List.set_cons_succ, List.getElem_toArray, List.getElem_cons_succ, List.getElem_cons_zero]
    refine wpAnyH_take (i := 6) (v := ?v51) rfl (by kernel_rfl) (by kernel_rfl) (by kernel_rfl) (fun _ _ _ h => h) (Or.inl ⟨by rfl, ?hy51⟩) (by assumption) ?rest51
    case hy51 =>
      intro w hSw
      go_simp
      try with_reducible rfl
    try simp only [Act.put, List.setIfInBounds_toArray, List.set_cons_zero, List.set_cons_succ, List.getElem_toArray, List.getElem_cons_succ, List.getElem_cons_zero]
    refine wpAnyH_take (i := 7) (v := ?v52) rfl (by kernel_rfl) (by kernel_rfl) (by kernel_rfl) (fun _ _ _ h => h) (Or.inl ⟨by rfl, ?hy52⟩) (by assumption) ?rest52
    case hy52 =>
      intro w hSw
      go_simp
      try with_reducible rfl
    try simp only [Act.put, List.setIfInBounds_toArray, List.set_cons_zero, List.set_cons_succ, List.getElem_toArray, List.getElem_cons_succ, List.getElem_cons_zero]
    refine wpAnyH_take (i := 8) (v := ?v53) rfl (by kernel_rfl) (by kernel_rfl) (by kernel_rfl) (fun _ _ _ h => h) (Or.inl ⟨by rfl, ?hy53⟩) (by assumption) ?rest53
    case hy53 =>
      intro w hSw
      go_simp
      try with_reducible rfl
    try simp only [Act.put, List.setIfInBounds_toArray, List.set_cons_zero, List.set_cons_succ, List.getElem_toArray, List.getElem_cons_succ, List.getElem_cons_zero]
    refine wpAnyH_take (i := 9) (v := ?v54) rfl (by kernel_rfl) (by kernel_rfl) (by kernel_rfl) (fun _ _ _ h => h) (Or.inl ⟨by rfl, ?hy54⟩) (by assumption) ?rest54
    case hy54 =>
      intro w hSw
      go_simp
      try with_reducible rfl
    try simp only [Act.put, List.setIfInBounds_toArray, List.set_cons_zero, List.set_cons_succ, List.getElem_toArray, List.getElem_cons_succ, List.getElem_cons_zero]
    refine wpAnyH_take (i := 10) (v := ?v55) rfl (by kernel_rfl) (by kernel_rfl) (by kernel_rfl) (fun _ _ _ h => h) (Or.inl ⟨by rfl, ?hy55⟩) (by assumption) ?rest55
    case hy55 =>
      intro w hSw
      (obtain ⟨q0, q1⟩ := hSw; go_simp; try with_reducible rfl)
    try simp only [Act.put, List.setIfInBounds_toArray, List.set_cons_zero, List.set_cons_succ, List.getElem_toArray, List.getElem_cons_succ, List.getElem_cons_zero]
    refine wpAnyH_ready (rs := [5, 12]) (by kernel_rfl) (by simp) ?_
    refine (AllReadyH.cons rfl (fun K hK => ?_) (AllReadyH.cons rfl (fun K hK => ?_) AllReadyH.nil))
    · skip
      go_simp
      go_wp2_with fail; refine (unhide HCL _ ((Only.refl _ _).drew)).mono ?_; rintro e w2 ⟨rfl, hm2, o2, o2'⟩; have e0 := o2.cell c0 (fun e => e); have e1 := o2.cell c1 (fun e => e)
      refine hK.out _ _ (⟨e0, e1⟩) (fun hHeld => ?_)
      clear hK K
      try simp only [Act.put, List.setIfInBounds_toArray, List.set_cons_zero, List.set_cons_succ, List.getElem_toArray, List.getElem_cons_succ, List.getElem_cons_zero]
      have hs2 := Nat.lt_of_lt_of_le hslt o2.size
      refine wpAnyH_take (i := 11) (v := ?v56) rfl (by kernel_rfl) (by kernel_rfl) (by kernel_rfl) (fun _ _ _ h => h) (Or.inl ⟨by rfl, ?hy56⟩) (by assumption) ?rest56
      case hy56 =>
        intro w hSw
        go_simp
        try with_reducible rfl
      try simp only [Act.put, List.setIfInBounds_toArray, List.set_cons_zero, List.set_cons_succ, List.getElem_toArray, List.getElem_cons_succ, List.getElem_cons_zero]
      have hsz2 : w1.heap.size < w2.heap.size := hm2.lt
      refine wpAnyH_ready (rs := [12]) (by kernel_rfl) (by simp) ?_
      refine AllReadyH.cons rfl (fun K hK => ?_) AllReadyH.nil
      go_simp
      refine hK.out _ _ (⟨by rw [World.cell?_alloc_past _ _ _ hs2]; exact e0, by rw [World.cell?_alloc_past _ _ _ hs2]; exact e1⟩) (fun hHeld => ?_)
      clear hK K
      try simp only [Act.put, List.setIfInBounds_toArray, List.set_cons_zero, List.set_cons_succ, List.getElem_toArray, List.getElem_cons_succ, List.getElem_cons_zero]
      have hBA := heap_alloc_new w2 (.cells #[.map none, .int .i64 0] 66)
      have oA2 := (Only.refl (fun _ => False) w2).alloc (.cells #[.map none, .int .i64 0] 66)
      generalize (w2.alloc (.cells #[.map none, .int .i64 0] 66)) = w3 at *
      obtain ⟨z0, z1, y0, y1⟩ := cells_two hBA
      have hslt2 : sb ≠ w2.heap.size := by omega
      have o3 : Only (fun k => k = w2.heap.size) w3 ((w3.setCell ⟨w2.heap.size, 0, none⟩ (.map (some w1.heap.size))).setCell ⟨w2.heap.size, 1, none⟩ (.int .i64 u)) := ((Only.refl _ w3).here 0 _).here 1 _
      have g0 := oA2.cell e0 (fun e => e)
      have g1 := oA2.cell e1 (fun e => e)
      refine wpAnyH_ready (rs := [13]) (by kernel_rfl) (by simp) ?_
      refine AllReadyH.cons rfl (fun K hK => ?_) AllReadyH.nil
      go_simp
      refine hK.out _ _ (⟨o3.cell g0 hslt2, o3.cell g1 hslt2⟩) (fun hHeld => ?_)
      clear hK K
      try simp only [Act.put, List.setIfInBounds_toArray, List.set_cons_zero, List.set_cons_succ, List.getElem_toArray, List.getElem_cons_succ, List.getElem_cons_zero]
      refine wpAnyH_done (by kernel_rfl) ?_ _
      have hBT : ((w3.setCell ⟨w2.heap.size, 0, none⟩ (.map (some w1.heap.size))).setCell ⟨w2.heap.size, 1, none⟩ (.int .i64 u)).heap[w2.heap.size]? = some (.cells #[.map (some w1.heap.size), .int .i64 u] 66 (0, 0)) := by rw [two_setCell (two_setCell hBA)]; rfl
      have oW : Only (fun _ => False) w1 ((w3.setCell ⟨w2.heap.size, 0, none⟩ (.map (some w1.heap.size))).setCell ⟨w2.heap.size, 1, none⟩ (.int .i64 u)) := (o2.trans oA2 (fun _ _ e => e)).trans o3 (fun i hi e => by have := o2.size; omega)
      obtain ⟨tb, htb⟩ : ∃ tb, tb = w2.heap.size := ⟨_, rfl⟩
      obtain ⟨nb, hnb⟩ : ∃ nb, nb = w1.heap.size := ⟨_, rfl⟩
      have hMW : MapAt (fun j => j < w1.heap.size) ((w3.setCell ⟨w2.heap.size, 0, none⟩ (.map (some w1.heap.size))).setCell ⟨w2.heap.size, 1, none⟩ (.int .i64 u)) nb n P := by rw [hnb]; exact (hm2.same oA2).only o3 (fun (e : w1.heap.size = w2.heap.size) => by omega) (fun k hk hv e => by have := o2.size; omega)
      have htn : w1.heap.size ≤ tb ∧ w1.heap.size ≤ nb ∧ tb ≠ nb := by omega
      generalize ((w3.setCell ⟨w2.heap.size, 0, none⟩ (.map (some w1.heap.size))).setCell ⟨w2.heap.size, 1, none⟩ (.int .i64 u)) = W at *
      rw [← htb] at hBT ⊢
      rw [← hnb] at hBT ⊢
      have HBT := hide hBT
      have HOW := hide oW
      have HMW := hide hMW
      clear hBT oW hMW htb hnb hHeld
      have hL1 := (unhide HOW).cell hc (fun e => e)
      have HLW := hide ((unhide HL).same (unhide HOW))
      go_wp2_with fail
      refine wp_region_held_drew (S := (fun w' => w'.cell? ⟨sb, 0, none⟩ = some (.pointer (some ⟨L, 0, none⟩)))) (by kernel_rfl) (hL1) (fun hHeld => ?_)
      refine wpAnyH_take (i := 0) (v := ?v57) rfl (by kernel_rfl) (by kernel_rfl) (by kernel_rfl) (fun _ _ _ h => h) (Or.inl ⟨by rfl, ?hy57⟩) (by assumption) ?rest57
      case hy57 =>
        intro w hSw
        go_simp
        try with_reducible rfl
      try simp only [Act.put, List.setIfInBounds_toArray, List.set_cons_zero, List.set_cons_succ, List.getElem_toArray, List.getElem_cons_succ, List.getElem_cons_zero]
      refine wpAnyH_take (i := 1) (v := ?v58) rfl (by kernel_rfl) (by kernel_rfl) (by kernel_rfl) (fun _ _ _ h => h) (Or.inl ⟨by rfl, ?hy58⟩) (by assumption) ?rest58
      case hy58 =>
        intro w hSw
        go_simp
        try with_reducible rfl
      try simp only [Act.put, List.setIfInBounds_toArray, List.set_cons_zero, List.set_cons_succ, List.getElem_toArray, List.getElem_cons_succ, List.getElem_cons_zero]
      refine wpAnyH_take (i := 2) (v := ?v59) rfl (by kernel_rfl) (by kernel_rfl) (by kernel_rfl) (fun _ _ _ h => h) (Or.inl ⟨by rfl, ?hy59⟩) (by assumption) ?rest59
      case hy59 =>
        intro w hSw
        go_simp
        try with_reducible rfl
      try simp only [Act.put, List.setIfInBounds_toArray, List.set_cons_zero, List.set_cons_succ, List.getElem_toArray, List.getElem_cons_succ, List.getElem_cons_zero]
      refine wpAnyH_take (i := 3) (v := ?v60) rfl (by kernel_rfl) (by kernel_rfl) (by kernel_rfl) (fun _ _ _ h => h) (Or.inl ⟨by rfl, ?hy60⟩) (by assumption) ?rest60
      case hy60 =>
        intro w hSw
        (go_simp; try with_reducible rfl)
      try simp only [Act.put, List.setIfInBounds_toArray, List.set_cons_zero, List.set_cons_succ, List.getElem_toArray, List.getElem_cons_succ, List.getElem_cons_zero]
      refine wpAnyH_take (i := 5) (v := ?v61) rfl (by kernel_rfl) (by kernel_rfl) (by kernel_rfl) (fun _ _ _ h => h) (Or.inl ⟨by rfl, ?hy61⟩) (by assumption) ?rest61
      case hy61 =>
        intro w hSw
        go_simp
        try with_reducible rfl
      try simp only [Act.put, List.setIfInBounds_toArray, List.set_cons_zero, List.set_cons_succ, List.getElem_toArray, List.getElem_cons_succ, List.getElem_cons_zero]
      refine wpAnyH_take (i := 6) (v := ?v62) rfl (by kernel_rfl) (by kernel_rfl) (by kernel_rfl) (fun _ _ _ h => h) (Or.inl ⟨by rfl, ?hy62⟩) (by assumption) ?rest62
      case hy62 =>
        intro w hSw
        go_simp
        try with_reducible rfl
      try simp only [Act.put, List.setIfInBounds_toArray, List.set_cons_zero, List.set_cons_succ, List.getElem_toArray, List.getElem_cons_succ, List.getElem_cons_zero]
      refine wpAnyH_take (i := 7) (v := ?v63) rfl (by kernel_rfl) (by kernel_rfl) (by kernel_rfl) (fun _ _ _ h => h) (Or.inl ⟨by rfl, ?hy63⟩) (by assumption) ?rest63
      case hy63 =>
        intro w hSw
        go_simp
        try with_reducible rfl
      try simp only [Act.put, List.setIfInBounds_toArray, List.set_cons_zero, List.set_cons_succ, List.getElem_toArray, List.getElem_cons_succ, List.getElem_cons_zero]
      refine wpAnyH_take (i := 8) (v := ?v64) rfl (by kernel_rfl) (by kernel_rfl) (by kernel_rfl) (fun _ _ _ h => h) (Or.inl ⟨by rfl, ?hy64⟩) (by assumption) ?rest64
      case hy64 =>
        intro w hSw
        (go_simp; try with_reducible rfl)
      try simp only [Act.put, List.setIfInBounds_toArray, List.set_cons_zero, List.set_cons_succ, List.getElem_toArray, List.getElem_cons_succ, List.getElem_cons_zero]
      refine wpAnyH_take (i := 13) (v := ?v65) rfl (by kernel_rfl) (by kernel_rfl) (by kernel_rfl) (fun _ _ _ h => h) (Or.inl ⟨by rfl, ?hy65⟩) (by assumption) ?rest65
      case hy65 =>
        intro w hSw
        go_simp
        try with_reducible rfl
      try simp only [Act.put, List.setIfInBounds_toArray, List.set_cons_zero, List.set_cons_succ, List.getElem_toArray, List.getElem_cons_succ, List.getElem_cons_zero]
      refine wpAnyH_ready (rs := [4]) (by kernel_rfl) (by simp) ?_
      refine AllReadyH.cons rfl (fun K hK => ?_) AllReadyH.nil
      go_simp
      go_wp2_with fail; refine (Wal.room_any ((unhide HLW).same ((Only.refl _ _).drew))).mono ?_; rintro e w4 ⟨rfl, q4, hq4⟩; have o4 : Only (fun _ => False) W w4 := (by rw [hq4]; exact ((Only.refl _ _).drew).trans (Only.drews q4) (fun _ _ e => e)); have hL4 := o4.cell hL1 (fun e => e); clear hq4
      refine hK.out _ _ (hL4) (fun hHeld => ?_)
      clear hK K
      try simp only [Act.put, List.setIfInBounds_toArray, List.set_cons_zero, List.set_cons_succ, List.getElem_toArray, List.getElem_cons_succ, List.getElem_cons_zero]
      refine wpAnyH_ready (rs := [9]) (by kernel_rfl) (by simp) ?_
      refine AllReadyH.cons rfl (fun K hK => ?_) AllReadyH.nil
      go_simp
      go_wp2_with fail; refine (Wal.half_any ((unhide HLW).same o4)).mono ?_; rintro e w5 ⟨rfl, hw5⟩; subst hw5
      refine hK.out _ _ (hL4) (fun hHeld => ?_)
      clear hK K
      try simp only [Act.put, List.setIfInBounds_toArray, List.set_cons_zero, List.set_cons_succ, List.getElem_toArray, List.getElem_cons_succ, List.getElem_cons_zero]
      rw [unhide HSUB]
      refine wpAnyH_take (i := 10) (v := ?v66) rfl (by kernel_rfl) (by kernel_rfl) (by kernel_rfl) (fun _ _ _ h => h) (Or.inl ⟨by rfl, ?hy66⟩) (by assumption) ?rest66
      case hy66 =>
        intro w hSw
        go_simp
        try with_reducible rfl
      try simp only [Act.put, List.setIfInBounds_toArray, List.set_cons_zero, List.set_cons_succ, List.getElem_toArray, List.getElem_cons_succ, List.getElem_cons_zero]
      have hBR := heap_alloc_new w5 (.cells #[.int .i64 ((s.d.half - s.l.hd.used : Nat) : Int), .int .i64 s.d.half] 80)
      have oR := (Only.refl (fun _ => False) w5).alloc (.cells #[.int .i64 ((s.d.half - s.l.hd.used : Nat) : Int), .int .i64 s.d.half] 80)
      refine wpAnyH_ready (rs := [11]) (by kernel_rfl) (by simp) ?_
      refine AllReadyH.cons rfl (fun K hK => ?_) AllReadyH.nil
      go_simp
      refine hK.out _ _ (oR.cell hL4 (fun e => e)) (fun hHeld => ?_)
      clear hK K
      try simp only [Act.put, List.setIfInBounds_toArray, List.set_cons_zero, List.set_cons_succ, List.getElem_toArray, List.getElem_cons_succ, List.getElem_cons_zero]
      generalize (w5.alloc (.cells #[.int .i64 ((s.d.half - s.l.hd.used : Nat) : Int), .int .i64 s.d.half] 80)) = w6 at *
      refine wpAnyH_take (i := 12) (v := ?v67) rfl (by kernel_rfl) (by kernel_rfl) (by kernel_rfl) (fun _ _ _ h => h) (Or.inl ⟨by rfl, ?hy67⟩) (by assumption) ?rest67
      case hy67 =>
        intro w hSw
        go_simp
        try with_reducible rfl
      try simp only [Act.put, List.setIfInBounds_toArray, List.set_cons_zero, List.set_cons_succ, List.getElem_toArray, List.getElem_cons_succ, List.getElem_cons_zero]
      have hltW : w1.heap.size ≤ W.heap.size := (unhide HOW).size
      have hsW := o4.size
      have htlt : tb < W.heap.size := lt_of_block (unhide HBT)
      have hnlt : nb < W.heap.size := (unhide HMW).lt
      have o46 : Only (fun _ => False) W w6 := o4.trans oR (fun _ _ e => e)
      have hK6 : KAt w1.heap.size (RAt w1.heap.size w5.heap.size) w6 (fun k => k = w5.heap.size) tb 0 nb n ⟨s.d.half - s.l.hd.used, s.d.half⟩ P u := by
        obtain ⟨t0, t1, _, _⟩ := cells_two (o46.heap (unhide HBT) (fun e => e))
        exact ⟨⟨hBR, rfl, by omega⟩, t0, t1, fun i => by simp [World.frozen?, o46.heap (unhide HBT) (fun e => e)], ((unhide HMW).same o46).mono (fun j hj (hv : j < w1.heap.size) => ⟨by show ¬ j = w5.heap.size; omega, by show ¬ j = tb; omega, by show ¬ j = nb; omega⟩), by omega, by omega, by omega, by omega, by omega⟩
      have hX6 : HasCC (fun j => ¬ j = w5.heap.size ∧ j ≠ tb ∧ j ≠ nb) w6 (.slice xo ls.length xc) ls := (((unhide HX).mono (R := fun j => j < w1.heap.size) (fun j hj _ => hj)).same ((unhide HOW).trans o46 (fun _ _ e => e))).mono (fun j _ hj => ⟨by omega, by omega, by omega⟩)
      have hKE := keepEach_any (plcR w1.heap.size w5.heap.size) hK6 _ ls hX6 hn hN 0 ⟨by show s.d.half - s.l.hd.used ≤ 3000; omega, by show s.d.half ≤ 3000; omega⟩
      refine wpAnyH_ready (rs := [14]) (by kernel_rfl) (by simp) ?_
      refine AllReadyH.cons rfl (fun K hK => ?_) AllReadyH.nil
      go_simp
      go_wp2_with fail; refine hKE.mono ?_; rintro e w8 ⟨rfl, hw8⟩; have o8 : Only (fun _ => False) w1 w8 := ((unhide HOW).trans o46 (fun _ _ e => e)).trans hw8.only (fun i hi e => by rcases e with e | e | e <;> omega); have hL8 := o8.cell hc (fun e => e); have HO8 := hide o8; clear hw8 o8
      refine hK.out _ _ (hL8) (fun hHeld => ?_)
      clear hK K
      try simp only [Act.put, List.setIfInBounds_toArray, List.set_cons_zero, List.set_cons_succ, List.getElem_toArray, List.getElem_cons_succ, List.getElem_cons_zero]
      refine wpAnyH_take (i := 15) (v := ?v68) rfl (by kernel_rfl) (by kernel_rfl) (by kernel_rfl) (fun _ _ _ h => h) (Or.inl ⟨by rfl, ?hy68⟩) (by assumption) ?rest68
      case hy68 =>
        intro w hSw
        go_simp
        try with_reducible rfl
      try simp only [Act.put, List.setIfInBounds_toArray, List.set_cons_zero, List.set_cons_succ, List.getElem_toArray, List.getElem_cons_succ, List.getElem_cons_zero]
      refine wpAnyH_take (i := 16) (v := ?v69) rfl (by kernel_rfl) (by kernel_rfl) (by kernel_rfl) (fun _ _ _ h => h) (Or.inl ⟨by rfl, ?hy69⟩) (by assumption) ?rest69
      case hy69 =>
        intro w hSw
        go_simp
        try with_reducible rfl
      try simp only [Act.put, List.setIfInBounds_toArray, List.set_cons_zero, List.set_cons_succ, List.getElem_toArray, List.getElem_cons_succ, List.getElem_cons_zero]
      refine wpAnyH_take (i := 17) (v := ?v70) rfl (by kernel_rfl) (by kernel_rfl) (by kernel_rfl) (fun _ _ _ h => h) (Or.inl ⟨by rfl, ?hy70⟩) (by assumption) ?rest70
      case hy70 =>
        intro w hSw
        go_simp
        try with_reducible rfl
      try simp only [Act.put, List.setIfInBounds_toArray, List.set_cons_zero, List.set_cons_succ, List.getElem_toArray, List.getElem_cons_succ, List.getElem_cons_zero]
      refine wpAnyH_take (i := 18) (v := ?v71) rfl (by kernel_rfl) (by kernel_rfl) (by kernel_rfl) (fun _ _ _ h => h) (Or.inl ⟨by rfl, ?hy71⟩) (by assumption) ?rest71
      case hy71 =>
        intro w hSw
        go_simp
        try with_reducible rfl
      try simp only [Act.put, List.setIfInBounds_toArray, List.set_cons_zero, List.set_cons_succ, List.getElem_toArray, List.getElem_cons_succ, List.getElem_cons_zero]
      refine wpAnyH_take (i := 19) (v := ?v72) rfl (by kernel_rfl) (by kernel_rfl) (by kernel_rfl) (fun _ _ _ h => h) (Or.inl ⟨by rfl, ?hy72⟩) (by assumption) ?rest72
      case hy72 =>
        intro w hSw
        go_simp
        try with_reducible rfl
      try simp only [Act.put, List.setIfInBounds_toArray, List.set_cons_zero, List.set_cons_succ, List.getElem_toArray, List.getElem_cons_succ, List.getElem_cons_zero]
      refine wpAnyH_done (by kernel_rfl) ?_ _
      clear hHeld
      go_wp2
      go_ret
      rw [unhide HFS]
      exact ⟨by simp; rfl, unhide HO8⟩
    · skip
      have hBA : (w1.alloc (.cells #[.map none, .int .i64 0] 66)).drew.heap[w1.heap.size]? = some (.cells #[.map none, .int .i64 0] 66 (0, 0)) := heap_alloc_new w1 _
      have oA2 : Only (fun _ => False) w1 (w1.alloc (.cells #[.map none, .int .i64 0] 66)).drew := ((Only.refl _ _).alloc _).drew
      have hsz1 : (w1.alloc (.cells #[.map none, .int .i64 0] 66)).drew.heap.size = w1.heap.size + 1 := by simp
      go_simp
      refine hK.out _ _ (⟨oA2.cell c0 (fun e => e), oA2.cell c1 (fun e => e)⟩) (fun hHeld => ?_)
      clear hK K
      try simp only [Act.put, List.setIfInBounds_toArray, List.set_cons_zero, List.set_cons_succ, List.getElem_toArray, List.getElem_cons_succ, List.getElem_cons_zero]
      generalize (w1.alloc (.cells #[.map none, .int .i64 0] 66)).drew = w3 at *
      refine wpAnyH_ready (rs := [5]) (by kernel_rfl) (by simp) ?_
      refine AllReadyH.cons rfl (fun K hK => ?_) AllReadyH.nil
      go_simp
      go_wp2_with fail; refine (unhide HCL _ oA2).mono ?_; rintro e w2 ⟨rfl, hm2, o2, o2'⟩; have e0 := o2.cell c0 (fun e => e); have e1 := o2.cell c1 (fun e => e)
      refine hK.out _ _ (⟨e0, e1⟩) (fun hHeld => ?_)
      clear hK K
      try simp only [Act.put, List.setIfInBounds_toArray, List.set_cons_zero, List.set_cons_succ, List.getElem_toArray, List.getElem_cons_succ, List.getElem_cons_zero]
      rw [hsz1] at hm2
      have hsz2 : w1.heap.size + 1 < w2.heap.size := hm2.lt
      have hBB := o2'.heap hBA (fun e => e)
      obtain ⟨z0, z1, y0, y1⟩ := cells_two hBB
      have hslt2 : sb ≠ w1.heap.size := by omega
      have o3 : Only (fun k => k = w1.heap.size) w2 ((w2.setCell ⟨w1.heap.size, 0, none⟩ (.map (some (w1.heap.size + 1)))).setCell ⟨w1.heap.size, 1, none⟩ (.int .i64 u)) := ((Only.refl _ w2).here 0 _).here 1 _
      refine wpAnyH_take (i := 11) (v := ?v73) rfl (by kernel_rfl) (by kernel_rfl) (by kernel_rfl) (fun _ _ _ h => h) (Or.inl ⟨by rfl, ?hy73⟩) (by assumption) ?rest73
      case hy73 =>
        intro w hSw
        go_simp
        try with_reducible rfl
      try simp only [Act.put, List.setIfInBounds_toArray, List.set_cons_zero, List.set_cons_succ, List.getElem_toArray, List.getElem_cons_succ, List.getElem_cons_zero]
      refine wpAnyH_ready (rs := [13]) (by kernel_rfl) (by simp) ?_
      refine AllReadyH.cons rfl (fun K hK => ?_) AllReadyH.nil
      go_simp
      refine hK.out _ _ (⟨o3.cell e0 hslt2, o3.cell e1 hslt2⟩) (fun hHeld => ?_)
      clear hK K
      try simp only [Act.put, List.setIfInBounds_toArray, List.set_cons_zero, List.set_cons_succ, List.getElem_toArray, List.getElem_cons_succ, List.getElem_cons_zero]
      refine wpAnyH_done (by kernel_rfl) ?_ _
      have hBT : ((w2.setCell ⟨w1.heap.size, 0, none⟩ (.map (some (w1.heap.size + 1)))).setCell ⟨w1.heap.size, 1, none⟩ (.int .i64 u)).heap[w1.heap.size]? = some (.cells #[.map (some (w1.heap.size + 1)), .int .i64 u] 66 (0, 0)) := by rw [two_setCell (two_setCell hBB)]; rfl
      have oW : Only (fun _ => False) w1 ((w2.setCell ⟨w1.heap.size, 0, none⟩ (.map (some (w1.heap.size + 1)))).setCell ⟨w1.heap.size, 1, none⟩ (.int .i64 u)) := o2.trans o3 (fun i hi e => by omega)
      obtain ⟨tb, htb⟩ : ∃ tb, tb = w1.heap.size := ⟨_, rfl⟩
      obtain ⟨nb, hnb⟩ : ∃ nb, nb = w1.heap.size + 1 := ⟨_, rfl⟩
      have hMW : MapAt (fun j => j < w1.heap.size) ((w2.setCell ⟨w1.heap.size, 0, none⟩ (.map (some (w1.heap.size + 1)))).setCell ⟨w1.heap.size, 1, none⟩ (.int .i64 u)) nb n P := by rw [hnb]; exact hm2.only o3 (fun e => by omega) (fun k hk hv e => by omega)
      have htn : w1.heap.size ≤ tb ∧ w1.heap.size ≤ nb ∧ tb ≠ nb := by omega
      generalize ((w2.setCell ⟨w1.heap.size, 0, none⟩ (.map (some (w1.heap.size + 1)))).setCell ⟨w1.heap.size, 1, none⟩ (.int .i64 u)) = W at *
      rw [← hnb] at hBT ⊢
      rw [← htb] at hBT ⊢
      have HBT := hide hBT
      have HOW := hide oW
      have HMW := hide hMW
      clear hBT oW hMW htb hnb hHeld
      have hL1 := (unhide HOW).cell hc (fun e => e)
      have HLW := hide ((unhide HL).same (unhide HOW))
      go_wp2_with fail
      refine wp_region_held_drew (S := (fun w' => w'.cell? ⟨sb, 0, none⟩ = some (.pointer (some ⟨L, 0, none⟩)))) (by kernel_rfl) (hL1) (fun hHeld => ?_)
      refine wpAnyH_take (i := 0) (v := ?v74) rfl (by kernel_rfl) (by kernel_rfl) (by kernel_rfl) (fun _ _ _ h => h) (Or.inl ⟨by rfl, ?hy74⟩) (by assumption) ?rest74
      case hy74 =>
        intro w hSw
        go_simp
        try with_reducible rfl
      try simp only [Act.put, List.setIfInBounds_toArray, List.set_cons_zero, List.set_cons_succ, List.getElem_toArray, List.getElem_cons_succ, List.getElem_cons_zero]
      refine wpAnyH_take (i := 1) (v := ?v75) rfl (by kernel_rfl) (by kernel_rfl) (by kernel_rfl) (fun _ _ _ h => h) (Or.inl ⟨by rfl, ?hy75⟩) (by assumption) ?rest75
      case hy75 =>
        intro w hSw
        go_simp
        try with_reducible rfl
      try simp only [Act.put, List.setIfInBounds_toArray, List.set_cons_zero, List.set_cons_succ, List.getElem_toArray, List.getElem_cons_succ, List.getElem_cons_zero]
      refine wpAnyH_take (i := 2) (v := ?v76) rfl (by kernel_rfl) (by kernel_rfl) (by kernel_rfl) (fun _ _ _ h => h) (Or.inl ⟨by rfl, ?hy76⟩) (by assumption) ?rest76
      case hy76 =>
        intro w hSw
        go_simp
        try with_reducible rfl
      try simp only [Act.put, List.setIfInBounds_toArray, List.set_cons_zero, List.set_cons_succ, List.getElem_toArray, List.getElem_cons_succ, List.getElem_cons_zero]
      refine wpAnyH_take (i := 3) (v := ?v77) rfl (by kernel_rfl) (by kernel_rfl) (by kernel_rfl) (fun _ _ _ h => h) (Or.inl ⟨by rfl, ?hy77⟩) (by assumption) ?rest77
      case hy77 =>
        intro w hSw
        (go_simp; try with_reducible rfl)
      try simp only [Act.put, List.setIfInBounds_toArray, List.set_cons_zero, List.set_cons_succ, List.getElem_toArray, List.getElem_cons_succ, List.getElem_cons_zero]
      refine wpAnyH_take (i := 5) (v := ?v78) rfl (by kernel_rfl) (by kernel_rfl) (by kernel_rfl) (fun _ _ _ h => h) (Or.inl ⟨by rfl, ?hy78⟩) (by assumption) ?rest78
      case hy78 =>
        intro w hSw
        go_simp
        try with_reducible rfl
      try simp only [Act.put, List.setIfInBounds_toArray, List.set_cons_zero, List.set_cons_succ, List.getElem_toArray, List.getElem_cons_succ, List.getElem_cons_zero]
      refine wpAnyH_take (i := 6) (v := ?v79) rfl (by kernel_rfl) (by kernel_rfl) (by kernel_rfl) (fun _ _ _ h => h) (Or.inl ⟨by rfl, ?hy79⟩) (by assumption) ?rest79
      case hy79 =>
        intro w hSw
        go_simp
        try with_reducible rfl
      try simp only [Act.put, List.setIfInBounds_toArray, List.set_cons_zero, List.set_cons_succ, List.getElem_toArray, List.getElem_cons_succ, List.getElem_cons_zero]
      refine wpAnyH_take (i := 7) (v := ?v80) rfl (by kernel_rfl) (by kernel_rfl) (by kernel_rfl) (fun _ _ _ h => h) (Or.inl ⟨by rfl, ?hy80⟩) (by assumption) ?rest80
      case hy80 =>
        intro w hSw
        go_simp
        try with_reducible rfl
      try simp only [Act.put, List.setIfInBounds_toArray, List.set_cons_zero, List.set_cons_succ, List.getElem_toArray, List.getElem_cons_succ, List.getElem_cons_zero]
      refine wpAnyH_take (i := 8) (v := ?v81) rfl (by kernel_rfl) (by kernel_rfl) (by kernel_rfl) (fun _ _ _ h => h) (Or.inl ⟨by rfl, ?hy81⟩) (by assumption) ?rest81
      case hy81 =>
        intro w hSw
        (go_simp; try with_reducible rfl)
      try simp only [Act.put, List.setIfInBounds_toArray, List.set_cons_zero, List.set_cons_succ, List.getElem_toArray, List.getElem_cons_succ, List.getElem_cons_zero]
      refine wpAnyH_take (i := 13) (v := ?v82) rfl (by kernel_rfl) (by kernel_rfl) (by kernel_rfl) (fun _ _ _ h => h) (Or.inl ⟨by rfl, ?hy82⟩) (by assumption) ?rest82
      case hy82 =>
        intro w hSw
        go_simp
        try with_reducible rfl
      try simp only [Act.put, List.setIfInBounds_toArray, List.set_cons_zero, List.set_cons_succ, List.getElem_toArray, List.getElem_cons_succ, List.getElem_cons_zero]
      refine wpAnyH_ready (rs := [4]) (by kernel_rfl) (by simp) ?_
      refine AllReadyH.cons rfl (fun K hK => ?_) AllReadyH.nil
      go_simp
      go_wp2_with fail; refine (Wal.room_any ((unhide HLW).same ((Only.refl _ _).drew))).mono ?_; rintro e w4 ⟨rfl, q4, hq4⟩; have o4 : Only (fun _ => False) W w4 := (by rw [hq4]; exact ((Only.refl _ _).drew).trans (Only.drews q4) (fun _ _ e => e)); have hL4 := o4.cell hL1 (fun e => e); clear hq4
      refine hK.out _ _ (hL4) (fun hHeld => ?_)
      clear hK K
      try simp only [Act.put, List.setIfInBounds_toArray, List.set_cons_zero, List.set_cons_succ, List.getElem_toArray, List.getElem_cons_succ, List.getElem_cons_zero]
      refine wpAnyH_ready (rs := [9]) (by kernel_rfl) (by simp) ?_
      refine AllReadyH.cons rfl (fun K hK => ?_) AllReadyH.nil
      go_simp
      go_wp2_with fail; refine (Wal.half_any ((unhide HLW).same o4)).mono ?_; rintro e w5 ⟨rfl, hw5⟩; subst hw5
      refine hK.out _ _ (hL4) (fun hHeld => ?_)
      clear hK K
      try simp only [Act.put, List.setIfInBounds_toArray, List.set_cons_zero, List.set_cons_succ, List.getElem_toArray, List.getElem_cons_succ, List.getElem_cons_zero]
      rw [unhide HSUB]
      refine wpAnyH_take (i := 10) (v := ?v83) rfl (by kernel_rfl) (by kernel_rfl) (by kernel_rfl) (fun _ _ _ h => h) (Or.inl ⟨by rfl, ?hy83⟩) (by assumption) ?rest83
      case hy83 =>
        intro w hSw
        go_simp
        try with_reducible rfl
      try simp only [Act.put, List.setIfInBounds_toArray, List.set_cons_zero, List.set_cons_succ, List.getElem_toArray, List.getElem_cons_succ, List.getElem_cons_zero]
      have hBR := heap_alloc_new w5 (.cells #[.int .i64 ((s.d.half - s.l.hd.used : Nat) : Int), .int .i64 s.d.half] 80)
      have oR := (Only.refl (fun _ => False) w5).alloc (.cells #[.int .i64 ((s.d.half - s.l.hd.used : Nat) : Int), .int .i64 s.d.half] 80)
      refine wpAnyH_ready (rs := [11]) (by kernel_rfl) (by simp) ?_
      refine AllReadyH.cons rfl (fun K hK => ?_) AllReadyH.nil
      go_simp
      refine hK.out _ _ (oR.cell hL4 (fun e => e)) (fun hHeld => ?_)
      clear hK K
      try simp only [Act.put, List.setIfInBounds_toArray, List.set_cons_zero, List.set_cons_succ, List.getElem_toArray, List.getElem_cons_succ, List.getElem_cons_zero]
      generalize (w5.alloc (.cells #[.int .i64 ((s.d.half - s.l.hd.used : Nat) : Int), .int .i64 s.d.half] 80)) = w6 at *
      refine wpAnyH_take (i := 12) (v := ?v84) rfl (by kernel_rfl) (by kernel_rfl) (by kernel_rfl) (fun _ _ _ h => h) (Or.inl ⟨by rfl, ?hy84⟩) (by assumption) ?rest84
      case hy84 =>
        intro w hSw
        go_simp
        try with_reducible rfl
      try simp only [Act.put, List.setIfInBounds_toArray, List.set_cons_zero, List.set_cons_succ, List.getElem_toArray, List.getElem_cons_succ, List.getElem_cons_zero]
      have hltW : w1.heap.size ≤ W.heap.size := (unhide HOW).size
      have hsW := o4.size
      have htlt : tb < W.heap.size := lt_of_block (unhide HBT)
      have hnlt : nb < W.heap.size := (unhide HMW).lt
      have o46 : Only (fun _ => False) W w6 := o4.trans oR (fun _ _ e => e)
      have hK6 : KAt w1.heap.size (RAt w1.heap.size w5.heap.size) w6 (fun k => k = w5.heap.size) tb 0 nb n ⟨s.d.half - s.l.hd.used, s.d.half⟩ P u := by
        obtain ⟨t0, t1, _, _⟩ := cells_two (o46.heap (unhide HBT) (fun e => e))
        exact ⟨⟨hBR, rfl, by omega⟩, t0, t1, fun i => by simp [World.frozen?, o46.heap (unhide HBT) (fun e => e)], ((unhide HMW).same o46).mono (fun j hj (hv : j < w1.heap.size) => ⟨by show ¬ j = w5.heap.size; omega, by show ¬ j = tb; omega, by show ¬ j = nb; omega⟩), by omega, by omega, by omega, by omega, by omega⟩
      have hX6 : HasCC (fun j => ¬ j = w5.heap.size ∧ j ≠ tb ∧ j ≠ nb) w6 (.slice xo ls.length xc) ls := (((unhide HX).mono (R := fun j => j < w1.heap.size) (fun j hj _ => hj)).same ((unhide HOW).trans o46 (fun _ _ e => e))).mono (fun j _ hj => ⟨by omega, by omega, by omega⟩)
      have hKE := keepEach_any (plcR w1.heap.size w5.heap.size) hK6 _ ls hX6 hn hN 0 ⟨by show s.d.half - s.l.hd.used ≤ 3000; omega, by show s.d.half ≤ 3000; omega⟩
      refine wpAnyH_ready (rs := [14]) (by kernel_rfl) (by simp) ?_
      refine AllReadyH.cons rfl (fun K hK => ?_) AllReadyH.nil
      go_simp
      go_wp2_with fail; refine hKE.mono ?_; rintro e w8 ⟨rfl, hw8⟩; have o8 : Only (fun _ => False) w1 w8 := ((unhide HOW).trans o46 (fun _ _ e => e)).trans hw8.only (fun i hi e => by rcases e with e | e | e <;> omega); have hL8 := o8.cell hc (fun e => e); have HO8 := hide o8; clear hw8 o8
      refine hK.out _ _ (hL8) (fun hHeld => ?_)
      clear hK K
      try simp only [Act.put, List.setIfInBounds_toArray, List.set_cons_zero, List.set_cons_succ, List.getElem_toArray, List.getElem_cons_succ, List.getElem_cons_zero]
      refine wpAnyH_take (i := 15) (v := ?v85) rfl (by kernel_rfl) (by kernel_rfl) (by kernel_rfl) (fun _ _ _ h => h) (Or.inl ⟨by rfl, ?hy85⟩) (by assumption) ?rest85
      case hy85 =>
        intro w hSw
        go_simp
        try with_reducible rfl
      try simp only [Act.put, List.setIfInBounds_toArray, List.set_cons_zero, List.set_cons_succ, List.getElem_toArray, List.getElem_cons_succ, List.getElem_cons_zero]
      refine wpAnyH_take (i := 16) (v := ?v86) rfl (by kernel_rfl) (by kernel_rfl) (by kernel_rfl) (fun _ _ _ h => h) (Or.inl ⟨by rfl, ?hy86⟩) (by assumption) ?rest86
      case hy86 =>
        intro w hSw
        go_simp
        try with_reducible rfl
      try simp only [Act.put, List.setIfInBounds_toArray, List.set_cons_zero, List.set_cons_succ, List.getElem_toArray, List.getElem_cons_succ, List.getElem_cons_zero]
      refine wpAnyH_take (i := 17) (v := ?v87) rfl (by kernel_rfl) (by kernel_rfl) (by kernel_rfl) (fun _ _ _ h => h) (Or.inl ⟨by rfl, ?hy87⟩) (by assumption) ?rest87
      case hy87 =>
        intro w hSw
        go_simp
        try with_reducible rfl
      try simp only [Act.put, List.setIfInBounds_toArray, List.set_cons_zero, List.set_cons_succ, List.getElem_toArray, List.getElem_cons_succ, List.getElem_cons_zero]
      refine wpAnyH_take (i := 18) (v := ?v88) rfl (by kernel_rfl) (by kernel_rfl) (by kernel_rfl) (fun _ _ _ h => h) (Or.inl ⟨by rfl, ?hy88⟩) (by assumption) ?rest88
      case hy88 =>
        intro w hSw
        go_simp
        try with_reducible rfl
      try simp only [Act.put, List.setIfInBounds_toArray, List.set_cons_zero, List.set_cons_succ, List.getElem_toArray, List.getElem_cons_succ, List.getElem_cons_zero]
      refine wpAnyH_take (i := 19) (v := ?v89) rfl (by kernel_rfl) (by kernel_rfl) (by kernel_rfl) (fun _ _ _ h => h) (Or.inl ⟨by rfl, ?hy89⟩) (by assumption) ?rest89
      case hy89 =>
        intro w hSw
        go_simp
        try with_reducible rfl
      try simp only [Act.put, List.setIfInBounds_toArray, List.set_cons_zero, List.set_cons_succ, List.getElem_toArray, List.getElem_cons_succ, List.getElem_cons_zero]
      refine wpAnyH_done (by kernel_rfl) ?_ _
      clear hHeld
      go_wp2
      go_ret
      rw [unhide HFS]
      exact ⟨by simp; rfl, unhide HO8⟩
end
end St
end Go.Proofs.Ytmcobkcnpnfobaa

namespace Go.Proofs.Ytmcobkcnpnfobaa
open Go.RowKit
set_option linter.unusedSimpArgs false
set_option linter.unusedVariables false
namespace St

/-- what is left, reckoned -/
def roomOf (s : LD) : RM := ⟨s.d.half - s.l.hd.used, s.d.half⟩

/-- the same, reckoned -/
structure Calm2 (s : LD) (k : KRes LD) (r : KRes RM) : Prop where
  calm : Calm k.s.d
  r : r = ⟨k.e, roomOf k.s, k.P, k.u⟩
  e : k.e = 0 ∨ k.e = 1 ∨ k.e = 2
  len : k.s.d.secs.length = s.d.secs.length

theorem reset_full' (l : Wal.Lg) (d : Dk) (u : List UInt8) (hd : l.dead = false) (hr : d.half < Wal.size u) : Wal.reset l d u = ⟨l, d, 2⟩ := by
  unfold Wal.reset
  rw [hd, if_neg (by decide), if_pos hr]

theorem keep_calm {s : LD} {P : Prs} {u N M T : Nat} (h : Good s P u N M T) (hc : Calm s.d) (l : List Chg) : Calm2 s (keepS apL reL s P u l) (keepS apR reR (roomOf s) P u l) := by
  obtain ⟨us, lss, hs, _⟩ := h
  have hf := hs.fine
  have hl := hs.lfine
  have hd : s.l.dead = false := hs.alive
  have hused := hl.used
  unfold keepS
  cases hlc : layChanges l with
  | none => exact ⟨hc, rfl, Or.inr (Or.inl rfl), rfl⟩
  | some b =>
    simp only
    by_cases hnil : l = []
    · rw [if_pos hnil, if_pos hnil]
      exact ⟨hc, rfl, Or.inl rfl, rfl⟩
    · rw [if_neg hnil, if_neg hnil]
      by_cases hr : s.d.half < s.l.hd.used + Wal.size b
      · have e1 : apL s b = (2, s) := by
          unfold apL
          rw [Wal.append_full s.l s.d [b] hd (by simp) (by rw [one_size]; exact hr)]
        have e2 : apR (roomOf s) b = (2, roomOf s) := by
          unfold apR roomOf
          rw [if_pos (by show s.d.half - s.l.hd.used < Wal.size b; omega)]
        rw [e1, e2]
        simp only
        rw [if_neg (by decide), if_pos trivial, if_neg (by decide), if_pos trivial]
        unfold keepAnewS
        cases hla : layChanges (allOf (done P l)) with
        | none => exact ⟨hc, rfl, Or.inr (Or.inr rfl), rfl⟩
        | some b2 =>
          simp only
          by_cases hr2 : s.d.half < Wal.size b2
          · have e3 : reL s b2 = (2, s) := by
              unfold reL
              rw [reset_full' s.l s.d b2 hd hr2]
            have e4 : reR (roomOf s) b2 = (2, roomOf s) := by
              unfold reR roomOf
              rw [if_pos hr2]
            rw [e3, e4, if_neg (show ¬ (2 : Int) = 0 by decide), if_neg (show ¬ (2 : Int) = 0 by decide)]
            exact ⟨hc, rfl, Or.inr (Or.inr rfl), rfl⟩
          · have w := Wal.reset_calm s.l s.d b2 hc hf hl hd hr2
            have e3 : (reL s b2).1 = 0 := w.e
            have e4 : reR (roomOf s) b2 = (0, ⟨s.d.half - Wal.size b2, s.d.half⟩) := by
              unfold reR roomOf
              rw [if_neg hr2]
            have hh : (Wal.reset s.l s.d b2).dk.half = s.d.half := Wal.half_len w.len
            rw [if_pos e3, e4, if_pos rfl]
            refine ⟨w.calm, ?_, Or.inl rfl, w.len⟩
            show _ = KRes.mk 0 (RM.mk ((Wal.reset s.l s.d b2).dk.half - (Wal.reset s.l s.d b2).lg.hd.used) (Wal.reset s.l s.d b2).dk.half) _ _
            rw [hh, w.hd]
      · have w := Wal.append_calm s.l s.d [b] hc hf hl hd (by simp) (by rw [one_size]; exact hr)
        rw [one_size] at w
        have e1 : (apL s b).1 = 0 := w.e
        have e2 : apR (roomOf s) b = (0, ⟨s.d.half - s.l.hd.used - Wal.size b, s.d.half⟩) := by
          unfold apR roomOf
          rw [if_neg (by show ¬ s.d.half - s.l.hd.used < Wal.size b; omega)]
        have hh : (Wal.append s.l s.d [b]).dk.half = s.d.half := Wal.half_len w.len
        rw [if_pos e1, e2, if_pos rfl]
        refine ⟨w.calm, ?_, Or.inl rfl, w.len⟩
        show _ = KRes.mk 0 (RM.mk ((Wal.append s.l s.d [b]).dk.half - (Wal.append s.l s.d [b]).lg.hd.used) (Wal.append s.l s.d [b]).dk.half) _ _
        rw [hh, w.hd]
        simp only [KRes.mk.injEq, RM.mk.injEq, and_true, true_and]
        omega

/-- all, one behind the other -/
structure Calms (s : LD) (q : Nat × KRes LD) (r : Nat × KRes RM) : Prop where
  n : q.1 = r.1
  c : Calm2 s q.2 r.2

theorem each_calm (ls : List (List Chg)) : ∀ {s : LD} {P : Prs} {u N M T : Nat}, Good s P u N M T → Calm s.d → N + ls.length < 18446744073709551615 → Calms s (keepEachS apL reL ls s P u) (keepEachS apR reR ls (roomOf s) P u) := by
  induction ls with
  | nil =>
    intro s P u N M T h hc hN
    exact ⟨rfl, hc, rfl, Or.inl rfl, rfl⟩
  | cons l ls ih =>
    intro s P u N M T h hc hN
    have k := keep_calm h hc l
    simp only [List.length_cons] at hN
    have g := keep_good h l (by omega)
    unfold keepEachS
    simp only
    rw [k.r]
    simp only
    by_cases he : (keepS apL reL s P u l).e = 0
    · rw [if_pos he, if_pos he]
      have hg : Good (keepS apL reL s P u l).s (keepS apL reL s P u l).P (keepS apL reL s P u l).u (N + 1) (M + 1) (T + l.length) := by
        cases g with
        | no he2 _ => rcases he2 with e | e <;> (rw [e] at he; cases he)
        | yes _ _ hg => exact hg
        | fell he2 _ _ _ => rw [he2] at he; cases he
      have i := ih hg k.calm (by omega)
      exact ⟨by rw [i.n], i.c.calm, i.c.r, i.c.e, by rw [i.c.len, k.len]⟩
    · rw [if_neg he, if_neg he]
      exact ⟨rfl, k.calm, rfl, k.e, k.len⟩
end St
end Go.Proofs.Ytmcobkcnpnfobaa

namespace Go.Proofs.Ytmcobkcnpnfobaa
open Go.RowKit
set_option linter.unusedSimpArgs false
set_option linter.unusedVariables false
namespace St

/-- a store that does not fall, behind k rounds -/
structure FitAt (w wr : World) (B sb : Nat) (X : Nat → Prop) (s : LD) (P : Prs) (u k : Nat) : Prop where
  st : Stt w wr B sb X s P u (8 * k)
  good : Good s P u (2 * k) (2 * k) (8 * k)
  calm : Calm s.d
  ok : okL (2 * (30 - k)) s
  u : u ≤ 2 * k

theorem lists2 {w1 w2 : World} {v1 v2 : Value} {c1 c2 : List Chg} {w0 : World} (h1 : HasC (fun k => w0.heap.size ≤ k) w1 v1 c1) (h2 : HasC (fun k => w0.heap.size ≤ k) w2 v2 c2) (o : Only (fun _ => False) w1 w2) (o0 : w0.heap.size ≤ w2.heap.size) :
    HasCC (fun k => w0.heap.size ≤ k) (w2.alloc (.cells #[v1, v2] 33)) (.slice (some ⟨w2.heap.size, 0, none⟩) 2 2) [c1, c2] :=
  hasCC_lit [v1, v2] [c1, c2] (heap_alloc_new w2 _) ⟨(h1.same o).same ((Only.refl _ _).alloc _), h2.same ((Only.refl _ _).alloc _), trivial⟩ o0 (by simp)

set_option maxHeartbeats 4000000 in
set_option maxRecDepth 100000 in
theorem storeFits_any (n : Int) (lv : Value) (m : Nat) (X : Nat → St5) (w : World) (hX : Steps5 w lv m X) :
    Calls Try.prog 5 #[.int .i64 n, lv] w fun e w' => e = .returned (.bool true) ∧ Only (fun _ => False) w w' := by
  obtain ⟨lo, lc, hls, hlm, hcm, hcells⟩ := hX.shape
  subst hls
  have HEACH := hide hX.each
  have HCELLS := hide hcells
  have hmx : (m : Int) < 9223372036854775808 := by unfold maxLen at hcm; omega
  clear hX hcells
  obtain ⟨q, hq⟩ := Int.eq_ofNat_of_zero_le (Int.emod_nonneg n (by decide : (20 : Int) ≠ 0))
  have hq2 := Int.emod_lt_of_pos n (by decide : (0 : Int) < 20)
  have HQ := hide hq
  rw [hq] at hq2
  obtain ⟨N, hN⟩ : ∃ N, N = 8 + q := ⟨_, rfl⟩
  have HN8 : Hid ((8 : Int) + q = (N : Int)) := by show (8 : Int) + q = (N : Int); omega
  have hN8 : 8 ≤ N := by omega
  have hN37 : N ≤ 37 := by omega
  clear hq hN
  go_enter Try.func5, Try.ntmps5
  go_wp2_with fail
  refine (pick_any n 20 w (by decide) (by decide)).mono ?_
  rintro e w ⟨rfl, rfl⟩
  rw [unhide HQ]
  go_wp2_with fail
  rw [unhide HN8]
  refine (dks_new N hN8 (by omega) w w (Only.refl _ _)).mono ?_
  rintro e w1 ⟨B, F, rfl, hd, hF, o1⟩
  have HOP := hide (stt_open (s := ⟨⟨Wal.Hd.zero, 0, false⟩, Dk.new N⟩) hd (by show (Dk.new N).works ≤ _; simp [Dk.new]) (good_new N hN8 (by omega)) (by decide) (by decide))
  clear hd o1 hF
  go_wp2_with fail
  refine (unhide HOP).mono ?_
  rintro e w2 ⟨sb, X2, rfl, hs, hX2, o2⟩
  have HS := hide hs
  clear hs o2 HOP hX2
  go_wp2_with fail
  refine (known_any w2).mono ?_
  rintro e w3 ⟨rfl, o3⟩
  have HF3 : Hid (FitAt w w3 B sb X2 ⟨⟨Wal.Hd.zero, 0, false⟩, Dk.new N⟩ [] 0 0) := ⟨(unhide HS).same o3, good_new N hN8 (by omega), ⟨rfl, rfl⟩, ⟨by simp [Dk.new], by simp [Dk.new, Dk.half]; omega⟩, by omega⟩
  clear HS o3
  go_wp2_with fail
  go_loopw [9, 10, 11, 12, 13] (fun i _ _ _ _ wr => ∃ k X s P u, k ≤ m ∧ k ≤ 30 ∧ i = .int .i64 k ∧ FitAt w wr B sb X s P u k) (fun i _ _ _ _ _ => 30 - (intOf i).toNat)
  case atStart => exact ⟨0, X2, _, [], 0, Nat.zero_le _, by decide, rfl, unhide HF3⟩
  case round =>
    obtain ⟨k, Xr, s, P, u, hkm, hk30, rfl, hfa⟩ := hrel
    have HFA := hide hfa
    have HON := hide hfa.st.only
    clear hfa HF3
    by_cases hlt : k < m
    · by_cases hl30 : k < 30
      · have hli : (k : Int) < m := by omega
        have hl30i : (k : Int) < 30 := by omega
        obtain ⟨bb, off, hao, hbw, hcs⟩ := unhide HCELLS (by omega)
        subst hao
        obtain ⟨x0, x1, x2, x3, x4⟩ := hcs k hlt
        have y2 := (unhide HON).cell x2 (fun h => h)
        have y3 := (unhide HON).cell x3 (fun h => h)
        have HST := hide ((unhide HEACH k hlt).same (unhide HON))
        generalize X k = st at *
        obtain ⟨a2, a2c, ha2, _⟩ := (unhide HST).l.shape
        obtain ⟨a3, a3c, ha3, _⟩ := (unhide HST).m.shape
        have HL := hide (fun (W : World) (o : Only (fun _ => False) wr W) => list_any ((unhide HST).l.same o) 5 (by decide))
        have HM := hide (fun (W : World) (o : Only (fun _ => False) wr W) => list_any ((unhide HST).m.same o) 3 (by decide))
        rw [ha2] at y2 HL
        rw [ha3] at y3 HM
        clear x0 x1 x2 x3 x4 hcs ha2 ha3
        go_wp2_with fail
        refine wp_region_held_drew (S := (fun w' => w'.cell? ⟨bb, off + k * 5 + 2, none⟩ = some (.slice a2 st.lm a2c) ∧ w'.cell? ⟨bb, off + k * 5 + 3, none⟩ = some (.slice a3 st.mm a3c))) (by kernel_rfl) (⟨y2, y3⟩) (fun hHeld => ?_)
        refine wpAnyH_take (i := 0) (v := ?v90) rfl (by kernel_rfl) (by kernel_rfl) (by kernel_rfl) (fun _ _ _ h => h) (Or.inl ⟨by rfl, ?hy90⟩) (by assumption) ?rest90
        case hy90 =>
          intro w hSw
          go_simp
          try with_reducible rfl
        try simp only [Act.put, List.setIfInBounds_toArray, List.set_cons_zero, List.set_cons_succ, List.getElem_toArray, List.getElem_cons_succ, List.getElem_cons_zero]
        refine wpAnyH_take (i := 1) (v := ?v91) rfl (by kernel_rfl) (by kernel_rfl) (by kernel_rfl) (fun _ _ _ h => h) (Or.inl ⟨by rfl, ?hy91⟩) (by assumption) ?rest91
        case hy91 =>
          intro w hSw
          go_simp
          try with_reducible rfl
        try simp only [Act.put, List.setIfInBounds_toArray, List.set_cons_zero, List.set_cons_succ, List.getElem_toArray, List.getElem_cons_succ, List.getElem_cons_zero]
        refine wpAnyH_take (i := 2) (v := ?v92) rfl (by kernel_rfl) (by kernel_rfl) (by kernel_rfl) (fun _ _ _ h => h) (Or.inl ⟨by rfl, ?hy92⟩) (by assumption) ?rest92
        case hy92 =>
          intro w hSw
          go_simp
          try with_reducible rfl
        try simp only [Act.put, List.setIfInBounds_toArray, List.set_cons_zero, List.set_cons_succ, List.getElem_toArray, List.getElem_cons_succ, List.getElem_cons_zero]
        refine wpAnyH_take (i := 3) (v := ?v93) rfl (by kernel_rfl) (by kernel_rfl) (by kernel_rfl) (fun _ _ _ h => h) (Or.inl ⟨by rfl, ?hy93⟩) (by assumption) ?rest93
        case hy93 =>
          intro w hSw
          go_simp
          try with_reducible rfl
        try simp only [Act.put, List.setIfInBounds_toArray, List.set_cons_zero, List.set_cons_succ, List.getElem_toArray, List.getElem_cons_succ, List.getElem_cons_zero]
        refine wpAnyH_take (i := 4) (v := ?v94) rfl (by kernel_rfl) (by kernel_rfl) (by kernel_rfl) (fun _ _ _ h => h) (Or.inl ⟨by rfl, ?hy94⟩) (by assumption) ?rest94
        case hy94 =>
          intro w hSw
          (obtain ⟨q0, q1⟩ := hSw; go_simp; try with_reducible rfl)
        try simp only [Act.put, List.setIfInBounds_toArray, List.set_cons_zero, List.set_cons_succ, List.getElem_toArray, List.getElem_cons_succ, List.getElem_cons_zero]
        refine wpAnyH_take (i := 6) (v := ?v95) rfl (by kernel_rfl) (by kernel_rfl) (by kernel_rfl) (fun _ _ _ h => h) (Or.inl ⟨by rfl, ?hy95⟩) (by assumption) ?rest95
        case hy95 =>
          intro w hSw
          go_simp
          try with_reducible rfl
        try simp only [Act.put, List.setIfInBounds_toArray, List.set_cons_zero, List.set_cons_succ, List.getElem_toArray, List.getElem_cons_succ, List.getElem_cons_zero]
        refine wpAnyH_take (i := 7) (v := ?v96) rfl (by kernel_rfl) (by kernel_rfl) (by kernel_rfl) (fun _ _ _ h => h) (Or.inl ⟨by rfl, ?hy96⟩) (by assumption) ?rest96
        case hy96 =>
          intro w hSw
          go_simp
          try with_reducible rfl
        try simp only [Act.put, List.setIfInBounds_toArray, List.set_cons_zero, List.set_cons_succ, List.getElem_toArray, List.getElem_cons_succ, List.getElem_cons_zero]
        refine wpAnyH_take (i := 8) (v := ?v97) rfl (by kernel_rfl) (by kernel_rfl) (by kernel_rfl) (fun _ _ _ h => h) (Or.inl ⟨by rfl, ?hy97⟩) (by assumption) ?rest97
        case hy97 =>
          intro w hSw
          go_simp
          try with_reducible rfl
        try simp only [Act.put, List.setIfInBounds_toArray, List.set_cons_zero, List.set_cons_succ, List.getElem_toArray, List.getElem_cons_succ, List.getElem_cons_zero]
        refine wpAnyH_take (i := 9) (v := ?v98) rfl (by kernel_rfl) (by kernel_rfl) (by kernel_rfl) (fun _ _ _ h => h) (Or.inl ⟨by rfl, ?hy98⟩) (by assumption) ?rest98
        case hy98 =>
          intro w hSw
          go_simp
          try with_reducible rfl
        try simp only [Act.put, List.setIfInBounds_toArray, List.set_cons_zero, List.set_cons_succ, List.getElem_toArray, List.getElem_cons_succ, List.getElem_cons_zero]
        refine wpAnyH_take (i := 10) (v := ?v99) rfl (by kernel_rfl) (by kernel_rfl) (by kernel_rfl) (fun _ _ _ h => h) (Or.inl ⟨by rfl, ?hy99⟩) (by assumption) ?rest99
        case hy99 =>
          intro w hSw
          (obtain ⟨q0, q1⟩ := hSw; go_simp; try with_reducible rfl)
        try simp only [Act.put, List.setIfInBounds_toArray, List.set_cons_zero, List.set_cons_succ, List.getElem_toArray, List.getElem_cons_succ, List.getElem_cons_zero]
        refine wpAnyH_ready (rs := [5]) (by kernel_rfl) (by simp) ?_
        refine AllReadyH.cons rfl (fun K hK => ?_) AllReadyH.nil
        go_simp
        go_wp2_with fail; refine (unhide HL _ ((Only.refl _ _).drew)).mono ?_; rintro e w4 ⟨v4, c4, rfl, hr4, hl4, hk4, o4d⟩; have o4 : Only (fun _ => False) wr w4 := ((Only.refl _ _).drew).trans o4d (fun _ _ e => e)
        refine hK.out _ _ (⟨o4.cell y2 (fun e => e), o4.cell y3 (fun e => e)⟩) (fun hHeld => ?_)
        clear hK K
        try simp only [Act.put, List.setIfInBounds_toArray, List.set_cons_zero, List.set_cons_succ, List.getElem_toArray, List.getElem_cons_succ, List.getElem_cons_zero]
        have HC4 : Hid (HasC (fun j => wr.heap.size ≤ j) w4 v4 c4) := hr4.hasC (fun j hj => hj)
        have HO4 := hide o4
        obtain ⟨v4o, v4c, hv4, _⟩ := (unhide HC4).shape
        subst hv4
        clear hr4 o4d
        refine wpAnyH_ready (rs := [11]) (by kernel_rfl) (by simp) ?_
        refine AllReadyH.cons rfl (fun K hK => ?_) AllReadyH.nil
        go_simp
        go_wp2_with fail; refine (unhide HM _ (unhide HO4)).mono ?_; rintro e w5 ⟨v5, c5, rfl, hr5, hl5, hk5, o5d⟩; have o5 : Only (fun _ => False) wr w5 := o4.trans o5d (fun _ _ e => e)
        refine hK.out _ _ (⟨o5.cell y2 (fun e => e), o5.cell y3 (fun e => e)⟩) (fun hHeld => ?_)
        clear hK K
        try simp only [Act.put, List.setIfInBounds_toArray, List.set_cons_zero, List.set_cons_succ, List.getElem_toArray, List.getElem_cons_succ, List.getElem_cons_zero]
        have HC5 : Hid (HasC (fun j => wr.heap.size ≤ j) w5 v5 c5) := (hr5.hasC (fun j hj => hj)).mono (fun j _ (hj : w4.heap.size ≤ j) => by have := o4.size; omega)
        have HO5 := hide o5
        have HO45 := hide o5d
        obtain ⟨v5o, v5c, hv5, _⟩ := (unhide HC5).shape
        subst hv5
        clear hr5 o5d o4
        have HCC := hide (lists2 (unhide HC4) (unhide HC5) (unhide HO45) (unhide HO5).size)
        have o6 : Only (fun _ => False) wr (w5.alloc (.cells #[.slice v4o c4.length v4c, .slice v5o c5.length v5c] 33)) := o5.alloc _
        refine wpAnyH_ready (rs := [12]) (by kernel_rfl) (by simp) ?_
        refine AllReadyH.cons rfl (fun K hK => ?_) AllReadyH.nil
        go_simp
        refine hK.out _ _ (⟨o6.cell y2 (fun e => e), o6.cell y3 (fun e => e)⟩) (fun hHeld => ?_)
        clear hK K
        try simp only [Act.put, List.setIfInBounds_toArray, List.set_cons_zero, List.set_cons_succ, List.getElem_toArray, List.getElem_cons_succ, List.getElem_cons_zero]
        generalize w5.alloc (.cells #[.slice v4o c4.length v4c, .slice v5o c5.length v5c] 33) = w6 at *
        refine wpAnyH_take (i := 13) (v := ?v100) rfl (by kernel_rfl) (by kernel_rfl) (by kernel_rfl) (fun _ _ _ h => h) (Or.inl ⟨by rfl, ?hy100⟩) (by assumption) ?rest100
        case hy100 =>
          intro w hSw
          go_simp
          try with_reducible rfl
        try simp only [Act.put, List.setIfInBounds_toArray, List.set_cons_zero, List.set_cons_succ, List.getElem_toArray, List.getElem_cons_succ, List.getElem_cons_zero]
        refine wpAnyH_done (by kernel_rfl) ?_ _
        have hlt6 := (unhide HFA).st.lt
        have HS6 := hide ((unhide HFA).st.same o6)
        have HX6 : Hid (HasCC (fun j => ¬ Xr j) w6 (.slice (some ⟨w5.heap.size, 0, none⟩) 2 2) [c4, c5]) := (unhide HCC).mono (fun j _ hj e => by have := (hlt6 j e).2; omega)
        have htot : tot [c4, c5] ≤ 8 := by simp [tot]; omega
        have huk := (unhide HFA).u
        have hok2 : okL [c4, c5].length s := ⟨by have := (unhide HFA).ok.1; simp; omega, (unhide HFA).ok.2⟩
        have HFT := hide (fits_any (unhide HS6) _ [c4, c5] (unhide HX6) (by omega) (by simp; omega))
        have HCO := hide (fun (W : World) (o : Only (fun _ => False) w6 W) => stt_commit ((unhide HS6).same o) _ [c4, c5] ((unhide HX6).same o) (by omega) (by simp; omega) hok2)
        have hE := each_good [c4, c5] (unhide HFA).good (by simp; omega)
        have hC := each_calm [c4, c5] (unhide HFA).good (unhide HFA).calm (by simp; omega)
        have hK := each_ok w [c4, c5] (s := s) (P := P) (u := u) (2 * (30 - (k + 1))) ⟨by have := (unhide HFA).ok.1; simp; omega, (unhide HFA).ok.2⟩
        have hdead : s.l.dead = false := by obtain ⟨_, _, hs, _⟩ := (unhide HFA).good; exact hs.alive
        have hfit : fitsS s P u [c4, c5] = decide ((keepEachS apL reL [c4, c5] s P u).2.e = 0) := by
          unfold fitsS
          rw [hdead]
          have := hC.c.r
          unfold roomOf at this
          rw [this]
          simp
        rw [hfit] at HFT
        obtain ⟨qq, hqq⟩ : ∃ qq, qq = keepEachS apL reL [c4, c5] s P u := ⟨_, rfl⟩
        have HNEXT : Hid (∀ (w8 : World) (X8 : Nat → Prop), Stt w w8 B sb X8 qq.2.s qq.2.P qq.2.u (8 * k + tot [c4, c5]) → FitAt w w8 B sb X8 qq.2.s qq.2.P qq.2.u (k + 1)) := by
          intro w8 X8 h8
          rw [hqq] at h8 ⊢
          have hg : Good (keepEachS apL reL [c4, c5] s P u).2.s (keepEachS apL reL [c4, c5] s P u).2.P (keepEachS apL reL [c4, c5] s P u).2.u (2 * (k + 1)) (2 * (k + 1)) (8 * (k + 1)) := by
            rcases hE.out with ⟨_, _, c⟩ | ⟨_, _, c⟩ | ⟨a, _⟩
            · exact c.mono (by simp; omega) (by simp; omega) (by omega)
            · exact c.mono (by simp; omega) (by simp; omega) (by omega)
            · rcases hC.c.e with e | e | e <;> (rw [e] at a; cases a)
          refine ⟨h8.more (by omega), hg, hC.c.calm, hK, ?_⟩
          obtain ⟨_, _, _, _, _, hu, hm, _⟩ := hg
          omega
        have HTWO : Hid (qq.2.e = 0 → qq.1 = 2) := by
          intro e0
          rw [hqq] at e0 ⊢
          rcases hE.out with ⟨_, b, _⟩ | ⟨a, _, _⟩ | ⟨a, _⟩
          · exact b
          · rcases a with a | a <;> (rw [a] at e0; cases e0)
          · rw [a] at e0; cases e0
        rw [← hqq] at HFT HCO
        clear hE hC hK hfit hqq hdead hok2 y2 y3 o5 o6 hHeld HC4 HC5 HO4 HO5 HO45 HCC HL HM HST hk4 hk5
        go_wp2_with fail
        refine (unhide HFT).mono ?_
        rintro e w7 ⟨rfl, o7⟩
        have HO7 := hide o7
        clear o7
        go_wp2_with fail
        refine (unhide HCO _ (unhide HO7)).mono ?_
        rintro e w8 ⟨rfl, hw8⟩
        obtain ⟨X8, h8, _⟩ := hw8.now
        have HF8 := hide (unhide HNEXT w8 X8 h8)
        clear hw8 h8
        by_cases he : qq.2.e = 0
        · have hk2 := unhide HTWO he
          rw [he, hk2]
          clear he hk2
          go_wp2
          go_roundw
          case rel => exact ⟨k + 1, X8, _, _, _, by omega, by omega, by go_num, unhide HF8⟩
          case measure => simp [intOf]; omega
        · have heb : (qq.2.e == 0) = false := by simp [he]
          rw [decide_eq_false he]
          generalize qq.2.e = ee at *
          clear he
          go_wp2
          go_roundw
          case rel => exact ⟨k + 1, X8, _, _, _, by omega, by omega, by go_num, unhide HF8⟩
          case measure => simp [intOf]; omega
      · have hli : (k : Int) < m := by omega
        have hk30' : (k : Int) = 30 := by omega
        rw [hk30'] at hli
        rw [hk30']
        clear hk30' hl30 hlt hk30 hkm
        go_wp2
        go_ret
        exact ⟨rfl, unhide HON⟩
    · go_wp2
      go_ret
      exact ⟨rfl, unhide HON⟩
end St
end Go.Proofs.Ytmcobkcnpnfobaa
