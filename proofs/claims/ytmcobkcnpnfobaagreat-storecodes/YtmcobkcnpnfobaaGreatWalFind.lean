/-
  wal's findHead.
-/
import Derived.Test.YtmcobkcnpnfobaaGreatWalHead
namespace Go.Proofs.YtmcobkcnpnfobaaGreat
open Go.RowKit
set_option linter.unusedSimpArgs false
set_option linter.unusedVariables false
namespace Wal

theorem headIn_fine {half : Nat} {s : Option (List UInt8)} {h : Hd} (e : headIn half s = some h) : h.epoch < 18446744073709551616 ∧ h.area ≤ 1 ∧ h.used ≤ half ∧ s = some h.lay := by
  unfold headIn at e
  split at e
  · cases e
  · rename_i bs
    split at e
    · rename_i hc
      cases e
      refine ⟨?_, by omega, hc.2.1, by rw [hc.2.2]⟩
      show de ((bs.drop 8).take 8) < _
      have h1 := de_lt ((bs.drop 8).take 8)
      have h2 : ((bs.drop 8).take 8).length ≤ 8 := List.length_take_le _ _
      have h3 : 256 ^ ((bs.drop 8).take 8).length ≤ 256 ^ 8 := Nat.pow_le_pow_right (by decide) h2
      have h4 : (256 : Nat) ^ 8 = 18446744073709551616 := by decide
      omega
    · cases e

theorem pickHd_fine {half : Nat} {s t : Option (List UInt8)} : (lgOf (pickHd (headIn half s) (headIn half t))).Fine half := by
  cases ha : headIn half s with
  | none =>
    cases hb : headIn half t with
    | none => exact ⟨by decide, by decide, Nat.zero_le _, by decide⟩
    | some y => have := headIn_fine hb; exact ⟨this.1, this.2.1, this.2.2.1, Nat.zero_le _⟩
  | some x =>
    have h1 := headIn_fine ha
    cases hb : headIn half t with
    | none => exact ⟨h1.1, h1.2.1, h1.2.2.1, Nat.le_refl _⟩
    | some y =>
      have h2 := headIn_fine hb
      by_cases h : y.epoch ≤ x.epoch
      · simp only [pickHd, if_pos h]
        exact ⟨h1.1, h1.2.1, h1.2.2.1, Nat.le_refl _⟩
      · simp only [pickHd, if_neg h]
        exact ⟨h2.1, h2.2.1, h2.2.2.1, Nat.zero_le _⟩

/-- the head and the next sector are set -/
theorem LgAt.put {w : World} {L B : Nat} {l : Lg} (h : LgAt w L B l) (hd : Hd) (n : Nat) :
    LgAt ((((w.setCell ⟨L, 1, none⟩ (.int .u64 hd.epoch)).setCell ⟨L, 2, none⟩ (.int .i64 hd.area)).setCell ⟨L, 3, none⟩ (.int .i64 hd.used)).setCell ⟨L, 4, none⟩ (.int .i64 n)) L B ⟨hd, n, l.dead⟩ := by
  unfold LgAt
  rw [two_setCell (two_setCell (two_setCell (two_setCell h)))]
  rfl

theorem Only.put {w : World} {L : Nat} {S : Nat → Prop} {a : World} (h : Only S a w) (hL : L < a.heap.size → S L) (v1 v2 v3 v4 : Value) :
    Only S a ((((w.setCell ⟨L, 1, none⟩ v1).setCell ⟨L, 2, none⟩ v2).setCell ⟨L, 3, none⟩ v3).setCell ⟨L, 4, none⟩ v4) :=
  (((h.setCell (p := ⟨L, 1, none⟩) hL _).setCell (p := ⟨L, 2, none⟩) hL _).setCell (p := ⟨L, 3, none⟩) hL _).setCell (p := ⟨L, 4, none⟩) hL _

section
variable {w0 w w' : World} {F : Nat → Prop} {B L : Nat} {d : Dk} {l : Lg}

theorem Logs.put (h : Logs w0 w F B L d l) {w1 w2 : World} (o1 : Only (fun _ => False) w w1) (l' : Lg) (ha : LgAt w2 L B l') (o2 : Only (fun k => k = L) w1 w2) (hf : l'.Fine d.half) : Logs w0 w2 F B L d l' ∧ Only (fun k => k = L) w w2 := by
  have o : Only (fun k => k = L) w w2 := (o1.mono (fun _ _ e => e.elim)).trans o2 (fun _ _ e => e)
  exact ⟨⟨h.dk.later o (fun k hk e => by subst e; exact ⟨h.off, h.up⟩), ha, h.off, h.up, hf, h.works⟩, o⟩

theorem hd_beq (x y : Nat) : (decide ((x : Int) ≥ y)) = decide (y ≤ x) := by simp

set_option maxHeartbeats 1000000 in
theorem findHead_any (h : Logs w0 w F B L d l) (hl : l = ⟨Hd.zero, 0, false⟩) : Calls Tryz.prog 56 #[.pointer (some ⟨L, 0, none⟩)] w fun e w' => e = .returned (.tuple #[]) ∧ Logs w0 w' F B L d (lgOf (found d)) ∧ Only (fun k => k = L) w w' := by
  have hlt := h.lt
  have H := hide h
  have HF : Hid ((lgOf (found d)).Fine d.half) := pickHd_fine
  have HR0 := hide (readHead_any h 0 (by decide))
  have HD : Hid (lgOf (found d) = lgOf (pickHd (headIn d.half (d.sec 0)) (headIn d.half (d.sec 1)))) := rfl
  have HR1 := hide (fun (w' : World) (o : Only (fun _ => False) w w') => readHead_any (h.same o) 1 (by decide))
  have hf0 := fun x => headIn_fine (half := d.half) (s := d.sec 0) (h := x)
  have hf1 := fun x => headIn_fine (half := d.half) (s := d.sec 1) (h := x)
  generalize headIn d.half (d.sec 0) = a at *
  generalize headIn d.half (d.sec 1) = b at *
  clear h
  unfold hv at HR0 HR1
  obtain ⟨x, hx⟩ : ∃ x, x = a.getD Hd.zero := ⟨_, rfl⟩
  obtain ⟨y, hy⟩ : ∃ y, y = b.getD Hd.zero := ⟨_, rfl⟩
  rw [← hx] at HR0
  rw [← hy] at HR1
  have HX := hide hx
  have HY := hide hy
  clear hx hy
  go_enter Tryz.func56, Tryz.ntmps56
  go_wp2_with fail
  refine (unhide HR0).mono ?_
  rintro e w1 ⟨rfl, o1⟩
  go_wp2_with fail
  have hB1 := heap_alloc_new w1 (.cells #[.int .u64 x.epoch, .int .i64 x.area, .int .i64 x.used] 106)
  have o2 := o1.alloc (.cells #[.int .u64 x.epoch, .int .i64 x.area, .int .i64 x.used] 106)
  generalize w1.alloc (.cells #[.int .u64 x.epoch, .int .i64 x.area, .int .i64 x.used] 106) = w2 at *
  have HB1 := hide hB1
  clear hB1
  refine (unhide HR1 w2 o2).mono ?_
  rintro e w3 ⟨rfl, o3⟩
  have hB3 := o3.heap (unhide HB1) (fun h => h)
  have o03 := o2.trans o3 (fun _ _ e => e)
  have hB4 := heap_alloc_new w3 (.cells #[.int .u64 y.epoch, .int .i64 y.area, .int .i64 y.used] 106)
  have hne : ¬ w3.heap.size = w1.heap.size := by have := lt_of_block hB3; omega
  have hne' : ¬ w1.heap.size = w3.heap.size := by omega
  have o04 := o03.alloc (.cells #[.int .u64 y.epoch, .int .i64 y.area, .int .i64 y.used] 106)
  have hB5 := ((Only.refl (fun _ => False) w3).alloc (.cells #[.int .u64 y.epoch, .int .i64 y.area, .int .i64 y.used] 106)).heap hB3 (fun h => h)
  have HLG := hide ((unhide H).lg)
  obtain ⟨k0, k1, k2, kf⟩ := cells_three hB4
  obtain ⟨j0, j1, j2, jf⟩ := cells_three hB5
  obtain ⟨c0, c1, c2, c3, c4, c5, cf⟩ := ((unhide H).same o04).lg.cells
  have hL1 : ¬ L = w1.heap.size := by have := o1.size; omega
  have hL3 : ¬ L = w3.heap.size := by have := o03.size; omega
  have HO4 := hide o04
  have o4' : Only (fun _ => False) w3 (w3.alloc (.cells #[.int .u64 y.epoch, .int .i64 y.area, .int .i64 y.used] 106)) := (Only.refl _ _).alloc _
  have HEND := hide (fun (hd : Hd) (n : Nat) (hf : (⟨hd, n, false⟩ : Lg).Fine d.half) =>
    (unhide H).put o04 ⟨hd, n, false⟩ (by have := ((unhide H).same o04).lg.put hd n; rw [hl] at this; exact this) (Only.put (Only.refl (fun k => k = L) _) (fun _ => rfl) _ _ _ _) hf)
  have hlogs := (unhide H).same o04
  rw [hl] at hlogs
  have HEND0 := hide (And.intro hlogs (o04.mono (T := fun k => k = L) (fun _ _ e => e.elim)))
  clear hlogs
  clear o1 o2 o3 o03 hB3 hB4 hB5 o4' hlt hl
  have hEx : x.epoch < 18446744073709551616 := by
    rw [unhide HX]; cases a with | none => decide | some q => exact (hf0 q rfl).1
  have hEy : y.epoch < 18446744073709551616 := by
    rw [unhide HY]; cases b with | none => decide | some q => exact (hf1 q rfl).1
  clear hf0 hf1
  cases a with
  | none =>
    cases b with
    | none =>
      have hs : (none : Option Hd).isSome = false := rfl
      rw [hs]
      clear hs
      go_wp2
      go_end0
      rw [unhide HD]
      exact ⟨rfl, unhide HEND0⟩
    | some q =>
      have hs : (none : Option Hd).isSome = false := rfl
      have ht : (some q).isSome = true := rfl
      rw [hs, ht]
      clear hs ht
      go_wp2
      go_end0
      rw [unhide HD]
      have hyq : y = q := unhide HY
      subst hyq
      exact ⟨rfl, unhide HEND y 0 (by have := unhide HF; rw [unhide HD] at this; exact this)⟩
  | some p =>
    have hs : (some p).isSome = true := rfl
    have hxp : x = p := unhide HX
    subst hxp
    cases b with
    | none =>
      have ht : (none : Option Hd).isSome = false := rfl
      rw [hs, ht]
      clear hs ht
      go_wp2
      go_end0
      rw [unhide HD]
      exact ⟨rfl, unhide HEND x 1 (by have := unhide HF; rw [unhide HD] at this; exact this)⟩
    | some q =>
      have ht : (some q).isSome = true := rfl
      have hyq : y = q := unhide HY
      subst hyq
      rw [hs, ht]
      clear hs ht
      by_cases hle : y.epoch ≤ x.epoch
      · have hi : (y.epoch : Int) ≤ x.epoch := by omega
        have HP : Hid (pickHd (some x) (some y) = (x, 1)) := by show pickHd (some x) (some y) = (x, 1); simp only [pickHd, if_pos hle]
        go_wp2
        go_end0
        rw [unhide HD, unhide HP]
        exact ⟨rfl, unhide HEND x 1 (by have := unhide HF; rw [unhide HD, unhide HP] at this; exact this)⟩
      · have hi : ¬ (y.epoch : Int) ≤ x.epoch := by omega
        have HP : Hid (pickHd (some x) (some y) = (y, 0)) := by show pickHd (some x) (some y) = (y, 0); simp only [pickHd, if_neg hle]
        go_wp2
        go_end0
        rw [unhide HD, unhide HP]
        exact ⟨rfl, unhide HEND y 0 (by have := unhide HF; rw [unhide HD, unhide HP] at this; exact this)⟩

end
end Wal
end Go.Proofs.YtmcobkcnpnfobaaGreat
