/-
  A log over a disk that does not fall: plain.
-/
import Derived.Test.YtmcobkcnpnfobaaGreatWalDo
import Derived.Test.YtmcobkcnpnfobaaGreatWalSeen
namespace Go.Proofs.YtmcobkcnpnfobaaGreat
open Go.RowKit
set_option linter.unusedSimpArgs false
set_option linter.unusedVariables false
namespace Wal

theorem chunk_length (laid : List UInt8) (i : Nat) (h : (i + 1) * 64 ≤ laid.length) : (chunk laid i).length = 64 := by
  unfold chunk
  simp
  omega

theorem wrFrom_calm (at' : Nat) (laid : List UInt8) : ∀ (r i : Nat) (d : Dk), Calm d → at' + i + r ≤ d.secs.length → (i + r) * 64 ≤ laid.length → (wrFrom at' laid r i d).2 = 0 ∧ Calm (wrFrom at' laid r i d).1
  | 0, i, d, hc, _, _ => by
    have h := hc.flush
    unfold wrFrom
    refine ⟨h.2, ?_⟩
    show Calm d.flush
    rw [h.1]
    exact ⟨hc.down, hc.fuse⟩
  | r + 1, i, d, hc, hs, hl => by
    have hk : at' + i < d.secs.length := by omega
    have hw := hc.write (at' + i) hk (chunk laid i) (chunk_length laid i (by omega))
    unfold wrFrom
    rw [if_pos hw.2, hw.1]
    exact wrFrom_calm at' laid r (i + 1) _ ⟨hc.down, hc.fuse⟩ (by show at' + (i + 1) + r ≤ d.secs.length; omega) (by omega)

theorem wr_calm (d : Dk) (at' : Nat) (laid : List UInt8) (hc : Calm d) (hs : at' + laid.length / 64 ≤ d.secs.length) : (wr d at' laid).2 = 0 ∧ Calm (wr d at' laid).1 :=
  wrFrom_calm at' laid _ 0 d hc (by omega) (by omega)

/-- what a call on a calm log leaves -/
structure Went0 (l : Lg) (d : Dk) (r : Res) (hd : Hd) : Prop where
  e : r.e = 0
  hd : r.lg.hd = hd
  dead : r.lg.dead = l.dead
  calm : Calm r.dk
  len : r.dk.secs.length = d.secs.length
  works : r.dk.works ≤ d.works + d.secs.length + 10

theorem commit_calm (l : Lg) (d : Dk) (hd : Hd) (at' : Nat) (laid : List UInt8) (hc : Calm d) (hs : at' + laid.length / 64 ≤ d.secs.length) (hn : l.next ≤ 1) (h2 : 8 ≤ d.secs.length) : Went0 l d (commit l d hd at' laid) hd := by
  obtain ⟨e1, c1⟩ := wr_calm d at' laid hc hs
  have l1 := wr_len d at' laid
  have w1 := wr_works d at' laid
  obtain ⟨e2, c2⟩ := wr_calm (wr d at' laid).1 l.next hd.lay c1 (by rw [Hd.lay_length, l1]; omega)
  have l2 := wr_len (wr d at' laid).1 l.next hd.lay
  have w2 := wr_works (wr d at' laid).1 l.next hd.lay
  rw [Hd.lay_length] at w2
  have h : commit l d hd at' laid = ⟨⟨hd, 1 - l.next, l.dead⟩, (wr (wr d at' laid).1 l.next hd.lay).1, 0⟩ := by
    unfold commit
    simp only [if_pos e1, if_pos e2]
  rw [h]
  exact ⟨rfl, rfl, rfl, c2, by rw [l2, l1], by show (wr (wr d at' laid).1 l.next hd.lay).1.works ≤ _; omega⟩

theorem append_calm (l : Lg) (d : Dk) (us : List (List UInt8)) (hc : Calm d) (hf : d.Fine) (hl : l.Fine d.half) (hd : l.dead = false) (hu : us ≠ []) (hr : ¬ d.half < l.hd.used + sizes us) :
    Went0 l d (append l d us) ⟨next1 l.hd.epoch, l.hd.area, l.hd.used + sizes us⟩ := by
  have hh := half_le d hf
  have h1 := hf.n1
  have ha : l.hd.area * d.half ≤ 1 * d.half := Nat.mul_le_mul_right _ hl.area
  have hle := layAll_length us
  unfold append
  rw [hd, if_neg (by decide), if_neg hu, if_neg hr]
  exact commit_calm l d _ _ _ hc (by rw [hle]; unfold start; omega) hl.next h1
theorem reset_calm (l : Lg) (d : Dk) (u : List UInt8) (hc : Calm d) (hf : d.Fine) (hl : l.Fine d.half) (hd : l.dead = false) (hr : ¬ d.half < size u) :
    Went0 l d (reset l d u) ⟨next1 l.hd.epoch, 1 - l.hd.area, size u⟩ := by
  have hh := half_le d hf
  have h1 := hf.n1
  have ha : (1 - l.hd.area) * d.half ≤ 1 * d.half := Nat.mul_le_mul_right _ (by omega)
  have hle := lay_length u
  unfold reset
  rw [hd, if_neg (by decide), if_neg hr]
  exact commit_calm l d _ _ _ hc (by rw [hle]; unfold start; omega) hl.next h1
theorem append_full (l : Lg) (d : Dk) (us : List (List UInt8)) (hd : l.dead = false) (hu : us ≠ []) (hr : d.half < l.hd.used + sizes us) : append l d us = ⟨l, d, 2⟩ := by
  unfold append
  rw [hd, if_neg (by decide), if_neg hu, if_pos hr]
theorem append_none (l : Lg) (d : Dk) (hd : l.dead = false) : append l d [] = ⟨l, d, 0⟩ := by
  unfold append
  rw [hd, if_neg (by decide), if_pos rfl]
theorem reset_full (l : Lg) (d : Dk) (u : List UInt8) (hd : l.dead = false) (hr : d.half < size u) : reset l d u = ⟨l, d, 2⟩ := by
  unfold reset
  rw [hd, if_neg (by decide), if_pos hr]

end Wal
end Go.Proofs.YtmcobkcnpnfobaaGreat
