/-
  A store over a disk that does not fall: plain.
-/
import Derived.Test.YtmcobkcnpnfobaaStStore
import Derived.Test.YtmcobkcnpnfobaaStFits
namespace Go.Proofs.Ytmcobkcnpnfobaa
open Go.RowKit
set_option linter.unusedSimpArgs false
set_option linter.unusedVariables false
namespace St

/-- what is left, reckoned -/
def roomOf (s : LD) : RM := ⟨s.d.half - s.l.hd.used, s.d.half⟩

/-- the same, reckoned -/
structure Calm2 (s : LD) (k : KRes LD) (r : KRes RM) : Prop where
  calm : Calm k.s.d
  r : r = ⟨k.e, roomOf k.s, k.P, k.u⟩
  e : k.e = 0 ∨ k.e = 1 ∨ k.e = 2
  len : k.s.d.secs.length = s.d.secs.length

theorem reset_full' (l : Wal.Lg) (d : Dk) (u : List UInt8) (hd : l.dead = false) (hr : d.half < Wal.size u) : Wal.reset l d u = ⟨l, d, 2⟩ := by
  unfold Wal.reset
  rw [hd, if_neg (by decide), if_pos hr]

theorem keep_calm {s : LD} {P : Prs} {u N M T : Nat} (h : Good s P u N M T) (hc : Calm s.d) (l : List Chg) : Calm2 s (keepS apL reL s P u l) (keepS apR reR (roomOf s) P u l) := by
  obtain ⟨us, lss, hs, _⟩ := h
  have hf := hs.fine
  have hl := hs.lfine
  have hd : s.l.dead = false := hs.alive
  have hused := hl.used
  unfold keepS
  cases hlc : layChanges l with
  | none => exact ⟨hc, rfl, Or.inr (Or.inl rfl), rfl⟩
  | some b =>
    simp only
    by_cases hnil : l = []
    · rw [if_pos hnil, if_pos hnil]
      exact ⟨hc, rfl, Or.inl rfl, rfl⟩
    · rw [if_neg hnil, if_neg hnil]
      by_cases hr : s.d.half < s.l.hd.used + Wal.size b
      · have e1 : apL s b = (2, s) := by
          unfold apL
          rw [Wal.append_full s.l s.d [b] hd (by simp) (by rw [one_size]; exact hr)]
        have e2 : apR (roomOf s) b = (2, roomOf s) := by
          unfold apR roomOf
          rw [if_pos (by show s.d.half - s.l.hd.used < Wal.size b; omega)]
        rw [e1, e2]
        simp only
        rw [if_neg (by decide), if_pos trivial, if_neg (by decide), if_pos trivial]
        unfold keepAnewS
        cases hla : layChanges (allOf (done P l)) with
        | none => exact ⟨hc, rfl, Or.inr (Or.inr rfl), rfl⟩
        | some b2 =>
          simp only
          by_cases hr2 : s.d.half < Wal.size b2
          · have e3 : reL s b2 = (2, s) := by
              unfold reL
              rw [reset_full' s.l s.d b2 hd hr2]
            have e4 : reR (roomOf s) b2 = (2, roomOf s) := by
              unfold reR roomOf
              rw [if_pos hr2]
            rw [e3, e4, if_neg (show ¬ (2 : Int) = 0 by decide), if_neg (show ¬ (2 : Int) = 0 by decide)]
            exact ⟨hc, rfl, Or.inr (Or.inr rfl), rfl⟩
          · have w := Wal.reset_calm s.l s.d b2 hc hf hl hd hr2
            have e3 : (reL s b2).1 = 0 := w.e
            have e4 : reR (roomOf s) b2 = (0, ⟨s.d.half - Wal.size b2, s.d.half⟩) := by
              unfold reR roomOf
              rw [if_neg hr2]
            have hh : (Wal.reset s.l s.d b2).dk.half = s.d.half := Wal.half_len w.len
            rw [if_pos e3, e4, if_pos rfl]
            refine ⟨w.calm, ?_, Or.inl rfl, w.len⟩
            show _ = KRes.mk 0 (RM.mk ((Wal.reset s.l s.d b2).dk.half - (Wal.reset s.l s.d b2).lg.hd.used) (Wal.reset s.l s.d b2).dk.half) _ _
            rw [hh, w.hd]
      · have w := Wal.append_calm s.l s.d [b] hc hf hl hd (by simp) (by rw [one_size]; exact hr)
        rw [one_size] at w
        have e1 : (apL s b).1 = 0 := w.e
        have e2 : apR (roomOf s) b = (0, ⟨s.d.half - s.l.hd.used - Wal.size b, s.d.half⟩) := by
          unfold apR roomOf
          rw [if_neg (by show ¬ s.d.half - s.l.hd.used < Wal.size b; omega)]
        have hh : (Wal.append s.l s.d [b]).dk.half = s.d.half := Wal.half_len w.len
        rw [if_pos e1, e2, if_pos rfl]
        refine ⟨w.calm, ?_, Or.inl rfl, w.len⟩
        show _ = KRes.mk 0 (RM.mk ((Wal.append s.l s.d [b]).dk.half - (Wal.append s.l s.d [b]).lg.hd.used) (Wal.append s.l s.d [b]).dk.half) _ _
        rw [hh, w.hd]
        simp only [KRes.mk.injEq, RM.mk.injEq, and_true, true_and]
        omega

/-- all, one behind the other -/
structure Calms (s : LD) (q : Nat × KRes LD) (r : Nat × KRes RM) : Prop where
  n : q.1 = r.1
  c : Calm2 s q.2 r.2

theorem each_calm (ls : List (List Chg)) : ∀ {s : LD} {P : Prs} {u N M T : Nat}, Good s P u N M T → Calm s.d → N + ls.length < 18446744073709551615 → Calms s (keepEachS apL reL ls s P u) (keepEachS apR reR ls (roomOf s) P u) := by
  induction ls with
  | nil =>
    intro s P u N M T h hc hN
    exact ⟨rfl, hc, rfl, Or.inl rfl, rfl⟩
  | cons l ls ih =>
    intro s P u N M T h hc hN
    have k := keep_calm h hc l
    simp only [List.length_cons] at hN
    have g := keep_good h l (by omega)
    unfold keepEachS
    simp only
    rw [k.r]
    simp only
    by_cases he : (keepS apL reL s P u l).e = 0
    · rw [if_pos he, if_pos he]
      have hg : Good (keepS apL reL s P u l).s (keepS apL reL s P u l).P (keepS apL reL s P u l).u (N + 1) (M + 1) (T + l.length) := by
        cases g with
        | no he2 _ => rcases he2 with e | e <;> (rw [e] at he; cases he)
        | yes _ _ hg => exact hg
        | fell he2 _ _ _ => rw [he2] at he; cases he
      have i := ih hg k.calm (by omega)
      exact ⟨by rw [i.n], i.c.calm, i.c.r, i.c.e, by rw [i.c.len, k.len]⟩
    · rw [if_neg he, if_neg he]
      exact ⟨rfl, k.calm, rfl, k.e, k.len⟩
end St
end Go.Proofs.Ytmcobkcnpnfobaa
