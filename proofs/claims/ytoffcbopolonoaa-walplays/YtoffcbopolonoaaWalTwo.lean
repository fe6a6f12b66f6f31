/-
  A log and the reference's, side by side: what WalPlays' loop keeps.
-/
import Derived.Test.YtoffcbopolonoaaRfTwo
import Derived.Test.YtoffcbopolonoaaWalSeen
namespace Go.Proofs.Ytoffcbopolonoaa
open Go.RowKit
set_option linter.unusedSimpArgs false
set_option linter.unusedVariables false
/-- copy of bytes, few or many, over a row that is owned: as many bytes are there as before. -/
theorem wpList_copy_part {P : Program} {w : World} {ops : Array Oper} {rest : List Oper} {o : Oper} {a : Act} {Q : Exit → Act → World → Prop} (hgd : o.guard = none) (d s : Operand) (t : TypeId)
    (ho : o.op = .call { callee := .builtin .copy, args := #[d, s], argTypes := #[t, t] }) (base e : TypeId) (hu : P.underlying t = some (.slice e)) (hsz : (P.info? e).map (·.size) = some 1)
    (g : Nat) (zs : List UInt8) (hd : a.eval d = .slice (some ⟨g, 0, none⟩) zs.length zs.length) (xv : Value) (us : List UInt8) (hs : a.eval s = xv) (hx : Has w xv us)
    (hown : w.ownsRow base e 1 (.slice (some ⟨g, 0, none⟩) zs.length zs.length) zs.length (zs.map bv))
    (h : ∀ (w' : World) (cs : List UInt8) (k : Nat), cs.length = zs.length → w'.ownsRow base e 1 (.slice (some ⟨g, 0, none⟩) zs.length zs.length) zs.length (cs.map bv) → w.grownBy w' (some g) → wpList P ops Q rest (a.put o.dst (goInt k)) w') : wpList P ops Q (o :: rest) a w := by
  have hown0 := hown
  obtain ⟨hzl, hz⟩ := hown
  rcases hz with ⟨h0, _⟩ | ⟨g', cap, cur, hv, hb, hg, hc, hm, hcs, ht⟩
  · simp at h0
  simp only [Value.slice.injEq, Option.some.injEq, Addr.mk.injEq, and_true, true_and] at hv
  obtain ⟨rfl, rfl⟩ := hv
  rw [Nat.mul_one] at hcs ht
  have hzero : us = [] → wpList P ops Q (o :: rest) a w := fun e => by
    subst e
    obtain ⟨xo, xc, rfl, _⟩ := hx.shape
    refine wpList_copy_nothing hgd d s t t ho _ hu hsz _ _ _ _ _ _ hd hs (by simp) ?_
    exact h w zs 0 rfl hown0 ⟨rfl, rfl, rfl, Nat.le_refl _, fun _ _ _ => rfl⟩
  rcases hx with ⟨rfl, rfl⟩ | ⟨ad, cap', rfl, hsp, _, _, _, hcell⟩
  · exact hzero rfl
  · have hcur : cur.toList = zs.map bv := by rw [← ht, List.take_of_length_le (by rw [Array.length_toList]; omega)]
    have hkl : ((us.take zs.length).map bv).length = Nat.min us.length zs.length := by rw [List.length_map, List.length_take]; exact Nat.min_comm _ _
    have hkz : ((us.take zs.length).map bv).length ≤ zs.length := by rw [List.length_map, List.length_take]; exact Nat.min_le_left _ _
    refine wpList_copy_own hgd d s t t ho _ hu hsz g 0 _ _ ad _ _ hd hs cur e hg ((us.take zs.length).map bv) hkl ?_ (by omega) (fun u hu => by obtain ⟨b, _, rfl⟩ := List.mem_map.1 hu; rfl) ?_
    · intro j u hju
      have hj1 : j < (us.take zs.length).length := by have := (List.getElem?_eq_some_iff.1 hju).1; rwa [List.length_map] at this
      have hj : j < us.length := by rw [List.length_take] at hj1; omega
      rw [addr_add ad (hsp (by omega))]
      rw [hcell j hj]
      rw [List.getElem?_map, List.getElem?_eq_getElem hj1, Option.map_some, List.getElem_take] at hju
      exact hju
    · have hlen : (us.take zs.length ++ zs.drop (us.take zs.length).length).length = zs.length := by
        rw [List.length_append, List.length_drop]
        rw [List.length_map] at hkz
        omega
      have hrow : (cur.toList.take 0 ++ ((us.take zs.length).map bv ++ cur.toList.drop (0 + ((us.take zs.length).map bv).length))) = (us.take zs.length ++ zs.drop (us.take zs.length).length).map bv := by
        rw [hcur, List.take_zero, List.nil_append, Nat.zero_add, List.length_map, List.map_append, List.map_drop]
      rw [hrow]
      refine h _ (us.take zs.length ++ zs.drop (us.take zs.length).length) _ hlen ⟨by rw [List.length_map, hlen, Nat.mul_one], Or.inr ⟨g, _, _, rfl, hb, setRow_heap w g cur _ e _ hg, Nat.le_refl _, hm, ?_, ?_⟩⟩ ⟨rfl, rfl, rfl, by simp [World.setRow], fun k _ hk => setRow_other w g k _ (fun e => hk (by rw [e]))⟩
      · rw [List.size_toArray, List.length_map, hlen, Nat.mul_one]
      · rw [Nat.mul_one]
        exact List.take_of_length_le (by rw [List.length_map, hlen]; exact Nat.le_refl _)

namespace Wal

theorem pcommit_len (l : Lg) (d : Dk) (h : Hd) (at' : Nat) (laid : List UInt8) : (commit l d h at' laid).dk.secs.length = d.secs.length ∧ (commit l d h at' laid).dk.works ≤ d.works + laid.length / 64 + 3 := by
  have l1 := wr_len d at' laid
  have w1 := wr_works d at' laid
  have l2 := wr_len (wr d at' laid).1 l.next h.lay
  have w2 := wr_works (wr d at' laid).1 l.next h.lay
  rw [Hd.lay_length] at w2
  unfold commit
  by_cases h1 : (wr d at' laid).2 = 0
  · simp only [if_pos h1]
    by_cases h2 : (wr (wr d at' laid).1 l.next h.lay).2 = 0
    · simp only [if_pos h2]
      exact ⟨by rw [l2, l1], by omega⟩
    · simp only [if_neg h2]
      exact ⟨by rw [l2, l1], by omega⟩
  · simp only [if_neg h1]
    exact ⟨l1, by omega⟩
theorem pappend_len (l : Lg) (d : Dk) (us : List (List UInt8)) : (append l d us).dk.secs.length = d.secs.length ∧ (append l d us).dk.works ≤ d.works + d.half + 3 := by
  unfold append
  split
  · exact ⟨rfl, by show d.works ≤ _; omega⟩
  · split
    · exact ⟨rfl, by show d.works ≤ _; omega⟩
    · split
      · exact ⟨rfl, by show d.works ≤ _; omega⟩
      · have := pcommit_len l d ⟨next1 l.hd.epoch, l.hd.area, l.hd.used + sizes us⟩ (start d l.hd.area + l.hd.used) (layAll us)
        rw [layAll_length] at this
        exact ⟨this.1, by omega⟩
theorem preset_len (l : Lg) (d : Dk) (u : List UInt8) : (reset l d u).dk.secs.length = d.secs.length ∧ (reset l d u).dk.works ≤ d.works + d.half + 3 := by
  unfold reset
  split
  · exact ⟨rfl, by show d.works ≤ _; omega⟩
  · split
    · exact ⟨rfl, by show d.works ≤ _; omega⟩
    · have := pcommit_len l d ⟨next1 l.hd.epoch, 1 - l.hd.area, size u⟩ (start d (1 - l.hd.area)) (lay u)
      rw [lay_length] at this
      exact ⟨this.1, by omega⟩

/-- both logs, apart; a block o at hb that is neither's -/
structure Two (w0 w : World) (F G : Nat → Prop) (B L R M : Nat) (dd dr : Dk) (la lr : Lg) (s : Int) : Prop where
  lg : Logs w0 w F B L dd la
  rg : RLogs w0 w G R M dr lr s
  apart : ∀ k, F k ∨ k = L → ¬ (G k ∨ k = M)

structure Box (w : World) (F G : Nat → Prop) (L M hb : Nat) (o : Obj) : Prop where
  at' : w.heap[hb]? = some o
  fF : ¬ F hb
  fL : hb ≠ L
  fG : ¬ G hb
  fM : hb ≠ M

section
variable {w0 w w' : World} {F G F' G' : Nat → Prop} {B L R M hb : Nat} {dd dr d' : Dk} {la lr l' : Lg} {s s' : Int} {o : Obj}

theorem Two.same (h : Two w0 w F G B L R M dd dr la lr s) (ho : Only (fun _ => False) w w') : Two w0 w' F G B L R M dd dr la lr s := ⟨h.lg.same ho, h.rg.same ho, h.apart⟩
theorem Box.same (h : Box w F G L M hb o) (ho : Only (fun _ => False) w w') : Box w' F G L M hb o := ⟨ho.heap h.at' (fun h => h), h.fF, h.fL, h.fG, h.fM⟩

theorem Two.went (h : Two w0 w F G B L R M dd dr la lr s) (hw : LWent w0 w w' F F' B L d' l') : Two w0 w' F' G B L R M d' dr l' lr s := by
  refine ⟨hw.lg, h.rg.later hw.only (fun k hk hs => ?_), fun k hk hg => ?_⟩
  · have ha := h.apart k hs
    refine ⟨fun e => ha (Or.inl e), ?_, fun e => ha (Or.inr e)⟩
    rcases hs with hs | hs
    · exact h.lg.dk.up k hs
    · rw [hs]; exact h.lg.up
  · rcases hk with hk | hk
    · rcases hw.grew k hk with e | e
      · exact h.apart k (Or.inl e) hg
      · rcases hg with hg | hg
        · have := h.rg.rk.lt k hg; omega
        · have := h.rg.lt; omega
    · exact h.apart k (Or.inr hk) hg
theorem Two.rwent (h : Two w0 w F G B L R M dd dr la lr s) (hw : RLWent w0 w w' G G' R M d' l' s') : Two w0 w' F G' B L R M dd d' la l' s' := by
  refine ⟨h.lg.later hw.only (fun k hk hs => ?_), hw.lg, fun k hk hg => ?_⟩
  · refine ⟨fun e => h.apart k (Or.inl e) hs, ?_, fun e => h.apart k (Or.inr e) hs⟩
    rcases hs with hs | hs
    · exact h.rg.rk.up k hs
    · rw [hs]; exact h.rg.up
  · rcases hg with hg | hg
    · rcases hw.grew k hg with e | e
      · exact h.apart k hk (Or.inl e)
      · rcases hk with hk | hk
        · have := h.lg.dk.lt k hk; omega
        · have := h.lg.lt; omega
    · exact h.apart k hk (Or.inr hg)

theorem Box.went (h : Box w F G L M hb o) (hw : LWent w0 w w' F F' B L d' l') : Box w' F' G L M hb o := by
  have hl := lt_of_block h.at'
  refine ⟨hw.only.heap h.at' (fun e => by rcases e with e | e; exact h.fF e; exact h.fL e), fun e => ?_, h.fL, h.fG, h.fM⟩
  rcases hw.grew hb e with e | e
  · exact h.fF e
  · omega
theorem Box.rwent (h : Box w F G L M hb o) (hw : RLWent w0 w w' G G' R M d' l' s') : Box w' F G' L M hb o := by
  have hl := lt_of_block h.at'
  refine ⟨hw.only.heap h.at' (fun e => by rcases e with e | e; exact h.fG e; exact h.fM e), h.fF, h.fL, fun e => ?_, h.fM⟩
  rcases hw.grew hb e with e | e
  · exact h.fG e
  · omega

theorem Two.lt (h : Two w0 w F G B L R M dd dr la lr s) (k : Nat) (hk : F k ∨ k = L ∨ G k ∨ k = M) : k < w.heap.size := by
  rcases hk with e | e | e | e
  · exact h.lg.dk.lt k e
  · rw [e]; exact h.lg.lt
  · exact h.rg.rk.lt k e
  · rw [e]; exact h.rg.lt
/-- a new block is neither's -/
theorem Two.fresh (h : Two w0 w F G B L R M dd dr la lr s) {j : Nat} (hj : w.heap.size ≤ j) : (¬ F j ∧ j ≠ L) ∧ (¬ G j ∧ j ≠ M) :=
  ⟨⟨fun e => by have := h.lt j (Or.inl e); omega, fun e => by have := h.lt j (Or.inr (Or.inl e)); omega⟩, ⟨fun e => by have := h.lt j (Or.inr (Or.inr (Or.inl e))); omega, fun e => by have := h.lt j (Or.inr (Or.inr (Or.inr e))); omega⟩⟩

/-- what is new, and is read, stays behind the one log's call -/
theorem Two.hasNew {w1 : World} (h : Two w0 w F G B L R M dd dr la lr s) (ho : Only (fun _ => False) w w1) {v : Value} {us : List UInt8} (hv : Has w1 v us) (hn : ∀ j, blk v = some j → w.heap.size ≤ j) (hw : LWent w0 w1 w' F F' B L d' l') : Has w' v us :=
  hv.only hw.only (fun _ k hk e => by
    have := h.fresh (hn k hk)
    rcases e with e | e
    · exact this.1.1 e
    · exact this.1.2 e)
theorem Two.hasUNew {w1 : World} (h : Two w0 w F G B L R M dd dr la lr s) {v : Value} {us : List (List UInt8)} (hv : HasU (fun j => w.heap.size ≤ j) w1 v us) (hw : LWent w0 w1 w' F F' B L d' l') : HasU (fun j => ¬ G j ∧ j ≠ M) w' v us := by
  have h1 := hv.mono (Q := fun j => (¬ F j ∧ j ≠ L) ∧ (¬ G j ∧ j ≠ M)) (fun k _ hp => h.fresh hp)
  exact (h1.only hw.only (fun k _ hp e => by rcases e with e | e; exact hp.1.1 e; exact hp.1.2 e)).mono (fun _ _ h => h.2)

/-- both are opened anew -/
theorem Two.open' {wA wB wC : World} {L' M' : Nat} (h : Two w0 wA F G B L R M dd dr la lr s) (oB : Only (fun _ => False) wA wB) (oC : Only (fun _ => False) wB wC) {d : Dk} {l : Lg} {s' : Int} (h1 : Logs w0 wB F B L' d l) (hL : wA.heap.size ≤ L') (h2 : RLogs w0 wC G R M' d l s') (hM : wB.heap.size ≤ M') : Two w0 wC F G B L' R M' d d l l s' := by
  have hs := oB.size
  refine ⟨h1.same oC, h2, fun k hk hg => ?_⟩
  rcases hk with hk | hk
  · rcases hg with hg | hg
    · exact h.apart k (Or.inl hk) (Or.inl hg)
    · have := h.lg.dk.lt k hk; omega
  · rcases hg with hg | hg
    · have := h.rg.rk.lt k hg; omega
    · have := h1.lt; omega
end

/-- behind one step -/
def PCut (w0 wx : World) (B R N k : Nat) (a b : Value) : Prop := ∃ F G L M d l s, a = .pointer (some ⟨L, 0, none⟩) ∧ b = .pointer (some ⟨M, 0, none⟩) ∧ Two w0 wx F G B L R M d d l l s ∧ d.secs.length = N ∧ d.works ≤ 100 * k

end Wal
end Go.Proofs.Ytoffcbopolonoaa
