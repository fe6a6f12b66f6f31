/-
  The reference's ReadChanges.
-/
import Derived.Test.YtmcobkcnpnfobaaGreatStRef
namespace Go.Proofs.YtmcobkcnpnfobaaGreat
open Go.RowKit
set_option linter.unusedSimpArgs false
set_option linter.unusedVariables false

namespace RR
/-- a reader at b, made since w0 ahead of block hi, over bytes that were there -/
structure Old (w0 : World) (hi : Nat) (w : World) (b : Nat) (lack : Bool) (rest : List UInt8) : Prop where
  at' : ∃ v, Rdr 57 w b v lack rest ∧ ∀ k, blk v = some k → k < w0.heap.size
  up : w0.heap.size ≤ b
  hi : b < hi
  only : Only (fun _ => False) w0 w

theorem Old.later {w0 w w' : World} {hi b : Nat} {lack : Bool} {rest : List UInt8} (h : Old w0 hi w b lack rest) {S : Nat → Prop} (ho : Only S w w') (hS : ∀ k, S k → hi ≤ k) : Old w0 hi w' b lack rest := by
  obtain ⟨v, hv, hk⟩ := h.at'
  have := h.up
  have := h.hi
  exact ⟨⟨v, hv.only ho (fun e => by have := hS b e; omega) (fun k e hs => by have := hS k hs; have := hk k e; omega), hk⟩, h.up, h.hi, h.only.trans ho (fun i hi e => by have := hS i e; omega)⟩
theorem Old.same {w0 w w' : World} {hi b : Nat} {lack : Bool} {rest : List UInt8} (h : Old w0 hi w b lack rest) (ho : Only (fun _ => False) w w') : Old w0 hi w' b lack rest := h.later ho (fun _ e => e.elim)
theorem Old.read {w0 w w' : World} {hi b : Nat} {v v' : Value} {l : Bool} {r : List UInt8} (ho : Only (fun _ => False) w0 w) (hb : w0.heap.size ≤ b) (hbi : b < hi) (hk : ∀ k, blk v = some k → k < w0.heap.size) (h : ReadTo 57 w b v w' v' l r) : Old w0 hi w' b l r :=
  ⟨⟨v', h.now, fun k e => hk k (h.vblk k e)⟩, hb, hbi, ho.trans h.only (fun i hi e => by omega)⟩
theorem Old.cells {w0 w : World} {hi b : Nat} {lack : Bool} {rest : List UInt8} (h : Old w0 hi w b lack rest) : ∃ ao cap, w.cell? ⟨b, 0, none⟩ = some (.slice ao rest.length cap) ∧ w.cell? ⟨b, 1, none⟩ = some (.bool lack) := by
  obtain ⟨v, hv, hk⟩ := h.at'
  obtain ⟨ao, cap, rfl, _⟩ := hv.has.shape
  obtain ⟨h0, h1, _⟩ := cells_two hv.blk
  exact ⟨ao, cap, h0, h1⟩
theorem old_made {w w1 : World} {xv : Value} {us : List UInt8} (hx : Has w xv us) (hbk : ∀ k, blk xv = some k → k < w.heap.size) (h : w1 = w.alloc (.cells #[xv, .bool false] 57)) : Old w w1.heap.size w1 w.heap.size false us := by
  subst h
  have hb := heap_alloc_new w (.cells #[xv, .bool false] 57)
  exact ⟨⟨xv, ⟨⟨hb, hx.only ((Only.refl _ _).alloc _) (fun _ _ _ e => e), fun k hk e => by have := hbk k hk; omega⟩, fun e => by cases e⟩, hbk⟩, Nat.le_refl _, lt_of_block hb, (Only.refl _ _).alloc _⟩

section
variable {w0 w : World} {hi b : Nat} {lack : Bool} {rest : List UInt8}
theorem old_u8 (h : Old w0 hi w b lack rest) (hr : rest.length ≤ 140737488355328) :
    Calls Tryz.prog 29 #[.pointer (some ⟨b, 0, none⟩)] w fun e w' => e = .returned (.int .i64 (de (rdBytes lack rest 1))) ∧ Old w0 hi w' b (rdLack lack rest 1) (rdRest lack rest 1) ∧ Only (fun k => k = b) w w' := by
  obtain ⟨v, hv, hk⟩ := h.at'
  refine (u8_any b v lack rest w hv hr).mono ?_
  rintro e w' ⟨rfl, v', ht⟩
  exact ⟨rfl, Old.read h.only h.up h.hi hk ht, ht.only⟩
theorem old_u16 (h : Old w0 hi w b lack rest) (hr : rest.length ≤ 140737488355328) :
    Calls Tryz.prog 27 #[.pointer (some ⟨b, 0, none⟩)] w fun e w' => e = .returned (.int .i64 (de (rdBytes lack rest 2))) ∧ Old w0 hi w' b (rdLack lack rest 2) (rdRest lack rest 2) ∧ Only (fun k => k = b) w w' := by
  obtain ⟨v, hv, hk⟩ := h.at'
  refine (u16_any b v lack rest w hv hr).mono ?_
  rintro e w' ⟨rfl, v', ht⟩
  exact ⟨rfl, Old.read h.only h.up h.hi hk ht, ht.only⟩
theorem old_short (h : Old w0 hi w b lack rest) (hr : rest.length ≤ 140737488355328) :
    Calls Tryz.prog 28 #[.pointer (some ⟨b, 0, none⟩)] w fun e w' => ∃ u, e = .returned u ∧ Owns w.heap.size w' u (shBytes lack rest) ∧ Old w0 hi w' b (shLack lack rest) (shRest lack rest) ∧ Only (fun k => k = b) w w' := by
  obtain ⟨v, hv, hk⟩ := h.at'
  refine (short_any b v lack rest w hv hr).mono ?_
  rintro e w' ⟨u, rfl, hu, v', ht⟩
  exact ⟨u, rfl, hu, Old.read h.only h.up h.hi hk ht, ht.only⟩
end
end RR

namespace St

/-- the reference takes a change off the front: none, if the mark is neither -/
def rTakeChg (lack : Bool) (rest : List UInt8) : Option (Chg × Bool × List UInt8) :=
  let k := shBytes lack rest
  let l1 := shLack lack rest
  let r1 := shRest lack rest
  let m := de (rdBytes l1 r1 1)
  let l2 := rdLack l1 r1 1
  let r2 := rdRest l1 r1 1
  if 1 < m then none else if m = 1 then some (⟨k, true, shBytes l2 r2⟩, shLack l2 r2, shRest l2 r2) else some (⟨k, false, []⟩, l2, r2)

def rTakeN : Nat → Bool → List UInt8 → Option (List Chg × Bool × List UInt8)
  | 0, lack, rest => some ([], lack, rest)
  | n + 1, lack, rest => if lack = true then some ([], lack, rest) else match rTakeChg lack rest with
    | none => none
    | some (c, l, r) => (rTakeN n l r).map (fun q => (c :: q.1, q.2))

def rRead (b : List UInt8) : Option (List Chg) := match rTakeN (de (rdBytes false b 2)) (rdLack false b 2) (rdRest false b 2) with
  | none => none
  | some (l, lack, rest) => if lack = true ∨ rest ≠ [] ∨ layChanges l ≠ some b then none else some l

theorem rTake_of_take {lack : Bool} {rest : List UInt8} {x : Chg × Bool × List UInt8} (h : takeChg lack rest = some x) : rTakeChg lack rest = some x := by
  unfold takeChg at h
  unfold rTakeChg
  simp only at h ⊢
  split at h
  · rename_i hm
    split at h
    · rw [if_neg (by omega), if_neg (by omega)]
      exact h
    · cases h
  · split at h
    · rename_i hm
      split at h
      · rw [if_neg (by omega), if_pos hm]
        exact h
      · cases h
    · cases h

theorem rTakeN_of : ∀ (n : Nat) (lack : Bool) (rest : List UInt8) (l : List Chg) (r : List UInt8), takeN n lack rest = some (l, false, r) → rTakeN n lack rest = some (l, false, r)
  | 0, lack, rest, l, r, h => by
    rw [takeN] at h
    rw [rTakeN]
    exact h
  | n + 1, lack, rest, l, r, h => by
    have hl := (lay_takeN (n + 1) lack rest l r h).1
    subst hl
    rw [takeN] at h
    rw [rTakeN, if_neg (by decide)]
    cases hc : takeChg false rest with
    | none => rw [hc] at h; cases h
    | some p =>
      obtain ⟨c, l1, r1⟩ := p
      rw [hc] at h
      rw [rTake_of_take hc]
      simp only at h ⊢
      cases hn : takeN n l1 r1 with
      | none => rw [hn] at h; cases h
      | some q =>
        obtain ⟨cs, l2, r2⟩ := q
        rw [hn] at h
        simp only [Option.some.injEq, Prod.mk.injEq] at h
        obtain ⟨rfl, rfl, rfl⟩ := h
        rw [rTakeN_of n l1 r1 cs r2 hn]
        rfl

theorem rRead_eq (b : List UInt8) : rRead b = readChanges b := by
  cases h : readChanges b with
  | some l =>
    have hl := lay_read h
    unfold readChanges at h
    split at h
    · cases h
    · cases hn : takeN (de (rdBytes false b 2)) (rdLack false b 2) (rdRest false b 2) with
      | none => rw [hn] at h; cases h
      | some q =>
        obtain ⟨cs, l2, r2⟩ := q
        rw [hn] at h
        simp only at h
        split at h
        · cases h
        · rename_i hx
          simp only [Option.some.injEq] at h
          subst h
          have hl2 : l2 = false := by cases l2 <;> simp_all
          have hr2 : r2 = [] := by simpa [hl2] using hx
          subst hl2 hr2
          unfold rRead
          rw [rTakeN_of _ _ _ _ _ hn]
          simp only
          rw [if_neg]
          rintro (e | e | e)
          · cases e
          · exact e rfl
          · exact e hl
  | none =>
    cases hr : rRead b with
    | none => rfl
    | some l =>
      exfalso
      unfold rRead at hr
      split at hr
      · cases hr
      · split at hr
        · cases hr
        · rename_i hx
          simp only [Option.some.injEq] at hr
          subst hr
          have hl : layChanges _ = some b := Classical.byContradiction (fun e => hx (Or.inr (Or.inr e)))
          rw [read_lay hl] at h
          cases h

theorem rTakeN_step (n : Nat) (rest : List UInt8) (c : Chg) (l : Bool) (r : List UInt8) (h : rTakeChg false rest = some (c, l, r)) (acc : List Chg) :
    (rTakeN (n + 1) false rest).map (fun q => (acc ++ q.1, q.2)) = (rTakeN n l r).map (fun q => ((acc ++ [c]) ++ q.1, q.2)) := by
  rw [rTakeN, if_neg (by decide), h]
  simp only
  cases rTakeN n l r with
  | none => rfl
  | some q => simp
theorem rTakeN_stop (n : Nat) (rest : List UInt8) (h : rTakeChg false rest = none) : rTakeN (n + 1) false rest = none := by
  rw [rTakeN, if_neg (by decide), h]
theorem rTakeN_lack (n : Nat) (rest : List UInt8) : rTakeN n true rest = some ([], true, rest) := by
  cases n <;> simp [rTakeN]

/-- what LayChanges answers, in one form -/
theorem LaidAs.form {w w' : World} {e : Ending} {o : Option (List UInt8)} (h : LaidAs w w' e o) : ∃ ao cap, e = .returned (.tuple #[.slice ao (o.getD []).length cap, .int .i64 (if o.isSome = true then 0 else 1)]) ∧ Has w' (.slice ao (o.getD []).length cap) (o.getD []) ∧ (∀ k, blk (.slice ao (o.getD []).length cap) = some k → w.heap.size ≤ k ∧ k < w'.heap.size) := by
  cases o with
  | none =>
    obtain rfl : e = .returned (.tuple #[.slice none 0 0, .int .i64 1]) := h
    exact ⟨none, 0, rfl, Or.inl ⟨rfl, rfl⟩, fun k hk => by cases hk⟩
  | some b =>
    obtain ⟨u, rfl, hu⟩ := (h : ∃ u, e = .returned (.tuple #[u, .int .i64 0]) ∧ Owns w.heap.size w' u b)
    obtain ⟨ao, cap, hs, _⟩ := (Has.ofOwns hu.out).shape
    subst hs
    refine ⟨ao, cap, rfl, Has.ofOwns hu.out, fun k hk => ?_⟩
    rcases hu.out.2 with ⟨e, _⟩ | ⟨g, c, cur, e, hb, hg, _⟩
    · rw [Value.slice.injEq] at e
      rw [e.1] at hk
      cases hk
    · rw [Value.slice.injEq] at e
      rw [e.1] at hk
      simp only [blk, Option.map_some, Option.some.injEq] at hk
      subst hk
      exact ⟨hb, (Array.getElem?_eq_some_iff.1 hg).1⟩

set_option maxHeartbeats 4000000 in
set_option maxRecDepth 100000 in
theorem rreadChanges_any (xv : Value) (us : List UInt8) (w : World) (hx : Has w xv us) (hbk : ∀ k, blk xv = some k → k < w.heap.size) (hr : us.length ≤ 140737488355328) :
    Calls Tryz.prog 10 #[xv] w fun e w' => ReadAs w w' e (readChanges us) ∧ Only (fun _ => False) w w' := by
  obtain ⟨xo, xc, hxv, _⟩ := hx.shape
  subst hxv
  have HX := hide hx
  have HO1 := hide (RR.old_made hx hbk rfl)
  clear hx hbk
  obtain ⟨n, hn⟩ : ∃ n, n = de (rdBytes false us 2) := ⟨_, rfl⟩
  obtain ⟨l0, hl0⟩ : ∃ l0, l0 = rdLack false us 2 := ⟨_, rfl⟩
  obtain ⟨r0, hr0⟩ : ∃ r0, r0 = rdRest false us 2 := ⟨_, rfl⟩
  have hr0l : r0.length ≤ us.length := by rw [hr0]; exact rdRest_le _ _ _
  have hn16 : n < 65536 := by rw [hn]; exact de_rd false us 2 65536 (by decide)
  have HE : Hid (de (rdBytes false us 2) = n ∧ rdLack false us 2 = l0 ∧ rdRest false us 2 = r0) := ⟨hn.symm, hl0.symm, hr0.symm⟩
  have HRC : Hid (readChanges us = match rTakeN n l0 r0 with
    | none => none
    | some (l, lack, rest) => if lack = true ∨ rest ≠ [] ∨ layChanges l ≠ some us then none else some l) := by subst hn hl0 hr0; exact (rRead_eq us).symm
  clear hn hl0 hr0
  obtain ⟨i0, hi, hz0, hz1, hz2⟩ := info_parts Tryz.info39
  go_enter Tryz.func10, Tryz.ntmps10
  go_wp2_with fail
  have hB1 := heap_alloc_new w (.cells #[.slice xo us.length xc, .bool false] 57)
  generalize w.alloc (.cells #[.slice xo us.length xc, .bool false] 57) = w1 at *
  have hw1 := lt_of_block hB1
  clear hB1
  refine (RR.old_u16 (unhide HO1) hr).mono ?_
  rintro e w2 ⟨rfl, hm2, o2⟩
  rw [(unhide HE).1]
  rw [(unhide HE).2.1, (unhide HE).2.2] at hm2
  have hs2 := o2.size
  have HM2 := hide hm2
  clear hm2 o2 HO1
  go_wp2
  go_loopw [6, 7, 8, 9] (fun v i _ _ wr => ∃ (k : Nat) (acc : List Chg) (lack : Bool) (rest : List UInt8), k ≤ n ∧ i = .int .i64 k ∧ acc.length = k ∧ RR.Old w w1.heap.size wr w.heap.size lack rest ∧ RowC (fun k => w2.heap.size ≤ k) w2.heap.size wr v acc ∧ rest.length ≤ us.length ∧ w2.heap.size ≤ wr.heap.size ∧
      Hid (rTakeN n l0 r0 = (rTakeN (n - k) lack rest).map (fun q => (acc ++ q.1, q.2)))) (fun _ i _ _ _ => n - (intOf i).toNat)
  case atStart => exact ⟨0, [], l0, r0, Nat.zero_le _, rfl, rfl, unhide HM2, rowC_nil _ _ _, hr0l, Nat.le_refl _, by show _ = _; rw [Nat.sub_zero]; cases rTakeN n l0 r0 <;> simp⟩
  case round =>
    obtain ⟨k, acc, lack, rest, hk, rfl, hal, hm, hrow, hrl, hwr, HT⟩ := hrel
    have HM := hide hm
    have HRW := hide hrow
    obtain ⟨vo, vc, rfl⟩ := hrow.shape
    obtain ⟨ra, rcap, rc0, rc1⟩ := hm.cells
    clear hm hrow HM2
    by_cases hlt : k < n
    · have hlt' : (k : Int) < n := by omega
      cases lack with
      | false =>
        rw [hal]
        obtain ⟨key, hkey⟩ : ∃ key, key = shBytes false rest := ⟨_, rfl⟩
        obtain ⟨l1, hl1⟩ : ∃ l1, l1 = shLack false rest := ⟨_, rfl⟩
        obtain ⟨r1, hr1⟩ : ∃ r1, r1 = shRest false rest := ⟨_, rfl⟩
        obtain ⟨m, hm⟩ : ∃ m, m = de (rdBytes l1 r1 1) := ⟨_, rfl⟩
        obtain ⟨l2, hl2⟩ : ∃ l2, l2 = rdLack l1 r1 1 := ⟨_, rfl⟩
        obtain ⟨r2, hr2⟩ : ∃ r2, r2 = rdRest l1 r1 1 := ⟨_, rfl⟩
        have HTK : Hid (rTakeChg false rest = if 1 < m then none else if m = 1 then some (⟨key, true, shBytes l2 r2⟩, shLack l2 r2, shRest l2 r2) else some (⟨key, false, []⟩, l2, r2)) := by
          subst hkey hl1 hr1 hm hl2 hr2
          exact rfl
        have hr1l : r1.length ≤ rest.length := by rw [hr1]; exact shRest_le _ _
        have hr2l : r2.length ≤ r1.length := by rw [hr2]; exact rdRest_le _ _ _
        have HE1 : Hid (shBytes false rest = key ∧ shLack false rest = l1 ∧ shRest false rest = r1) := ⟨hkey.symm, hl1.symm, hr1.symm⟩
        have HE2 : Hid (de (rdBytes l1 r1 1) = m ∧ rdLack l1 r1 1 = l2 ∧ rdRest l1 r1 1 = r2) := ⟨hm.symm, hl2.symm, hr2.symm⟩
        clear hkey hl1 hr1 hm hl2 hr2
        go_wp2_with fail
        refine (RR.old_short (unhide HM) (by omega)).mono ?_
        rintro e w4 ⟨u, rfl, hu, hm4, o4⟩
        rw [(unhide HE1).1] at hu
        rw [(unhide HE1).2.1, (unhide HE1).2.2] at hm4
        have hs4 := o4.size
        obtain ⟨uo, uc, rfl, _⟩ := (Has.ofOwns hu.out).shape
        have hcv := str_conv (Has.ofOwns hu.out)
        have HM4 := hide hm4
        have HRW4 : Hid (RowC (fun j => w2.heap.size ≤ j ∧ j < w4.heap.size) w2.heap.size w4 (.slice vo acc.length vc) acc) := ((unhide HRW).later o4 (fun j hj hq e => by omega) (fun j hj e => by have := ((unhide HRW).lt j hj).1; omega)).mono (fun j hj hq => ⟨hq, hj⟩)
        have HLT : Hid (∀ j, (Value.slice vo k vc).ownBlock = some j → w2.heap.size ≤ j ∧ j < w4.heap.size) := by
          show ∀ j, (Value.slice vo k vc).ownBlock = some j → w2.heap.size ≤ j ∧ j < w4.heap.size
          rw [← hal]
          exact fun j e => ⟨((unhide HRW).lt j e).1, ((unhide HRW4).lt j e).2⟩
        clear hu hm4 o4 rc0 rc1
        go_wp2_with fail
        have hcvv : str key = ⟨key.toArray⟩ := rfl
        rw [hcvv]
        have hB5 := heap_alloc_new w4 (.cells #[encStr key, .bool false, .slice none 0 0] 39)
        have o5 := (Only.refl (fun _ => False) w4).alloc (.cells #[encStr key, .bool false, .slice none 0 0] 39)
        generalize (w4.alloc (.cells #[encStr key, .bool false, .slice none 0 0] 39)) = w5 at *
        have hsB := lt_of_block hB5
        have HM5 := hide ((unhide HM4).same o5)
        have HRW5 := hide ((unhide HRW4).same o5)
        clear hcv hcvv o5 HM4 HRW4
        refine (RR.old_u8 (unhide HM5) (by omega)).mono ?_
        rintro e w6 ⟨rfl, hm6, o6⟩
        rw [(unhide HE2).1]
        rw [(unhide HE2).2.1, (unhide HE2).2.2] at hm6
        have hs6 := o6.size
        have hC6 := o6.heap hB5 (fun e => by omega)
        have HRW6 := hide ((unhide HRW5).later o6 (fun j hj hq e => by omega) (fun j hj e => by have := ((unhide HRW5).lt j hj).1; omega))
        have HM6 := hide hm6
        clear hm6 o6 hB5 HRW5 HM5
        by_cases hm1 : 1 < m
        · have hm1' : (1 : Int) < m := by omega
          rw [if_pos hm1] at HTK
          clear hC6
          go_wp2
          go_ret2
          have e1 : rTakeN n l0 r0 = none := by rw [unhide HT, show n - k = (n - k - 1) + 1 by omega, rTakeN_stop _ _ (unhide HTK)]; rfl
          rw [unhide HRC, e1]
          exact ⟨rfl, (unhide HM6).only⟩
        · have hm1' : ¬ (1 : Int) < m := by omega
          rw [if_neg hm1] at HTK
          by_cases hm2 : m = 1
          · rw [if_pos hm2] at HTK
            subst hm2
            clear hm1 hm1'
            obtain ⟨c0, c1, c2, cf⟩ := cells_3 hC6
            have HC6 := hide hC6
            clear hC6
            have hcb : w4.heap.size < w6.heap.size := by omega
            have hC7 : (w6.setCell ⟨w4.heap.size, 1, none⟩ (.bool true)).heap[w4.heap.size]? = some (.cells #[encStr key, .bool true, .slice none 0 0] 39 (0, 0)) := by
              rw [two_setCell (unhide HC6)]
              rfl
            have o7 : Only (fun k => k = w4.heap.size) w6 (w6.setCell ⟨w4.heap.size, 1, none⟩ (.bool true)) := (Only.refl _ w6).here 1 _
            go_wp2_with fail
            generalize (w6.setCell ⟨w4.heap.size, 1, none⟩ (.bool true)) = w7 at *
            have hs7 := o7.size
            have HM7 := hide ((unhide HM6).later o7 (fun j e => by omega))
            have HRW7 := hide ((unhide HRW6).later o7 (fun j hj hq e => by have := hq.2; omega) (fun j hj e => by rw [hal] at hj; have := (unhide HLT j hj).2; omega))
            clear o7 HRW6 HM6 c0 c1 c2 cf HC6
            refine (RR.old_short (unhide HM7) (by omega)).mono ?_
            rintro e w8 ⟨u2, rfl, hu2, hm8, o8⟩
            have hs8 := o8.size
            have hC8 := o8.heap hC7 (fun e => by omega)
            have HRW8 := hide ((unhide HRW7).later o8 (fun j hj hq e => by have := hq.1; omega) (fun j hj e => by rw [hal] at hj; have := (unhide HLT j hj).1; omega))
            have hV8 := Has.ofOwns hu2.out
            have hVB := owns_blk hu2
            have hr3 := shRest_le l2 r2
            obtain ⟨val, hval⟩ : ∃ val, val = shBytes l2 r2 := ⟨_, rfl⟩
            rw [← hval] at HTK hV8
            obtain ⟨vo2, vc2, hvs, _⟩ := hV8.shape
            subst hvs
            have o9 : Only (fun k => k = w4.heap.size) w8 (w8.setCell ⟨w4.heap.size, 2, none⟩ (.slice vo2 val.length vc2)) := (Only.refl _ w8).here 2 _
            have hC9 : (w8.setCell ⟨w4.heap.size, 2, none⟩ (.slice vo2 val.length vc2)).heap[w4.heap.size]? = some (.cells #[encStr key, .bool true, .slice vo2 val.length vc2] 39 (0, 0)) := by
              rw [two_setCell hC8]
              rfl
            obtain ⟨k0, k1, k2, kf⟩ := cells_3 hC8
            obtain ⟨c0, c1, c2, cf⟩ := cells_3 hC9
            have HRW9 := hide ((unhide HRW8).later o9 (fun j hj hq e => by have := hq.2; omega) (fun j hj e => by rw [hal] at hj; have := (unhide HLT j hj).2; omega))
            have HV9 := hide (hV8.only o9 (fun _ j hj e => by have := hVB j hj; omega))
            have HVB := hide hVB
            have HMF := hide (hm8.later o9 (fun j e => by omega))
            have hsz : (w8.setCell ⟨w4.heap.size, 2, none⟩ (.slice vo2 val.length vc2)).heap.size = w8.heap.size := by simp
            clear hu2 hm8 o8 hC7 hC8 hC9 HRW7 HRW8 HM7 hV8 hVB o9 hval
            generalize hvl : val.length = vlen at *
            have HVL := hide hvl
            clear hvl
            obtain ⟨zs, hzs, ownz, eachz⟩ := (unhide HRW9).own
            have hzl : zs.length = k := by rw [← hal, ← hzs, List.length_map]
            rw [hal] at ownz eachz
            have HZL := hide hzl
            have HAL := hide hal
            have HZ := hide hzs
            have HOW := hide ownz
            have HEA := hide eachz
            clear hzs ownz eachz hzl hal
            have hblk : ∀ o : Obj, ((w8.setCell ⟨w4.heap.size, 2, none⟩ (.slice vo2 vlen vc2)).alloc o).heap[w8.heap.size]? = some o := fun o => by have := heap_alloc_new (w8.setCell ⟨w4.heap.size, 2, none⟩ (.slice vo2 vlen vc2)) o; rwa [hsz] at this
            go_wp2_with (at_builtin; refine wpList_append_lies _ rfl (.tmp 43) (.tmp 45) 23 rfl w2.heap.size 39 i0 _ 3 48 Tryz.underlying23 hi hz0 hz1 hz2 rfl (by decide) _ k (zs.flatMap zc) rfl ((unhide HOW).alloc _) ⟨w8.heap.size, 0, none⟩ 1 1 (zc (.slice vo2 vlen vc2, ⟨key, true, val⟩)) rfl rfl (World.news_of_block (hblk _)) (by simp [zc, Value.oneCell']) (by decide) (by unfold maxLen; omega) (by omega) (by simp; omega) _ rfl ?_; intro g cap5 w15 own5 gr5 at5 lt5)
            obtain rfl : zs.length = k := unhide HZL
            have oAA : Only (fun _ => False) (w8.setCell ⟨w4.heap.size, 2, none⟩ (.slice vo2 vlen vc2)) ((w8.setCell ⟨w4.heap.size, 2, none⟩ (.slice vo2 vlen vc2)).alloc (.cells #[encStr key, .bool true, .slice vo2 vlen vc2] 39)) := (Only.refl _ _).alloc _
            have hP := RowC.pushed (Q := fun k => w2.heap.size ≤ k) (unhide HOW) ((unhide HEA).mono (fun j _ hq => ⟨hq.1.1, hq.2⟩)) (unhide HV9) (fun _ j hj => ⟨by have := unhide HVB j hj; omega, fun e => by have := unhide HLT j e; have := unhide HVB j hj; omega⟩) oAA own5 gr5 at5
            rw [unhide HZ] at hP
            refine ⟨⟨zs.length + 1, acc ++ [⟨key, true, val⟩], shLack l2 r2, shRest l2 r2, by omega, by go_num, by simp [unhide HAL], ?_, hP.1, by omega, by have := hP.2.size; omega, ?_⟩, by simp [intOf]; omega⟩
            · exact (unhide HMF).later hP.2 (fun j e => by have := (unhide HLT j e).1; omega)
            · show _ = _
              rw [unhide HT, show n - zs.length = (n - (zs.length + 1)) + 1 by omega, rTakeN_step _ _ _ _ _ (unhide HTK)]
          · have hm0 : m = 0 := by omega
            rw [if_neg hm2] at HTK
            subst hm0
            clear hm1 hm1' hm2
            obtain ⟨c0, c1, c2, cf⟩ := cells_3 hC6
            have HMF := hide (unhide HM6)
            clear hC6
            obtain ⟨zs, hzs, ownz, eachz⟩ := (unhide HRW6).own
            have hzl : zs.length = k := by rw [← hal, ← hzs, List.length_map]
            rw [hal] at ownz eachz
            have HZL := hide hzl
            have HAL := hide hal
            have HZ := hide hzs
            have HOW := hide ownz
            have HEA := hide eachz
            clear hzs ownz eachz hzl hal
            have hblk : ∀ o : Obj, (w6.alloc o).heap[w6.heap.size]? = some o := fun o => heap_alloc_new w6 o
            go_wp2_with (at_builtin; refine wpList_append_lies _ rfl (.tmp 43) (.tmp 45) 23 rfl w2.heap.size 39 i0 _ 3 48 Tryz.underlying23 hi hz0 hz1 hz2 rfl (by decide) _ k (zs.flatMap zc) rfl ((unhide HOW).alloc _) ⟨w6.heap.size, 0, none⟩ 1 1 (zc (.slice none 0 0, ⟨key, false, []⟩)) rfl rfl (World.news_of_block (hblk _)) (by simp [zc, Value.oneCell']) (by decide) (by unfold maxLen; omega) (by omega) (by simp; omega) _ rfl ?_; intro g cap5 w15 own5 gr5 at5 lt5)
            obtain rfl : zs.length = k := unhide HZL
            have oAA : Only (fun _ => False) w6 (w6.alloc (.cells #[encStr key, .bool false, .slice none 0 0] 39)) := (Only.refl _ _).alloc _
            have hP := RowC.pushed (Q := fun k => w2.heap.size ≤ k) (unhide HOW) ((unhide HEA).mono (fun j _ hq => ⟨hq.1.1, hq.2⟩)) (Or.inl ⟨rfl, rfl⟩) (fun hne => absurd rfl hne) oAA own5 gr5 at5
            rw [unhide HZ] at hP
            refine ⟨⟨zs.length + 1, acc ++ [⟨key, false, []⟩], l2, r2, by omega, by go_num, by simp [unhide HAL], ?_, hP.1, by omega, by have := hP.2.size; omega, ?_⟩, by simp [intOf]; omega⟩
            · exact (unhide HMF).later hP.2 (fun j e => by have := (unhide HLT j e).1; omega)
            · show _ = _
              rw [unhide HT, show n - zs.length = (n - (zs.length + 1)) + 1 by omega, rTakeN_step _ _ _ _ _ (unhide HTK)]
      | true =>
        have E1 : Hid (rTakeN n l0 r0 = some (acc, true, rest)) := by show _ = _; rw [unhide HT, rTakeN_lack]; simp
        have HLY := hide (rlayChanges_any _ acc wr ((unhide HRW).hasC (fun k hk => hk)) (by omega))
        rw [hal] at HLY ⊢
        have HAL := hide hal
        clear hal
        go_wp2_with fail
        refine (unhide HLY).mono ?_
        rintro e w7 ⟨hla, o7⟩
        have HM7 := hide ((unhide HM).same o7)
        clear rc0 rc1
        obtain ⟨ra, rcap, rc0, rc1⟩ := (unhide HM7).cells
        obtain ⟨yo, yc, rfl, hY, _⟩ := hla.form
        clear hla hY
        generalize layChanges acc = lo at *
        generalize (lo.getD []).length = ln at *
        generalize (if lo.isSome = true then (0 : Int) else 1) = ee at *
        go_wp2
        go_ret2
        rw [show readChanges us = none from by rw [unhide HRC, unhide E1]; exact if_pos (Or.inl rfl)]
        exact ⟨rfl, (unhide HM7).only⟩
    · obtain rfl : n = k := by omega
      have E1 : Hid (rTakeN n l0 r0 = some (acc, lack, rest)) := by show _ = _; rw [unhide HT, Nat.sub_self, rTakeN]; simp
      cases lack with
      | true =>
        have HLY := hide (rlayChanges_any _ acc wr ((unhide HRW).hasC (fun k hk => hk)) (by omega))
        rw [hal] at HLY ⊢
        have HAL := hide hal
        clear hal
        go_wp2_with fail
        refine (unhide HLY).mono ?_
        rintro e w7 ⟨hla, o7⟩
        have HM7 := hide ((unhide HM).same o7)
        clear rc0 rc1
        obtain ⟨ra, rcap, rc0, rc1⟩ := (unhide HM7).cells
        obtain ⟨yo, yc, rfl, hY, _⟩ := hla.form
        clear hla hY
        generalize layChanges acc = lo at *
        generalize (lo.getD []).length = ln at *
        generalize (if lo.isSome = true then (0 : Int) else 1) = ee at *
        go_wp2
        go_ret2
        rw [show readChanges us = none from by rw [unhide HRC, unhide E1]; exact if_pos (Or.inl rfl)]
        exact ⟨rfl, (unhide HM7).only⟩
      | false =>
        have HLY := hide (rlayChanges_any _ acc wr ((unhide HRW).hasC (fun k hk => hk)) (by omega))
        rw [hal] at HLY ⊢
        have HAL := hide hal
        clear hal
        go_wp2_with fail
        refine (unhide HLY).mono ?_
        rintro e w7 ⟨hla, o7⟩
        have HM7 := hide ((unhide HM).same o7)
        clear rc0 rc1
        obtain ⟨ra, rcap, rc0, rc1⟩ := (unhide HM7).cells
        by_cases hre : rest = []
        · have hr0' : rest.length = 0 := by rw [hre]; rfl
          rcases hlc : layChanges acc with _ | x
          · rw [hlc] at hla
            have he : e = .returned (.tuple #[.slice none 0 0, .int .i64 1]) := hla
            subst he
            have HLC := hide hlc
            clear hla hlc hre
            go_wp2
            go_ret2
            rw [show readChanges us = none from by rw [unhide HRC, unhide E1]; exact if_pos (Or.inr (Or.inr (by rw [unhide HLC]; simp)))]
            exact ⟨rfl, (unhide HM7).only⟩
          · rw [hlc] at hla
            obtain ⟨yv, he, hown⟩ := (hla : ∃ u, e = .returned (.tuple #[u, .int .i64 0]) ∧ Owns wr.heap.size w7 u x)
            subst he
            have hY := Has.ofOwns hown.out
            have hcy := str_conv hY
            have hcb := str_conv ((unhide HX).only (unhide HM7).only (fun _ _ _ e => e))
            obtain ⟨yo, yc, hys, _⟩ := hY.shape
            subst hys
            have HRW7 := hide ((unhide HRW).same o7)
            have HRE := hide hre
            have HLC := hide hlc
            clear hown hY hlc hre o7
            by_cases hxe : x = us
            · subst hxe
              generalize hxl : x.length = xl at *
              have HXL := hide hxl
              clear hxl
              go_wp2
              go_ret2
              have hS : readChanges x = some acc := by
                rw [unhide HRC, unhide E1]
                refine if_neg (fun h => ?_)
                rcases h with h | h | h
                · cases h
                · exact h (unhide HRE)
                · exact h (unhide HLC)
              rw [hS]
              refine ⟨⟨_, rfl, ?_⟩, (unhide HM7).only⟩
              have hrw := unhide HRW7
              rw [unhide HAL] at hrw
              exact (hrw.lower (by omega)).mono (fun k _ e => by omega)
            · have hsn : ((str x).toList == (str us).toList) = false := by rw [str_beq]; exact decide_eq_false hxe
              have HXE := hide hxe
              clear hxe
              go_wp2
              go_ret2
              rw [show readChanges us = none from by rw [unhide HRC, unhide E1]; exact if_pos (Or.inr (Or.inr (by rw [unhide HLC]; intro e; exact unhide HXE (Option.some.inj e))))]
              exact ⟨rfl, (unhide HM7).only⟩
        · have hr0' : 0 < rest.length := List.length_pos_iff.2 hre
          have hr0i : (0 : Int) < rest.length := by omega
          have HRE := hide hre
          obtain ⟨yo, yc, rfl, hY, _⟩ := hla.form
          clear hla hY hre
          generalize layChanges acc = lo at *
          generalize (lo.getD []).length = ln at *
          generalize (if lo.isSome = true then (0 : Int) else 1) = ee at *
          go_wp2
          go_ret2
          rw [show readChanges us = none from by rw [unhide HRC, unhide E1]; exact if_pos (Or.inr (Or.inl (unhide HRE)))]
          exact ⟨rfl, (unhide HM7).only⟩
end St
end Go.Proofs.YtmcobkcnpnfobaaGreat
