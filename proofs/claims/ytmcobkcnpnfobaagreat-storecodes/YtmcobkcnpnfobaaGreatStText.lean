/-
  Chapter 5, said plainly: changes as bytes, pairs.
  Slices of changes in memory.
  store's fresh, right, lay, LayChanges.
  store's takeChange, ReadChanges.
-/
import Derived.Test.YtmcobkcnpnfobaaGreatRdUni
import Derived.Test.YtmcobkcnpnfobaaGreatRdLO
import Derived.Test.YtmcobkcnpnfobaaGreatWalSpec
import Derived.Test.YtmcobkcnpnfobaaGreatHpAll
import Derived.Test.YtmcobkcnpnfobaaGreatRowV
import Derived.Sort.EncStr
import Derived.Test.YtmcobkcnpnfobaaGreatWrLO
import Derived.Test.YtmcobkcnpnfobaaGreatStr
import Derived.Laws.IdiomStrings
import Derived.BigQuiet
import Derived.BigRegion
import Derived.Deep.QuietTactic
import Derived.Deep.RegionWith
namespace Go.Proofs.YtmcobkcnpnfobaaGreat
open Go.RowKit
set_option linter.unusedSimpArgs false
set_option linter.unusedVariables false

namespace St

abbrev K := List UInt8

structure Chg where
  key : K
  has : Bool
  value : K
  deriving DecidableEq

def Chg.ok (c : Chg) : Bool := decide (0 < c.key.length) && decide (c.key.length ≤ 100) && (if c.has then decide (c.value.length ≤ 65535) else decide (c.value.length = 0))
def sh (b : K) : List UInt8 := be 2 b.length ++ b
def Chg.lay (c : Chg) : List UInt8 := sh c.key ++ (if c.has then [1] ++ sh c.value else [0])
def layAll (l : List Chg) : List UInt8 := be 2 l.length ++ l.flatMap Chg.lay
def layChanges (l : List Chg) : Option (List UInt8) := if l.length ≤ 1000 ∧ l.all Chg.ok = true then some (layAll l) else none

/-- a change off the front: none, if none is laid so -/
def takeChg (lack : Bool) (rest : List UInt8) : Option (Chg × Bool × List UInt8) :=
  let k := shBytes lack rest
  let l1 := shLack lack rest
  let r1 := shRest lack rest
  let m := de (rdBytes l1 r1 1)
  let l2 := rdLack l1 r1 1
  let r2 := rdRest l1 r1 1
  if m = 0 then (if (⟨k, false, []⟩ : Chg).ok then some (⟨k, false, []⟩, l2, r2) else none)
  else if m = 1 then (if (⟨k, true, shBytes l2 r2⟩ : Chg).ok then some (⟨k, true, shBytes l2 r2⟩, shLack l2 r2, shRest l2 r2) else none)
  else none

def takeN : Nat → Bool → List UInt8 → Option (List Chg × Bool × List UInt8)
  | 0, lack, rest => some ([], lack, rest)
  | n + 1, lack, rest => match takeChg lack rest with
    | none => none
    | some (c, l, r) => match takeN n l r with
      | none => none
      | some (cs, l2, r2) => some (c :: cs, l2, r2)

def readChanges (b : List UInt8) : Option (List Chg) :=
  if 1000 < de (rdBytes false b 2) then none else match takeN (de (rdBytes false b 2)) (rdLack false b 2) (rdRest false b 2) with
    | none => none
    | some (l, lack, rest) => if lack = true ∨ rest ≠ [] then none else some l

/-! ### reading -/
theorem rd_lack (rest : List UInt8) (n : Int) : rdBytes true rest n = [] ∧ rdLack true rest n = true ∧ rdRest true rest n = [] := RO.rd_no rest true n (Or.inl rfl)
theorem sh_lack (rest : List UInt8) : shBytes true rest = [] ∧ shLack true rest = true ∧ shRest true rest = [] := by
  unfold shBytes shLack shRest
  rw [(rd_lack rest 2).2.1]
  exact rd_lack _ _
theorem takeChg_lack (rest : List UInt8) : takeChg true rest = none := by
  unfold takeChg
  obtain ⟨h1, h2, h3⟩ := sh_lack rest
  obtain ⟨g1, g2, g3⟩ := rd_lack (shRest true rest) 1
  simp only [h1, h2, g1, g2, g3]
  simp [de, Chg.ok]
theorem rd_of_lack {lack : Bool} {rest : List UInt8} {n : Int} (h : rdLack lack rest n = false) : lack = false ∧ 0 ≤ n ∧ n ≤ rest.length ∧ rdBytes lack rest n = rest.take n.toNat ∧ rdRest lack rest n = rest.drop n.toNat := by
  unfold rdLack at h
  have h' : rdOk lack rest n = true := by simpa using h
  unfold rdBytes rdRest
  rw [h']
  unfold rdOk at h'
  simp at h'
  exact ⟨h'.1.1, h'.1.2, h'.2, by simp, by simp⟩
theorem rd_app (a rest : List UInt8) (n : Nat) (h : a.length = n) : rdBytes false (a ++ rest) n = a ∧ rdLack false (a ++ rest) n = false ∧ rdRest false (a ++ rest) n = rest := by
  obtain ⟨h1, h2, h3⟩ := RO.rd_yes (a ++ rest) n (by simp; omega)
  rw [h1, h2, h3]
  subst h
  simp
theorem sh_app (a rest : List UInt8) (h : a.length ≤ 65535) : shBytes false (sh a ++ rest) = a ∧ shLack false (sh a ++ rest) = false ∧ shRest false (sh a ++ rest) = rest := by
  unfold shBytes shLack shRest sh
  obtain ⟨h1, h2, h3⟩ := rd_app (be 2 a.length) (a ++ rest) 2 (be_length _ _)
  rw [show ((2 : Nat) : Int) = 2 from rfl] at h1 h2 h3
  rw [List.append_assoc, h1, h2, h3, Wal.de_be, Nat.mod_eq_of_lt (by omega)]
  exact rd_app a rest a.length rfl
theorem sh_of_lack {lack : Bool} {rest : List UInt8} (h : shLack lack rest = false) : lack = false ∧ rest = sh (shBytes lack rest) ++ shRest lack rest ∧ (shBytes lack rest).length ≤ 65535 := by
  have h0 := h
  unfold shLack at h0
  obtain ⟨e1, _, e2, e3, e4⟩ := rd_of_lack h0
  obtain ⟨f1, f2, f3, f4, f5⟩ := rd_of_lack e1
  unfold shBytes shRest
  rw [e3, e4]
  subst f1
  rw [f4, f5] at e2 ⊢
  have hl : (List.take (Int.toNat 2) rest).length = 2 := by simp; omega
  have hd := foldl_lt (List.take (Int.toNat 2) rest) 0
  rw [hl] at hd
  change de (List.take (Int.toNat 2) rest) < _ at hd
  simp only [Int.toNat_natCast]
  have hlen : (List.take (de (List.take (Int.toNat 2) rest)) (List.drop (Int.toNat 2) rest)).length = de (List.take (Int.toNat 2) rest) := by
    rw [List.length_take]; omega
  refine ⟨trivial, ?_, by rw [hlen]; omega⟩
  unfold sh
  have hbe := Wal.be_de (List.take (Int.toNat 2) rest)
  rw [hl] at hbe
  rw [hlen, hbe, List.append_assoc, List.take_append_drop, List.take_append_drop]

theorem takeChg_lay (c : Chg) (h : c.ok = true) (rest : List UInt8) : takeChg false (c.lay ++ rest) = some (c, false, rest) := by
  have h0 := h
  unfold Chg.ok at h
  simp only [Bool.and_eq_true, decide_eq_true_eq] at h
  obtain ⟨⟨h1, h2⟩, h3⟩ := h
  obtain ⟨k, has, v⟩ := c
  unfold takeChg Chg.lay
  cases has with
  | false =>
    simp at h3
    subst h3
    simp only [Bool.false_eq_true, if_false, List.append_assoc]
    obtain ⟨a1, a2, a3⟩ := sh_app k ([0] ++ rest) (by simp at h2; omega)
    obtain ⟨b1, b2, b3⟩ := rd_app [0] rest 1 rfl
    rw [show ((1 : Nat) : Int) = 1 from rfl] at b1 b2 b3
    simp only [a1, a2, a3, b1, b2, b3]
    rw [if_pos (by rfl), if_pos h0]
  | true =>
    simp only [if_true, decide_eq_true_eq] at h3
    simp only [if_true, List.append_assoc]
    obtain ⟨a1, a2, a3⟩ := sh_app k ([1] ++ (sh v ++ rest)) (by simp at h2; omega)
    obtain ⟨b1, b2, b3⟩ := rd_app [1] (sh v ++ rest) 1 rfl
    rw [show ((1 : Nat) : Int) = 1 from rfl] at b1 b2 b3
    obtain ⟨d1, d2, d3⟩ := sh_app v rest (by simpa using h3)
    simp only [a1, a2, a3, b1, b2, b3, d1, d2, d3]
    rw [if_neg (by decide), if_pos (by rfl), if_pos h0]

theorem one_byte (r : List UInt8) (h : 1 ≤ r.length) (m : Nat) (hm : m < 256) (hd : de (r.take 1) = m) : r = UInt8.ofNat m :: r.drop 1 := by
  cases r with
  | nil => simp at h
  | cons a r =>
    simp [de] at hd
    subst hd
    simp

theorem lay_takeChg {lack : Bool} {rest : List UInt8} {c : Chg} {r : List UInt8} (h : takeChg lack rest = some (c, false, r)) : lack = false ∧ c.ok = true ∧ rest = c.lay ++ r := by
  cases lack with
  | true => rw [takeChg_lack] at h; cases h
  | false =>
    refine ⟨rfl, ?_⟩
    unfold takeChg at h
    simp only at h
    split at h
    · rename_i hm
      split at h
      · rename_i hok
        simp only [Option.some.injEq, Prod.mk.injEq] at h
        obtain ⟨rfl, h2, rfl⟩ := h
        obtain ⟨e1, _, e3, e4, e5⟩ := rd_of_lack h2
        obtain ⟨_, f2, _⟩ := sh_of_lack e1
        refine ⟨hok, ?_⟩
        unfold Chg.lay
        rw [e4] at hm
        have := one_byte (shRest false rest) (by omega) 0 (by decide) hm
        rw [e5]
        simp only [Bool.false_eq_true, if_false, List.append_assoc]
        conv => lhs; rw [f2, this]
        rfl
      · cases h
    · rename_i hm0
      split at h
      · rename_i hm
        split at h
        · rename_i hok
          simp only [Option.some.injEq, Prod.mk.injEq] at h
          obtain ⟨rfl, h2, rfl⟩ := h
          obtain ⟨g1, g2, _⟩ := sh_of_lack h2
          obtain ⟨e1, _, e3, e4, e5⟩ := rd_of_lack g1
          obtain ⟨_, f2, _⟩ := sh_of_lack e1
          refine ⟨hok, ?_⟩
          unfold Chg.lay
          rw [e4] at hm
          have := one_byte (shRest false rest) (by omega) 1 (by decide) hm
          simp only [if_true, List.append_assoc]
          rw [← g2, e5]
          conv => lhs; rw [f2, this]
          rfl
        · cases h
      · cases h

theorem takeN_lay : ∀ (l : List Chg) (h : l.all Chg.ok = true) (rest : List UInt8), takeN l.length false (l.flatMap Chg.lay ++ rest) = some (l, false, rest)
  | [], _, rest => rfl
  | c :: l, h, rest => by
    simp only [List.all_cons, Bool.and_eq_true] at h
    rw [List.flatMap_cons, List.append_assoc, List.length_cons, takeN, takeChg_lay c h.1]
    simp only
    rw [takeN_lay l h.2 rest]

theorem takeN_lack : ∀ (n : Nat) (rest : List UInt8) (l : List Chg) (r : List UInt8), takeN n true rest = some (l, false, r) → False
  | 0, rest, l, r, h => by simp [takeN] at h
  | n + 1, rest, l, r, h => by
    rw [takeN, takeChg_lack] at h
    cases h

theorem lay_takeN : ∀ (n : Nat) (lack : Bool) (rest : List UInt8) (l : List Chg) (r : List UInt8), takeN n lack rest = some (l, false, r) → lack = false ∧ l.all Chg.ok = true ∧ rest = l.flatMap Chg.lay ++ r ∧ l.length = n
  | 0, lack, rest, l, r, h => by
    simp only [takeN, Option.some.injEq, Prod.mk.injEq] at h
    obtain ⟨rfl, rfl, rfl⟩ := h
    exact ⟨rfl, rfl, by simp, rfl⟩
  | n + 1, lack, rest, l, r, h => by
    rw [takeN] at h
    cases hc : takeChg lack rest with
    | none => rw [hc] at h; cases h
    | some p =>
      obtain ⟨c, l1, r1⟩ := p
      rw [hc] at h
      simp only at h
      cases hn : takeN n l1 r1 with
      | none => rw [hn] at h; cases h
      | some q =>
        obtain ⟨cs, l2, r2⟩ := q
        rw [hn] at h
        simp only [Option.some.injEq, Prod.mk.injEq] at h
        obtain ⟨rfl, rfl, rfl⟩ := h
        obtain ⟨rfl, a2, a3, a4⟩ := lay_takeN n l1 r1 cs r2 hn
        obtain ⟨rfl, b2, b3⟩ := lay_takeChg hc
        exact ⟨rfl, by simp [b2, a2], by rw [List.flatMap_cons, List.append_assoc, ← a3]; exact b3, by simp [a4]⟩

theorem read_lay {l : List Chg} {b : List UInt8} (h : layChanges l = some b) : readChanges b = some l := by
  unfold layChanges at h
  split at h
  · rename_i hc
    simp only [Option.some.injEq] at h
    subst h
    unfold readChanges layAll
    obtain ⟨a1, a2, a3⟩ := rd_app (be 2 l.length) (l.flatMap Chg.lay) 2 (be_length _ _)
    rw [show ((2 : Nat) : Int) = 2 from rfl] at a1 a2 a3
    rw [a1, a2, a3, Wal.de_be, Nat.mod_eq_of_lt (by omega), if_neg (by omega)]
    have := takeN_lay l hc.2 []
    rw [List.append_nil] at this
    rw [this]
    simp
  · cases h

theorem lay_read {l : List Chg} {b : List UInt8} (h : readChanges b = some l) : layChanges l = some b := by
  unfold readChanges at h
  split at h
  · cases h
  · rename_i hc
    cases hn : takeN (de (rdBytes false b 2)) (rdLack false b 2) (rdRest false b 2) with
    | none => rw [hn] at h; cases h
    | some q =>
      obtain ⟨cs, l2, r2⟩ := q
      rw [hn] at h
      simp only at h
      split at h
      · cases h
      · rename_i hx
        simp only [Option.some.injEq] at h
        subst h
        have hl2 : l2 = false := by cases l2 <;> simp_all
        have hr2 : r2 = [] := by simpa [hl2] using hx
        subst hl2 hr2
        obtain ⟨a1, a2, a3, a4⟩ := lay_takeN _ _ _ _ _ hn
        obtain ⟨_, _, e3, e4, e5⟩ := rd_of_lack a1
        rw [List.append_nil, e5] at a3
        rw [e4] at a4 hc
        unfold layChanges
        rw [if_pos ⟨by omega, a2⟩]
        unfold layAll
        rw [a4, ← a3]
        have hl : (List.take (Int.toNat 2) b).length = 2 := by simp; omega
        have hbe := Wal.be_de (List.take (Int.toNat 2) b)
        rw [hl] at hbe
        rw [hbe, List.take_append_drop]

end St
end Go.Proofs.YtmcobkcnpnfobaaGreat

namespace Go.Proofs.YtmcobkcnpnfobaaGreat
open Go.RowKit
set_option linter.unusedSimpArgs false
set_option linter.unusedVariables false

theorem cells_3 {w : World} {b : Nat} {x y z : Value} {t : TypeId} (h : w.heap[b]? = some (.cells #[x, y, z] t (0, 0))) :
    w.cell? ⟨b, 0, none⟩ = some x ∧ w.cell? ⟨b, 1, none⟩ = some y ∧ w.cell? ⟨b, 2, none⟩ = some z ∧ ∀ i, w.frozen? ⟨b, i, none⟩ = false := by
  simp [World.cell?, World.frozen?, h]

theorem Only.ofDrews {S : Nat → Prop} {w w' : World} {n : Nat} (h : Only S (w.drewN n) w') : Only S w w' := ⟨h.os, h.tape, h.output, h.size, h.block⟩
theorem set_3 {w : World} {b : Nat} {x y z : Value} {t : TypeId} (h : w.heap[b]? = some (.cells #[x, y, z] t (0, 0))) (p q r : Value) :
    (((w.setCell ⟨b, 0, none⟩ p).setCell ⟨b, 1, none⟩ q).setCell ⟨b, 2, none⟩ r).heap[b]? = some (.cells #[p, q, r] t (0, 0)) := by
  rw [two_setCell (two_setCell (two_setCell h))]
  rfl

namespace St

/-- a change's cells: its value as it lies in memory, and what it is -/
def zc (z : Value × Chg) : List Value := [encStr z.2.key, .bool z.2.has, z.1]

def HasZ (w : World) (v : Value) (zs : List (Value × Chg)) : Prop :=
  (v = .slice none 0 0 ∧ zs = []) ∨ ∃ a cap, v = .slice (some a) zs.length cap ∧ (0 < zs.length → a.spot = none) ∧ zs.length ≤ cap ∧ cap ≤ maxLen ∧ (0 < zs.length → a.block < w.heap.size) ∧
    ∀ j z, zs[j]? = some z → w.cell? ⟨a.block, a.off + j * 3, none⟩ = some (encStr z.2.key) ∧ w.cell? ⟨a.block, a.off + j * 3 + 1, none⟩ = some (.bool z.2.has) ∧ w.cell? ⟨a.block, a.off + j * 3 + 2, none⟩ = some z.1

def EachZ (Q : Nat → Prop) (w : World) (zs : List (Value × Chg)) : Prop := ∀ z ∈ zs, Has w z.1 z.2.value ∧ (z.2.value ≠ [] → ∀ k, blk z.1 = some k → Q k)

theorem EachZ.only {Q S : Nat → Prop} {w w' : World} {zs : List (Value × Chg)} (h : EachZ Q w zs) (ho : Only S w w') (hS : ∀ k, k < w.heap.size → Q k → ¬ S k) : EachZ Q w' zs := fun z hz =>
  ⟨(h z hz).1.only ho (fun hne k hk => hS k ((h z hz).1.blk_lt hne k hk) ((h z hz).2 hne k hk)), (h z hz).2⟩
theorem EachZ.mono {Q R : Nat → Prop} {w : World} {zs : List (Value × Chg)} (h : EachZ Q w zs) (hR : ∀ k, k < w.heap.size → Q k → R k) : EachZ R w zs := fun z hz =>
  ⟨(h z hz).1, fun hne k hk => hR k ((h z hz).1.blk_lt hne k hk) ((h z hz).2 hne k hk)⟩

theorem HasZ.shape {w : World} {v : Value} {zs : List (Value × Chg)} (h : HasZ w v zs) : ∃ ao cap, v = .slice ao zs.length cap ∧ zs.length ≤ cap ∧ cap ≤ maxLen := by
  rcases h with ⟨rfl, rfl⟩ | ⟨a, cap, rfl, _, hl, hm, _⟩
  · exact ⟨none, 0, rfl, Nat.le_refl _, Nat.zero_le _⟩
  · exact ⟨some a, cap, rfl, hl, hm⟩
theorem HasZ.only {S : Nat → Prop} {w w' : World} {v : Value} {zs : List (Value × Chg)} (h : HasZ w v zs) (ho : Only S w w') (hS : zs ≠ [] → ∀ k, blk v = some k → ¬ S k) : HasZ w' v zs := by
  rcases h with h | ⟨a, cap, rfl, hsp, hl, hm, hb, hc⟩
  · exact Or.inl h
  · refine Or.inr ⟨a, cap, rfl, hsp, hl, hm, fun h0 => Nat.lt_of_lt_of_le (hb h0) ho.size, fun j z hj => ?_⟩
    have hne : zs ≠ [] := fun e => by subst e; simp at hj
    obtain ⟨h1, h2, h3⟩ := hc j z hj
    exact ⟨ho.cell h1 (hS hne _ rfl), ho.cell h2 (hS hne _ rfl), ho.cell h3 (hS hne _ rfl)⟩
theorem HasZ.blk_lt {w : World} {v : Value} {zs : List (Value × Chg)} (h : HasZ w v zs) (hne : zs ≠ []) : ∀ k, blk v = some k → k < w.heap.size := by
  intro k hk
  rcases h with ⟨_, e⟩ | ⟨a, cap, rfl, _, _, _, hb, _⟩
  · exact absurd e hne
  · simp only [blk, Option.map_some, Option.some.injEq] at hk
    subst hk
    exact hb (by cases zs with | nil => exact absurd rfl hne | cons _ _ => simp)
theorem HasZ.at {w : World} {ao : Option Addr} {len cap : Nat} {zs : List (Value × Chg)} (h : HasZ w (.slice ao len cap) zs) (h0 : 0 < len) : ∃ bb off, ao = some ⟨bb, off, none⟩ ∧ len = zs.length ∧
    ∀ j z, zs[j]? = some z → w.cell? ⟨bb, off + j * 3, none⟩ = some (encStr z.2.key) ∧ w.cell? ⟨bb, off + j * 3 + 1, none⟩ = some (.bool z.2.has) ∧ w.cell? ⟨bb, off + j * 3 + 2, none⟩ = some z.1 := by
  rcases h with ⟨e, rfl⟩ | ⟨a, c, e, hsp, hl, hm, hb, hc⟩
  · simp only [Value.slice.injEq] at e
    omega
  · simp only [Value.slice.injEq] at e
    obtain ⟨b, o, s⟩ := a
    have hs0 : s = none := hsp (by omega)
    subst hs0
    exact ⟨b, o, e.1, e.2.1, hc⟩

/-- the slice value v holds just these changes; what is not empty lies in blocks such as Q tells -/
structure HasC (Q : Nat → Prop) (w : World) (v : Value) (cs : List Chg) : Prop where
  has : ∃ zs, zs.map (·.2) = cs ∧ HasZ w v zs ∧ EachZ Q w zs ∧ (zs ≠ [] → ∀ k, blk v = some k → Q k)

section
variable {Q R S : Nat → Prop} {w w' : World} {v : Value} {cs : List Chg}
theorem HasC.only (h : HasC Q w v cs) (ho : Only S w w') (hS : ∀ k, k < w.heap.size → Q k → ¬ S k) : HasC Q w' v cs := by
  obtain ⟨zs, e, hz, he, hb⟩ := h.has
  exact ⟨zs, e, hz.only ho (fun hne k hk => hS k (hz.blk_lt hne k hk) (hb hne k hk)), he.only ho hS, hb⟩
theorem HasC.mono (h : HasC Q w v cs) (hR : ∀ k, k < w.heap.size → Q k → R k) : HasC R w v cs := by
  obtain ⟨zs, e, hz, he, hb⟩ := h.has
  exact ⟨zs, e, hz, he.mono hR, fun hne k hk => hR k (hz.blk_lt hne k hk) (hb hne k hk)⟩
theorem HasC.same (h : HasC Q w v cs) (ho : Only (fun _ => False) w w') : HasC Q w' v cs := h.only ho (fun _ _ _ e => e)
theorem HasC.shape (h : HasC Q w v cs) : ∃ ao cap, v = .slice ao cs.length cap ∧ cs.length ≤ cap ∧ cap ≤ maxLen := by
  obtain ⟨zs, e, hz, he, hb⟩ := h.has
  rw [← e, List.length_map]
  exact hz.shape
theorem hasC_nil (Q : Nat → Prop) (w : World) : HasC Q w (.slice none 0 0) [] := ⟨[], rfl, Or.inl ⟨rfl, rfl⟩, fun z hz => (by cases hz), fun h => absurd rfl h⟩
/-- a change's cells -/
theorem HasC.at {ao : Option Addr} {len cap : Nat} (h : HasC Q w (.slice ao len cap) cs) (i : Nat) (hi : i < cs.length) : ∃ bb off x, ao = some ⟨bb, off, none⟩ ∧
    w.cell? ⟨bb, off + i * 3, none⟩ = some (encStr cs[i].key) ∧ w.cell? ⟨bb, off + i * 3 + 1, none⟩ = some (.bool cs[i].has) ∧ w.cell? ⟨bb, off + i * 3 + 2, none⟩ = some x ∧ Has w x cs[i].value ∧ (cs[i].value ≠ [] → ∀ k, blk x = some k → Q k) := by
  obtain ⟨zs, e, hz, he, hb⟩ := h.has
  obtain ⟨ao', cap', hsh, _, _⟩ := hz.shape
  simp only [Value.slice.injEq] at hsh
  subst e
  simp only [List.length_map] at hi
  obtain ⟨bb, off, rfl, hlen, hc⟩ := hz.at (by omega)
  obtain ⟨h1, h2, h3⟩ := hc i zs[i] (List.getElem?_eq_getElem hi)
  have hm := he zs[i] (List.getElem_mem hi)
  refine ⟨bb, off, zs[i].1, rfl, ?_, ?_, h3, ?_, ?_⟩
  · simpa using h1
  · simpa using h2
  · simpa using hm.1
  · simpa using hm.2
end

/-- an owned row of changes -/
structure RowC (Q : Nat → Prop) (base : Nat) (w : World) (v : Value) (cs : List Chg) : Prop where
  own : ∃ zs, zs.map (·.2) = cs ∧ w.ownsRow base 39 3 v cs.length (zs.flatMap zc) ∧ EachZ (fun k => Q k ∧ v.ownBlock ≠ some k) w zs

theorem Tryz.info39 : (Tryz.prog.info? 39).map (fun i => (i.zero, i.size, i.bytes)) = some (some (.agg #[.string ByteArray.empty, .bool false, .slice none 0 0]), 3, 48) := by kernel_rfl

section
variable {Q R S : Nat → Prop} {w w' : World} {v : Value} {cs : List Chg} {base : Nat}
theorem rowC_nil (Q : Nat → Prop) (base : Nat) (w : World) : RowC Q base w (.slice none 0 0) [] := ⟨[], rfl, World.ownsRow_nil _ _ _ _, fun z hz => (by cases hz)⟩
theorem RowC.later (h : RowC Q base w v cs) (ho : Only S w w') (hS : ∀ k, k < w.heap.size → Q k → ¬ S k) (hb : ∀ k, v.ownBlock = some k → ¬ S k) : RowC Q base w' v cs := by
  obtain ⟨zs, e, hv, he⟩ := h.own
  exact ⟨zs, e, ho.owns hv hb, he.only ho (fun k hk hq => hS k hk hq.1)⟩
theorem RowC.same (h : RowC Q base w v cs) (ho : Only (fun _ => False) w w') : RowC Q base w' v cs := h.later ho (fun _ _ _ h => h) (fun _ _ h => h)
theorem RowC.mono (h : RowC Q base w v cs) (hR : ∀ k, k < w.heap.size → Q k → R k) : RowC R base w v cs := by
  obtain ⟨zs, e, hv, he⟩ := h.own
  exact ⟨zs, e, hv, he.mono (fun k hk hq => ⟨hR k hk hq.1, hq.2⟩)⟩
theorem RowC.hasC (h : RowC Q base w v cs) (hQ : ∀ k, base ≤ k → Q k) : HasC Q w v cs := by
  obtain ⟨zs, e, hv, he⟩ := h.own
  subst e
  simp only [List.length_map] at hv
  refine ⟨zs, rfl, ?_, he.mono (fun _ _ h => h.1), fun hne k hk => ?_⟩
  · rcases hv.2 with ⟨rfl, h0⟩ | ⟨g, cap, cur, rfl, hb, hg, hc, hm, hcs, ht⟩
    · exact Or.inl ⟨rfl, List.eq_nil_of_length_eq_zero h0⟩
    · refine Or.inr ⟨⟨g, 0, none⟩, cap, rfl, fun _ => rfl, hc, hm, fun _ => (Array.getElem?_eq_some_iff.1 hg).1, fun j z hj => ?_⟩
      have hjl : j < zs.length := (List.getElem?_eq_some_iff.1 hj).1
      have hr := row_range (f := zc) hv (fun _ _ => rfl) rfl j z hj
      refine ⟨?_, ?_, ?_⟩
      · have := hr 0 _ (show (zc z)[0]? = some (encStr z.2.key) from rfl)
        simpa using this
      · have := hr 1 _ (show (zc z)[1]? = some (.bool z.2.has) from rfl)
        simpa using this
      · have := hr 2 _ (show (zc z)[2]? = some z.1 from rfl)
        simpa using this
  · rcases hv.2 with ⟨rfl, _⟩ | ⟨g, cap, cur, rfl, hb, _⟩
    · cases hk
    · simp only [blk, Option.map_some, Option.some.injEq] at hk
      exact hQ k (by omega)
theorem RowC.lower (h : RowC Q base w v cs) {base' : Nat} (hb : base' ≤ base) : RowC Q base' w v cs := by
  obtain ⟨zs, e, hv, he⟩ := h.own
  exact ⟨zs, e, ownsRow_base hv hb, he⟩
theorem RowC.shape (h : RowC Q base w v cs) : ∃ ao cap, v = .slice ao cs.length cap := by
  obtain ⟨zs, e, hv, he⟩ := h.own
  exact ownsRow_shape hv
theorem RowC.lt (h : RowC Q base w v cs) : ∀ k, v.ownBlock = some k → base ≤ k ∧ k < w.heap.size := by
  obtain ⟨zs, e, hv, he⟩ := h.own
  exact fun k hk => hv.lt k hk

/-- one more: what an append leaves -/
theorem RowC.pushed {w1 w2 : World} {g cap : Nat} {zs : List (Value × Chg)} {x : Value} {c : Chg} (hv : w.ownsRow base 39 3 v zs.length (zs.flatMap zc)) (he : EachZ (fun k => Q k ∧ v.ownBlock ≠ some k) w zs)
    (hx : Has w x c.value) (hxq : c.value ≠ [] → ∀ k, blk x = some k → Q k ∧ v.ownBlock ≠ some k) (ho : Only (fun _ => False) w w1)
    (own2 : w2.ownsRow base 39 3 (.slice (some ⟨g, 0, none⟩) (zs.length + 1) cap) (zs.length + 1) (zs.flatMap zc ++ zc (x, c))) (gr2 : w1.grownBy w2 v.ownBlock) (hat : v.ownBlock = some g ∨ g = w1.heap.size) :
    RowC Q base w2 (.slice (some ⟨g, 0, none⟩) (zs.length + 1) cap) (zs.map (·.2) ++ [c]) ∧ Only (fun k => v.ownBlock = some k) w w2 := by
  have o2 : Only (fun k => v.ownBlock = some k) w w2 := (ho.mono (fun _ _ e => e.elim)).grown gr2 (fun k hk _ => hk)
  have hs := ho.size
  refine ⟨⟨zs ++ [(x, c)], by simp, by simpa using own2, ?_⟩, o2⟩
  have h1 : EachZ (fun k => Q k ∧ v.ownBlock ≠ some k) w (zs ++ [(x, c)]) := fun z hz => by
    rcases List.mem_append.1 hz with hz | hz
    · exact he z hz
    · rw [List.mem_singleton.1 hz]
      exact ⟨hx, hxq⟩
  have h2 := h1.only o2 (fun k _ hq e => hq.2 e)
  intro z hz
  refine ⟨(h2 z hz).1, fun hne k hk => ⟨((h1 z hz).2 hne k hk).1, fun e => ?_⟩⟩
  simp only [Value.ownBlock, Option.some.injEq] at e
  rcases hat with e2 | e2
  · exact ((h1 z hz).2 hne k hk).2 (by rw [e2, e])
  · have := (h1 z hz).1.blk_lt hne k hk
    omega
end

end St
end Go.Proofs.YtmcobkcnpnfobaaGreat

namespace Go.Proofs.YtmcobkcnpnfobaaGreat
open Go.RowKit
set_option linter.unusedSimpArgs false
set_option linter.unusedVariables false

namespace WO
/-- a writer made since w0, none of its blocks in X -/
structure MineX (X : Nat → Prop) (w0 w : World) (b : Nat) (bs : List UInt8) : Prop where
  at' : ∃ v, WrAt 73 w b v bs ∧ ∀ k, v.ownBlock = some k → w0.heap.size ≤ k ∧ ¬ X k
  up : w0.heap.size ≤ b
  off : ¬ X b
  only : Only (fun _ => False) w0 w

theorem Mine.apart {w0 w1 w : World} {b : Nat} {bs : List UInt8} (h : Mine w0 w1 b bs) (ho : Only (fun _ => False) w1 w) (X : Nat → Prop) (hX : ∀ k, X k → w1.heap.size ≤ k) : MineX X w0 w b bs := by
  obtain ⟨v, hv, hk⟩ := h.at'
  exact ⟨⟨v, hv.only ho (fun e => e) (fun _ _ e => e), fun k e => ⟨hk k e, fun hx => by have := hX k hx; have := (hv.own.lt k e).2; omega⟩⟩, h.up, fun hx => by have := hX b hx; have := lt_of_block hv.blk; omega, h.only.trans ho (fun _ _ e => e)⟩
theorem MineX.mine {X : Nat → Prop} {w0 w : World} {b : Nat} {bs : List UInt8} (h : MineX X w0 w b bs) : Mine w0 w b bs := by
  obtain ⟨v, hv, hk⟩ := h.at'
  exact ⟨⟨v, hv, fun k e => (hk k e).1⟩, h.up, h.only⟩

theorem MineX.wrote {X : Nat → Prop} {w0 w w' : World} {b : Nat} {v v' : Value} {cs : List UInt8} (ho : Only (fun _ => False) w0 w) (hb : w0.heap.size ≤ b) (hoff : ¬ X b) (hX : ∀ k, X k → k < w.heap.size) (hk : ∀ k, v.ownBlock = some k → w0.heap.size ≤ k ∧ ¬ X k) (h : Wrote 73 w b v w' v' cs) :
    MineX X w0 w' b cs ∧ Only (fun k => w0.heap.size ≤ k ∧ ¬ X k) w w' := by
  have := ho.size
  refine ⟨⟨⟨v', h.now, fun k e => ?_⟩, hb, hoff, ho.trans h.only (fun i hi e => ?_)⟩, h.only.mono (fun i _ e => ?_)⟩
  · rcases h.fresh k e with e | e
    · exact hk k e
    · exact ⟨by omega, fun hx => by have := hX k hx; omega⟩
  · rcases e with e | e
    · omega
    · have := hk i e; omega
  · rcases e with e | e
    · subst e; exact ⟨hb, hoff⟩
    · exact hk i e

theorem mineX_short {X : Nat → Prop} {w0 w : World} {b : Nat} {bs : List UInt8} (h : MineX X w0 w b bs) (hX : ∀ k, X k → k < w.heap.size) (xv : Value) (us : List UInt8) (hx : Has w xv us) (hl : us.length ≤ 65535) (hr : bs.length + us.length + 9 ≤ 140737488355328) (hsep : us ≠ [] → ∀ k, blk xv = some k → k < w0.heap.size ∨ X k) :
    Calls Tryz.prog 36 #[.pointer (some ⟨b, 0, none⟩), xv] w fun e w' => e = .returned (.bool true) ∧ MineX X w0 w' b (bs ++ St.sh us) ∧ Only (fun k => w0.heap.size ≤ k ∧ ¬ X k) w w' := by
  obtain ⟨v, hv, hk⟩ := h.at'
  have hup := h.up
  refine (short_yes b v bs xv us w hx hv hr hl (fun hne k e => ⟨fun e2 => by subst e2; rcases hsep hne k e with e3 | e3; omega; exact h.off e3, fun e2 => by rcases hsep hne k e with e3 | e3; have := hk k e2; omega; exact (hk k e2).2 e3⟩)).mono ?_
  rintro e w' ⟨rfl, v', hw⟩
  have e1 : short us = St.sh us := by unfold short St.sh; rw [toU64_nat us.length (by omega)]
  rw [e1] at hw
  exact ⟨rfl, MineX.wrote h.only h.up h.off hX hk hw⟩
theorem mineX_u8 {X : Nat → Prop} {w0 w : World} {b : Nat} {bs : List UInt8} (h : MineX X w0 w b bs) (hX : ∀ k, X k → k < w.heap.size) (n : Nat) (hn : n < 18446744073709551616) (hr : bs.length + 9 ≤ 140737488355328) :
    Calls Tryz.prog 37 #[.pointer (some ⟨b, 0, none⟩), .int .i64 n] w fun e w' => e = .returned (.tuple #[]) ∧ MineX X w0 w' b (bs ++ be 1 n) ∧ Only (fun k => w0.heap.size ≤ k ∧ ¬ X k) w w' := by
  obtain ⟨v, hv, hk⟩ := h.at'
  refine (u8_any b v bs n w hv hr).mono ?_
  rintro e w' ⟨rfl, v', hw⟩
  rw [toU64_nat n hn] at hw
  exact ⟨rfl, MineX.wrote h.only h.up h.off hX hk hw⟩
end WO

namespace St

/-- '[]byte(k)' of a string -/
theorem conv_bytes (k : List UInt8) (hk : k.length ≤ maxLen) (w : World) : ∃ ao cap w', (convert 9 24 (encStr k)).run Tryz.prog w = .ok (.slice ao k.length cap) w' ∧ Has w' (.slice ao k.length cap) k ∧ Only (fun _ => False) w w' ∧ (∀ j, blk (.slice ao k.length cap) = some j → w.heap.size ≤ j) := by
  have h := run_bytes_of_string (P := Tryz.prog) w 9 24 5 ⟨k.toArray⟩ Tryz.underlying9 Tryz.underlying24 Tryz.underlying5
  have e : ByteArray.size ⟨k.toArray⟩ = k.length := rfl
  rw [e] at h
  have hge := grownCap_ge w k.length 0 5
  have hle := grownCap_le_maxLen w k.length 0 5 hk
  generalize grownCap w k.length 0 5 = cap at *
  refine ⟨_, _, _, h, Or.inr ⟨_, cap, rfl, fun _ => rfl, hge, hle, fun _ => by simp, fun j hj => ?_⟩, ((Only.refl _ w).drew).alloc _, fun j hj => ?_⟩
  · rw [Nat.zero_add]
    have hc := World.cell?_alloc_mark w.drew (bytesRow ⟨k.toArray⟩ cap) 5 ((bytesRow ⟨k.toArray⟩ cap).size, (bytesRow ⟨k.toArray⟩ cap).size + 1) j
    rw [show w.drew.heap.size = w.heap.size from rfl] at hc
    rw [hc, bytesRow_at _ _ _ (by simpa using hj)]
    simp [bv]
  · simp only [blk, Option.map_some, Option.some.injEq] at hj
    omega
theorem wpList_tobytes {w : World} {ops : Array Oper} {rest : List Oper} {o : Oper} {a : Act} {Q : Exit → Act → World → Prop} (hg : o.guard = none) (x : Operand) (hop : o.op = Op.convert 9 24 x) (k : List UInt8) (hx : a.eval x = encStr k) (hk : k.length ≤ maxLen)
    (hK : ∀ ao cap w', Has w' (.slice ao k.length cap) k → Only (fun _ => False) w w' → (∀ j, blk (.slice ao k.length cap) = some j → w.heap.size ≤ j) → wpList Tryz.prog ops Q rest (a.put o.dst (.slice ao k.length cap)) w') : wpList Tryz.prog ops Q (o :: rest) a w := by
  obtain ⟨ao, cap, w', hr, h1, h2, h3⟩ := conv_bytes k hk w
  refine wpList_plain hg fun K hK' => ?_
  unfold Oper.wp
  simp only [execOp, hop, hx, Sem.run_bind, Sem.run_pure, hr, Result.andThen]
  exact hK' _ _ (hK ao cap w' h1 h2 h3)

theorem fresh_any (xv : Value) (us : List UInt8) (w : World) (hx : Has w xv us) (hr : us.length ≤ 140737488355328) :
    Calls Tryz.prog 51 #[xv] w fun e w' => ∃ u, e = .returned u ∧ Owns w.heap.size w' u us ∧ Only (fun _ => False) w w' := by
  obtain ⟨i0, hi, hz0, hz1, hz2⟩ := info_parts Tryz.info5
  obtain ⟨xo, xc, hxv, hlc, hm⟩ := hx.shape
  subst hxv
  have hown : (w.alloc (.cells #[] 5)).ownsRow w.heap.size 5 1 (.slice (some ⟨w.heap.size, 0, none⟩) 0 0) 0 [] := World.ownsRow_lit w #[] 0 (Nat.le_refl _) (Nat.zero_le _) rfl
  have hhas := hx.only ((Only.refl (fun _ => False) w).alloc (.cells #[] 5)) (fun _ _ _ h => h)
  clear hx
  go_enter Tryz.func51, Tryz.ntmps51
  go_wp2_with (at_builtin; refine wpList_append_has rfl (.tmp 3) (.tmp 4) 24 rfl w.heap.size 5 i0 Tryz.underlying24 hi hz0 hz1 hz2 _ 0 [] rfl hown _ us rfl hhas (by omega) (by simp) ?_; intro ao2 cap2 w2 own2 gr2 at2)
  go_ret
  refine ⟨.slice ao2 us.length cap2, by simp, ?_, ((Only.refl _ _).alloc _).grown gr2 (fun k hk hl => by have hk2 : some w.heap.size = some k := hk; simp at hk2; omega)⟩
  unfold Owns
  simpa using own2

/-- a change as a value -/
abbrev cvl (c : Chg) (x : Value) : Value := .agg #[encStr c.key, .bool c.has, x]

theorem str_size (k : List UInt8) : ByteArray.size ⟨k.toArray⟩ = k.length := rfl

theorem ok_eq (c : Chg) : c.ok = (if c.key.length = 0 ∨ 100 < c.key.length then false else if c.has then decide (c.value.length ≤ 65535) else decide (c.value.length = 0)) := by
  unfold Chg.ok
  by_cases h : c.key.length = 0 ∨ 100 < c.key.length
  · rw [if_pos h]
    rcases h with h | h
    · simp [h]
    · have : ¬ c.key.length ≤ 100 := by omega
      simp [this]
  · rw [if_neg h]
    have h1 : 0 < c.key.length := by omega
    have h2 : c.key.length ≤ 100 := by omega
    simp [h1, h2]

set_option maxHeartbeats 1000000 in
theorem right_any (c : Chg) (x : Value) (w : World) (hx : Has w x c.value) :
    Calls Tryz.prog 16 #[cvl c x] w fun e w' => e = .returned (.bool c.ok) ∧ Only (fun _ => False) w w' := by
  obtain ⟨xo, xc, rfl, _⟩ := hx.shape
  have HO := hide (ok_eq c)
  obtain ⟨key, has, value⟩ := c
  clear hx
  unfold cvl
  simp only at HO ⊢
  have hsz := str_size key
  by_cases h0 : key.length = 0
  · rw [if_pos (Or.inl h0)] at HO
    go_enter Tryz.func16, Tryz.ntmps16
    go_wp2
    go_ret
    rw [unhide HO]
    exact ⟨rfl, (Only.refl _ _).alloc _⟩
  · have h0' : ((key.length : Int) == 0) = false := by rw [beq_eq_false_iff_ne]; omega
    by_cases h1 : 100 < key.length
    · rw [if_pos (Or.inr h1)] at HO
      have h1' : (100 : Int) < key.length := by omega
      go_enter Tryz.func16, Tryz.ntmps16
      go_wp2
      go_ret
      rw [unhide HO]
      exact ⟨rfl, (Only.refl _ _).alloc _⟩
    · rw [if_neg (by omega)] at HO
      have h1' : ¬ (100 : Int) < key.length := by omega
      cases has with
      | false =>
        rw [if_neg (by decide)] at HO
        go_enter Tryz.func16, Tryz.ntmps16
        go_wp2
        go_ret
        rw [unhide HO]
        refine ⟨?_, (Only.refl _ _).alloc _⟩
        have e : ((value.length : Int) == 0) = decide (value.length = 0) := by rw [Bool.eq_iff_iff, beq_iff_eq, decide_eq_true_iff]; omega
        rw [← e]
        rfl
      | true =>
        rw [if_pos rfl] at HO
        go_enter Tryz.func16, Tryz.ntmps16
        go_wp2
        go_ret
        rw [unhide HO]
        refine ⟨?_, (Only.refl _ _).alloc _⟩
        have e : decide ((value.length : Int) ≤ 65535) = decide (value.length ≤ 65535) := by rw [Bool.eq_iff_iff, decide_eq_true_iff, decide_eq_true_iff]; omega
        rw [← e]
        rfl

theorem be_one (n : Nat) : be 1 n = [UInt8.ofNat n] := by simp [be]

set_option maxHeartbeats 1000000 in
theorem clay_any {w0 w : World} {b : Nat} {bs : List UInt8} (h : WO.Mine w0 w b bs) (c : Chg) (x : Value) (hok : c.ok = true) (hx : Has w0 x c.value) (hr : bs.length + 100000 ≤ 140737488355328) :
    Calls Tryz.prog 17 #[cvl c x, .pointer (some ⟨b, 0, none⟩)] w fun e w' => e = .returned (.tuple #[]) ∧ WO.Mine w0 w' b (bs ++ c.lay) := by
  have hokk := hok
  unfold Chg.ok at hokk
  simp only [Bool.and_eq_true, decide_eq_true_eq] at hokk
  obtain ⟨⟨hk1, hk2⟩, hv⟩ := hokk
  obtain ⟨key, has, value⟩ := c
  unfold cvl
  simp only at hk1 hk2 hv hx ⊢
  have HX := hide hx
  obtain ⟨xo, xc, hxv, _⟩ := hx.shape
  subst hxv
  have H := hide h
  have hshl : (sh key).length = 2 + key.length := by simp [sh, be_length]
  clear h hx hok
  go_enter Tryz.func17, Tryz.ntmps17
  go_wp2_with (refine wpList_tobytes rfl (.tmp 6) rfl key rfl (by unfold maxLen; omega) ?_; intro ao cap w2 hh2 ho2 hb2)
  have hB := heap_alloc_new w (.cells #[encStr key, .bool has, .slice xo value.length xc] 39)
  have oA := (Only.refl (fun _ => False) w).alloc (.cells #[encStr key, .bool has, .slice xo value.length xc] 39)
  have hB2 := ho2.heap hB (fun e => e)
  have o2 := oA.trans ho2 (fun _ _ e => e)
  have hsz := oA.size
  have hlt2 : w.heap.size < w2.heap.size := lt_of_block hB2
  obtain ⟨X, hXe⟩ : ∃ X : Nat → Prop, X = fun k => w.heap.size ≤ k ∧ k < w2.heap.size := ⟨_, rfl⟩
  have HM2 := hide ((unhide H).apart o2 X (by rw [hXe]; exact fun k e => e.1))
  have HXL : Hid (∀ k, X k → k < w2.heap.size) := by show ∀ k, X k → k < w2.heap.size; rw [hXe]; exact fun k e => e.2
  have HXB : Hid (X w.heap.size) := by show X w.heap.size; rw [hXe]; exact ⟨Nat.le_refl _, hlt2⟩
  have HSH := hide (WO.mineX_short (unhide HM2) (unhide HXL) _ key hh2 (by omega) (by omega) (fun hne j e => Or.inr (by rw [hXe]; exact ⟨by have := hb2 j e; omega, hh2.blk_lt hne j e⟩)))
  clear hB oA ho2 hh2 hb2 hXe
  refine (unhide HSH).mono ?_
  rintro e w3 ⟨rfl, hm3, o3⟩
  have hB3 := o3.heap hB2 (fun e => e.2 (unhide HXB))
  have HX3 : Hid (∀ k, X k → k < w3.heap.size) := fun k e => Nat.lt_of_lt_of_le (unhide HXL k e) o3.size
  clear hB2 HSH o2 o3
  obtain ⟨c0, c1, c2, cf⟩ := cells_3 hB3
  have HM3 := hide hm3
  have HB3 := hide hB3
  clear hm3 hB3
  cases has with
  | false =>
    have HL : Hid ((⟨key, false, value⟩ : Chg).lay = sh key ++ be 1 0) := by show _ = _; rw [be_one]; rfl
    have HU := hide (WO.mineX_u8 (unhide HM3) (unhide HX3) 0 (by decide) (by simp; omega))
    rw [show ((0 : Nat) : Int) = 0 from rfl] at HU
    go_wp2_with fail
    refine (unhide HU).mono ?_
    rintro e w4 ⟨rfl, hm4, _⟩
    have HM4 := hide hm4.mine
    clear hm4
    go_wp2
    (try simp only [Exit.inBlock, Exit.then])
    refine bodyPost_ret (results_none rfl _ _ _) rfl ?_
    rw [unhide HL, ← List.append_assoc]
    exact ⟨rfl, unhide HM4⟩
  | true =>
    have HL : Hid ((⟨key, true, value⟩ : Chg).lay = sh key ++ (be 1 1 ++ sh value)) := by show _ = _; rw [be_one]; rfl
    simp at hv
    have HU := hide (WO.mineX_u8 (unhide HM3) (unhide HX3) 1 (by decide) (by simp; omega))
    rw [show ((1 : Nat) : Int) = 1 from rfl] at HU
    go_wp2_with fail
    refine (unhide HU).mono ?_
    rintro e w4 ⟨rfl, hm4, o4⟩
    have hB4 := o4.heap (unhide HB3) (fun e => e.2 (unhide HXB))
    have HX4 : Hid (∀ k, X k → k < w4.heap.size) := fun k e => Nat.lt_of_lt_of_le (unhide HX3 k e) o4.size
    clear o4 c0 c1 c2 cf
    obtain ⟨c0, c1, c2, cf⟩ := cells_3 hB4
    have hx4 := (unhide HX).only hm4.only (fun _ _ _ e => e)
    have HV := hide (WO.mineX_short hm4 (unhide HX4) _ value hx4 (by omega) (by simp [be_length]; omega) (fun hne j e => Or.inl ((unhide HX).blk_lt hne j e)))
    clear hm4 hB4 hx4
    go_wp2_with fail
    refine (unhide HV).mono ?_
    rintro e w5 ⟨rfl, hm5, _⟩
    have HM5 := hide hm5.mine
    clear hm5
    go_wp2
    go_end0
    rw [unhide HL, ← List.append_assoc, ← List.append_assoc]
    exact ⟨rfl, unhide HM5⟩

theorem lay_len (c : Chg) (h : c.ok = true) : c.lay.length ≤ 65700 := by
  unfold Chg.ok at h
  simp only [Bool.and_eq_true, decide_eq_true_eq] at h
  obtain ⟨⟨_, h2⟩, h3⟩ := h
  unfold Chg.lay sh
  split at h3 <;> simp_all [be_length] <;> omega
theorem lays_len : ∀ (l : List Chg) (h : l.all Chg.ok = true), (l.flatMap Chg.lay).length ≤ l.length * 65700
  | [], _ => by simp
  | c :: l, h => by
    simp only [List.all_cons, Bool.and_eq_true] at h
    rw [List.flatMap_cons, List.length_append, List.length_cons]
    have := lay_len c h.1
    have := lays_len l h.2
    omega

/-- what LayChanges answers -/
def LaidAs (w w' : World) (e : Ending) : Option (List UInt8) → Prop
  | none => e = .returned (.tuple #[.slice none 0 0, .int .i64 1])
  | some b => ∃ u, e = .returned (.tuple #[u, .int .i64 0]) ∧ Owns w.heap.size w' u b

theorem all_take_ok {l : List Chg} {k : Nat} (hk : k < l.length) (h : (l.take k).all Chg.ok = true) : ((l.take (k + 1)).all Chg.ok = true ↔ l[k].ok = true) := by
  rw [List.take_succ_eq_append_getElem hk, List.all_append, h]
  simp
theorem flat_take {l : List Chg} {k : Nat} (hk : k < l.length) : (l.take (k + 1)).flatMap Chg.lay = (l.take k).flatMap Chg.lay ++ l[k].lay := by
  rw [List.take_succ_eq_append_getElem hk, List.flatMap_append]
  simp

set_option maxHeartbeats 2000000 in
theorem layChanges_any {Q : Nat → Prop} (xv : Value) (cs : List Chg) (w : World) (hx : HasC Q w xv cs) (hQ : cs.length ≤ 140737488355328) :
    Calls Tryz.prog 5 #[xv] w fun e w' => LaidAs w w' e (layChanges cs) ∧ Only (fun _ => False) w w' := by
  have HX := hide hx
  obtain ⟨xo, xc, hxv, hlc, hmc⟩ := hx.shape
  subst hxv
  clear hx
  have HLC : Hid (layChanges cs = if cs.length ≤ 1000 ∧ cs.all Chg.ok = true then some (layAll cs) else none) := rfl
  by_cases hbig : 1000 < cs.length
  · rw [if_neg (by omega)] at HLC
    have hb' : (1000 : Int) < cs.length := by omega
    go_enter Tryz.func5, Tryz.ntmps5
    go_wp2
    go_ret2
    rw [unhide HLC]
    exact ⟨rfl, Only.refl _ _⟩
  · have hb' : ¬ (1000 : Int) < cs.length := by omega
    obtain ⟨n, hn⟩ : ∃ n, n = cs.length := ⟨_, rfl⟩
    have HN := hide hn
    rw [← hn] at HX hlc hbig hb' HLC hQ ⊢
    clear hn
    go_enter Tryz.func5, Tryz.ntmps5
    go_wp2_with fail
    refine (WO.mine_new w).mono ?_
    rintro e w1 ⟨b, rfl, hm1⟩
    have HU := hide (WO.mine_u16 hm1 n (by omega) (by simp))
    clear hm1
    go_wp2_with fail
    refine (unhide HU).mono ?_
    rintro e w2 ⟨rfl, hm2⟩
    rw [List.nil_append] at hm2
    have HM2 := hide hm2
    clear hm2 HU
    go_wp2
    go_loopw [17] (fun i wr => ∃ k : Nat, k ≤ n ∧ i = .int .i64 k ∧ (cs.take k).all Chg.ok = true ∧ WO.Mine w wr b (be 2 n ++ (cs.take k).flatMap Chg.lay)) (fun i _ => n - (intOf i).toNat)
    case atStart => exact ⟨0, Nat.zero_le _, rfl, rfl, by simpa using unhide HM2⟩
    case round =>
      obtain ⟨k, hk, rfl, hall, hm⟩ := hrel
      have HA := hide hall
      have HM := hide hm
      clear hall hm
      by_cases hlt : k < n
      · have hku : k < cs.length := by have := unhide HN; omega
        have hlt' : (k : Int) < n := by omega
        obtain ⟨bb, off, x, hao, hc0, hc1, hc2, hxh, _⟩ := (unhide HX).at k hku
        subst hao
        have om := (unhide HM).only
        have d0 := om.cell hc0 (fun e => e)
        have d1 := om.cell hc1 (fun e => e)
        have d2 := om.cell hc2 (fun e => e)
        have hLL := lays_len (cs.take k) (unhide HA)
        rw [List.length_take] at hLL
        have HFT := hide (flat_take hku)
        have HAT := hide (all_take_ok hku (unhide HA))
        have HXH := hide hxh
        obtain ⟨c, hc⟩ : ∃ c, c = cs[k] := ⟨_, rfl⟩
        rw [← hc] at d0 d1 HFT HAT HXH
        have HAL : Hid (cs.all Chg.ok = true → c.ok = true) := fun h => by rw [hc]; exact List.all_eq_true.1 h _ (List.getElem_mem hku)
        clear hc hc0 hc1 hc2 hxh om
        have e3 : (off : Int) = off := rfl
        obtain ⟨yo, yc, hyv, _⟩ := (unhide HXH).shape
        subst hyv
        go_wp2_with fail
        have hB := heap_alloc_new wr (.cells #[encStr c.key, .bool c.has, .slice yo c.value.length yc] 39)
        have oA := (Only.refl (fun _ => False) wr).alloc (.cells #[encStr c.key, .bool c.has, .slice yo c.value.length yc] 39)
        generalize (wr.alloc (.cells #[encStr c.key, .bool c.has, .slice yo c.value.length yc] 39)) = wa at *
        have hxa := (unhide HXH).only ((unhide HM).only.trans oA (fun _ _ e => e)) (fun _ _ _ e => e)
        refine (right_any c _ wa hxa).mono ?_
        rintro e w3 ⟨rfl, o3⟩
        have hB3 := o3.heap hB (fun e => e)
        have HM3 := hide ((unhide HM).same (oA.trans o3 (fun _ _ e => e)))
        clear hB oA hxa o3 d0 d1 d2
        obtain ⟨c0, c1, c2, cf⟩ := cells_3 hB3
        clear hB3
        by_cases hok : c.ok = true
        · have HCL := hide (clay_any (unhide HM3) c _ hok (unhide HXH) (by rw [List.length_append, be_length]; omega))
          rw [hok]
          go_wp2_with fail
          refine (unhide HCL).mono ?_
          rintro e w4 ⟨rfl, hm4⟩
          rw [List.append_assoc, ← unhide HFT] at hm4
          have HM4 := hide hm4
          clear hm4
          go_wp2
          go_roundw
          case rel => exact ⟨k + 1, by omega, by go_num, (unhide HAT).2 hok, unhide HM4⟩
          case measure => simp [intOf]; omega
        · have hokf : c.ok = false := by simpa using hok
          rw [if_neg (fun e => hok (unhide HAL e.2))] at HLC
          rw [hokf]
          go_wp2
          go_ret2
          rw [unhide HLC]
          exact ⟨rfl, (unhide HM3).only⟩
      · obtain rfl : n = k := by omega
        have htk : cs.take n = cs := List.take_of_length_le (by have := unhide HN; omega)
        rw [htk] at HA HM
        rw [if_pos ⟨by omega, unhide HA⟩] at HLC
        have hLL := lays_len cs (unhide HA)
        rw [← unhide HN] at hLL
        have HBY := hide (WO.mine_bytes (unhide HM) (by rw [List.length_append, be_length]; omega))
        go_wp2_with fail
        refine (unhide HBY).mono ?_
        rintro e w3 ⟨u, rfl, hmd⟩
        go_wp2
        go_ret2
        rw [unhide HLC]
        unfold layAll
        rw [← unhide HN]
        refine ⟨⟨_, rfl, ?_⟩, (unhide HM).only.trans hmd.only (fun _ _ e => e)⟩
        unfold Owns
        exact ownsRow_base hmd.own (unhide HM).only.size
end St
end Go.Proofs.YtmcobkcnpnfobaaGreat

namespace Go.Proofs.YtmcobkcnpnfobaaGreat
open Go.RowKit
set_option linter.unusedSimpArgs false
set_option linter.unusedVariables false

namespace RO
section
variable {w0 w : World} {hi b : Nat} {lack : Bool} {rest : List UInt8}
theorem mine_u8g (h : Mine w0 hi w b lack rest) (hr : rest.length ≤ 140737488355328) :
    Calls Tryz.prog 43 #[.pointer (some ⟨b, 0, none⟩)] w fun e w' => e = .returned (.int .i64 (de (rdBytes lack rest 1))) ∧ Mine w0 hi w' b (rdLack lack rest 1) (rdRest lack rest 1) ∧ Only (fun k => k = b) w w' := by
  obtain ⟨v, hv, hk⟩ := h.at'
  refine (u8_any b v lack rest w hv hr).mono ?_
  rintro e w' ⟨rfl, v', ht⟩
  exact ⟨rfl, Mine.read h.only h.up h.hi hk ht, ht.only⟩
theorem mine_u16g (h : Mine w0 hi w b lack rest) (hr : rest.length ≤ 140737488355328) :
    Calls Tryz.prog 23 #[.pointer (some ⟨b, 0, none⟩)] w fun e w' => e = .returned (.int .i64 (de (rdBytes lack rest 2))) ∧ Mine w0 hi w' b (rdLack lack rest 2) (rdRest lack rest 2) ∧ Only (fun k => k = b) w w' := by
  obtain ⟨v, hv, hk⟩ := h.at'
  refine (u16_any b v lack rest w hv hr).mono ?_
  rintro e w' ⟨rfl, v', ht⟩
  exact ⟨rfl, Mine.read h.only h.up h.hi hk ht, ht.only⟩
theorem mine_shortg (h : Mine w0 hi w b lack rest) (hr : rest.length ≤ 140737488355328) :
    Calls Tryz.prog 42 #[.pointer (some ⟨b, 0, none⟩)] w fun e w' => ∃ u, e = .returned u ∧ Owns w.heap.size w' u (shBytes lack rest) ∧ Mine w0 hi w' b (shLack lack rest) (shRest lack rest) ∧ Only (fun k => k = b) w w' := by
  obtain ⟨v, hv, hk⟩ := h.at'
  refine (short_any b v lack rest w hv hr).mono ?_
  rintro e w' ⟨u, rfl, hu, v', ht⟩
  exact ⟨u, rfl, hu, Mine.read h.only h.up h.hi hk ht, ht.only⟩
end
end RO

namespace St

theorem rdRest_le (lack : Bool) (rest : List UInt8) (n : Int) : (rdRest lack rest n).length ≤ rest.length := by
  unfold rdRest
  split
  · simp
  · simp
theorem shRest_le (lack : Bool) (rest : List UInt8) : (shRest lack rest).length ≤ rest.length := Nat.le_trans (rdRest_le _ _ _) (rdRest_le _ _ _)

theorem takeChg_le {lack : Bool} {rest : List UInt8} {c : Chg} {l : Bool} {r : List UInt8} (h : takeChg lack rest = some (c, l, r)) : r.length ≤ rest.length := by
  have h1 := shRest_le lack rest
  have h2 := rdRest_le (shLack lack rest) (shRest lack rest) 1
  have h3 := shRest_le (rdLack (shLack lack rest) (shRest lack rest) 1) (rdRest (shLack lack rest) (shRest lack rest) 1)
  unfold takeChg at h
  simp only at h
  split at h
  · split at h
    · simp only [Option.some.injEq, Prod.mk.injEq] at h
      rw [← h.2.2]; omega
    · cases h
  · split at h
    · split at h
      · simp only [Option.some.injEq, Prod.mk.injEq] at h
        rw [← h.2.2]; omega
      · cases h
    · cases h

/-- what takeChange answers -/
def TookAs (w0 : World) (hi : Nat) (w w' : World) (b : Nat) (e : Ending) : Option (Chg × Bool × List UInt8) → Prop
  | none => ∃ (k : List UInt8) (h : Bool) (ao : Option Addr) (n cap : Nat), e = .returned (.tuple #[.agg #[encStr k, .bool h, .slice ao n cap], .bool false])
  | some (c, l, r) => ∃ x, e = .returned (.tuple #[cvl c x, .bool true]) ∧ Has w' x c.value ∧ (∀ k, blk x = some k → w.heap.size ≤ k) ∧ RO.Mine w0 hi w' b l r

theorem owns_blk {base : Nat} {w : World} {v : Value} {bs : List UInt8} (h : Owns base w v bs) : ∀ k, blk v = some k → base ≤ k := by
  intro k hk
  rcases h.out.2 with ⟨rfl, _⟩ | ⟨g, cap, cur, rfl, hb, _⟩
  · cases hk
  · simp only [blk, Option.map_some, Option.some.injEq] at hk
    omega

set_option maxHeartbeats 2000000 in
theorem takeChange_any {w0 w : World} {hi b : Nat} {lack : Bool} {rest : List UInt8} (h : RO.Mine w0 hi w b lack rest) (hhi : hi ≤ w.heap.size) (hr : rest.length ≤ 140737488355328) :
    Calls Tryz.prog 24 #[.pointer (some ⟨b, 0, none⟩)] w fun e w' => TookAs w0 hi w w' b e (takeChg lack rest) ∧ Only (fun k => k = b) w w' := by
  have hbl := h.hi
  have H := hide h
  clear h
  obtain ⟨key, hkey⟩ : ∃ key, key = shBytes lack rest := ⟨_, rfl⟩
  obtain ⟨l1, hl1⟩ : ∃ l1, l1 = shLack lack rest := ⟨_, rfl⟩
  obtain ⟨r1, hr1⟩ : ∃ r1, r1 = shRest lack rest := ⟨_, rfl⟩
  obtain ⟨m, hm⟩ : ∃ m, m = de (rdBytes l1 r1 1) := ⟨_, rfl⟩
  obtain ⟨l2, hl2⟩ : ∃ l2, l2 = rdLack l1 r1 1 := ⟨_, rfl⟩
  obtain ⟨r2, hr2⟩ : ∃ r2, r2 = rdRest l1 r1 1 := ⟨_, rfl⟩
  have HTK : Hid (takeChg lack rest = if m = 0 then (if (⟨key, false, []⟩ : Chg).ok then some (⟨key, false, []⟩, l2, r2) else none)
      else if m = 1 then (if (⟨key, true, shBytes l2 r2⟩ : Chg).ok then some (⟨key, true, shBytes l2 r2⟩, shLack l2 r2, shRest l2 r2) else none) else none) := by
    subst hkey hl1 hr1 hm hl2 hr2
    exact rfl
  have hr1l : r1.length ≤ rest.length := by rw [hr1]; exact shRest_le _ _
  have hr2l : r2.length ≤ r1.length := by rw [hr2]; exact rdRest_le _ _ _
  have HE1 : Hid (shBytes lack rest = key ∧ shLack lack rest = l1 ∧ shRest lack rest = r1) := ⟨hkey.symm, hl1.symm, hr1.symm⟩
  have HE2 : Hid (de (rdBytes l1 r1 1) = m ∧ rdLack l1 r1 1 = l2 ∧ rdRest l1 r1 1 = r2) := ⟨hm.symm, hl2.symm, hr2.symm⟩
  clear hkey hl1 hr1 hm hl2 hr2
  go_enter Tryz.func24, Tryz.ntmps24
  go_wp2_with fail
  have hB := heap_alloc_new w (.cells #[.string ByteArray.empty, .bool false, .slice none 0 0] 39)
  have oA := (Only.refl (fun _ => False) w).alloc (.cells #[.string ByteArray.empty, .bool false, .slice none 0 0] 39)
  have eA : ByteArray.empty = ⟨#[]⟩ := rfl
  rw [eA] at hB oA
  have hsA : w.heap.size < (w.alloc (.cells #[.string ⟨#[]⟩, .bool false, .slice none 0 0] 39)).heap.size := lt_of_block hB
  generalize (w.alloc (.cells #[.string ⟨#[]⟩, .bool false, .slice none 0 0] 39)) = wa at *
  have HMA := hide ((unhide H).same oA)
  refine (RO.mine_shortg (unhide HMA) hr).mono ?_
  rintro e w1 ⟨u, rfl, hu, hm1, o1⟩
  rw [(unhide HE1).1] at hu
  rw [(unhide HE1).2.1, (unhide HE1).2.2] at hm1
  have hB1 := o1.heap hB (fun e => by omega)
  have hs1 := o1.size
  obtain ⟨uo, uc, rfl, _⟩ := (Has.ofOwns hu.out).shape
  have hcv := str_conv (Has.ofOwns hu.out)
  have HM1 := hide hm1
  have HO1 := hide (oA.mono (T := fun k => k = b) (fun _ _ e => e.elim) |>.trans o1 (fun _ _ e => e))
  have HU := hide hu
  have HB1 := hide hB1
  clear hu hm1 o1 hB1 hB oA
  go_wp2_with fail
  have hcvv : str key = ⟨key.toArray⟩ := rfl
  rw [hcvv]
  have hB2 := heap_alloc_new w1 (.cells #[encStr key, .bool false, .slice none 0 0] 39)
  have oB := (Only.refl (fun _ => False) w1).alloc (.cells #[encStr key, .bool false, .slice none 0 0] 39)
  have hsB := lt_of_block hB2
  have hB1 := oB.heap (unhide HB1) (fun e => e)
  rw [show (⟨#[]⟩ : ByteArray) = ByteArray.empty from rfl] at hB1
  generalize (w1.alloc (.cells #[encStr key, .bool false, .slice none 0 0] 39)) = w2 at *
  have HM2 := hide ((unhide HM1).same oB)
  have HU2 := hide ((Has.ofOwns (unhide HU).out).only oB (fun _ _ _ e => e))
  refine (RO.mine_u8g (unhide HM2) (by omega)).mono ?_
  rintro e w3 ⟨rfl, hm3, o3⟩
  rw [(unhide HE2).1]
  rw [(unhide HE2).2.1, (unhide HE2).2.2] at hm3
  have hs3 := o3.size
  have hR3 := o3.heap hB1 (fun e => by omega)
  have hC3 := o3.heap hB2 (fun e => by omega)
  have HO3 := hide (((unhide HO1).trans (oB.mono (T := fun k => k = b) (fun _ _ e => e.elim)) (fun _ _ e => e)).trans o3 (fun _ _ e => e))
  have HM3 := hide hm3
  have hne : w.heap.size ≠ w1.heap.size := by omega
  clear hm3 o3 oB hB1 hB2 hcv HU HU2 HM2 HM1 HB1 hcvv
  by_cases h0 : m = 0
  · rw [if_pos h0] at HTK
    subst h0
    obtain ⟨r0, r1', r2', rf⟩ := cells_3 hR3
    obtain ⟨c0, c1, c2, cf⟩ := cells_3 hC3
    have HR := hide (fun n => right_any ⟨key, false, []⟩ (.slice none 0 0) (w3.drewN n) (Or.inl ⟨rfl, rfl⟩))
    unfold cvl at HR
    have HC3 := hide hC3
    have HR3 := hide hR3
    clear hC3 hR3
    go_wp2_with fail
    go_region_with (go_at_call 16; refine (unhide HR _).mono ?_; rintro e w4 ⟨rfl, o4⟩; have hC4 := o4.heap (unhide HC3) (fun e => e); have hR4 := o4.heap (unhide HR3) (fun e => e); obtain ⟨q0, q1, q2, qf⟩ := cells_3 hC4; obtain ⟨s0, s1, s2, sf⟩ := cells_3 hR4; have HR4 := hide hR4; have O4 := hide o4; clear hR4 hC4 o4)
    all_goals
      have hR5 := set_3 (unhide HR4) (encStr key) (.bool false) (.slice none 0 0)
      have o5 : Only (fun k => k = w.heap.size) w4 (((w4.setCell ⟨w.heap.size, 0, none⟩ (encStr key)).setCell ⟨w.heap.size, 1, none⟩ (.bool false)).setCell ⟨w.heap.size, 2, none⟩ (.slice none 0 0)) := (((Only.refl _ w4).here 0 _).here 1 _).here 2 _
      generalize (((w4.setCell ⟨w.heap.size, 0, none⟩ (encStr key)).setCell ⟨w.heap.size, 1, none⟩ (.bool false)).setCell ⟨w.heap.size, 2, none⟩ (.slice none 0 0)) = w5 at *
      have HR5 := hide hR5
      obtain ⟨t0, t1, t2, tf⟩ := cells_3 hR5
      have HO5 := hide (((unhide O4).ofDrews.mono (T := fun k => k = w.heap.size) (fun _ _ e => e.elim)).trans o5 (fun _ _ e => e))
      clear hR5 o5
      go_wp2
      (try simp only [Exit.inBlock, Exit.then])
      refine bodyPost_ret (v := .tuple #[.agg #[encStr key, .bool false, (.slice none 0 0)], .bool (⟨key, false, []⟩ : Chg).ok]) (by simp [results, Tryz.results24, go_sem, t0, t1, t2]) rfl ?_
      refine ⟨?_, (unhide HO3).trans (unhide HO5) (fun i hi e => by omega)⟩
      rw [unhide HTK]
      by_cases hok : (⟨key, false, []⟩ : Chg).ok = true
      · rw [if_pos hok, hok]
        exact ⟨_, rfl, Or.inl ⟨rfl, rfl⟩, fun k hk => (by cases hk), (unhide HM3).later (unhide HO5) (fun k e => by omega)⟩
      · rw [if_neg hok]
        have hokf : (⟨key, false, []⟩ : Chg).ok = false := by simpa using hok
        rw [hokf]
        exact ⟨_, _, _, _, _, rfl⟩
  · rw [if_neg h0] at HTK
    have h0' : ((m : Int) == 0) = false := by rw [beq_eq_false_iff_ne]; omega
    by_cases h1 : m = 1
    · rw [if_pos h1] at HTK
      subst h1
      have HSH := hide (RO.mine_shortg (unhide HM3) (by omega))
      have HC3 := hide hC3
      have HR3 := hide hR3
      clear hC3 hR3
      obtain ⟨k0, k1, k2, kf⟩ := cells_3 (unhide HC3)
      go_wp2_with fail
      refine (unhide HSH).mono ?_
      rintro e w6a ⟨v6, rfl, hv6, hm6, o6⟩
      have hC6a := o6.heap (unhide HC3) (fun e => by omega)
      have hR6a := o6.heap (unhide HR3) (fun e => by omega)
      have hs6 := o6.size
      have hV6 := Has.ofOwns hv6.out
      have hVB := owns_blk hv6
      obtain ⟨vo, vc, rfl, _⟩ := hV6.shape
      obtain ⟨vlen, hvl⟩ : ∃ vlen, vlen = (shBytes l2 r2).length := ⟨_, rfl⟩
      rw [← hvl] at hV6 hVB
      have HV6a := hide hV6
      have HVBa := hide hVB
      have HM6a := hide hm6
      have HO6a := hide ((unhide HO3).trans o6 (fun _ _ e => e))
      clear hv6 hm6 o6 hV6 hVB HSH k0 k1 k2 kf
      obtain ⟨k0, k1, k2, kf⟩ := cells_3 hC6a
      have HC6a := hide hC6a
      have HR6a := hide hR6a
      clear hC6a hR6a
      rw [← hvl]
      have HVL := hide hvl
      clear hvl
      go_wp2_with fail
      have hC6 : ((w6a.setCell ⟨w1.heap.size, 1, none⟩ (.bool true)).setCell ⟨w1.heap.size, 2, none⟩ (.slice vo vlen vc)).heap[w1.heap.size]? = some (.cells #[encStr key, .bool true, .slice vo vlen vc] 39 (0, 0)) := by
        rw [two_setCell (two_setCell (unhide HC6a))]
        rfl
      have o6b : Only (fun k => k = w1.heap.size) w6a ((w6a.setCell ⟨w1.heap.size, 1, none⟩ (.bool true)).setCell ⟨w1.heap.size, 2, none⟩ (.slice vo vlen vc)) := ((Only.refl _ w6a).here 1 _).here 2 _
      generalize ((w6a.setCell ⟨w1.heap.size, 1, none⟩ (.bool true)).setCell ⟨w1.heap.size, 2, none⟩ (.slice vo vlen vc)) = w6 at *
      have hR6 := o6b.heap (unhide HR6a) (fun e => by omega)
      have HVB : Hid (∀ k, blk (.slice vo vlen vc) = some k → w3.heap.size ≤ k) := unhide HVBa
      have HV6 : Hid (Has w6 (.slice vo vlen vc) (shBytes l2 r2)) := (unhide HV6a).only o6b (fun _ k hk e => by have := unhide HVB k hk; omega)
      have HM6 := hide ((unhide HM6a).later o6b (fun k e => by omega))
      have HO6 := hide ((unhide HO6a).trans (o6b.mono (T := fun k => k = b ∨ k = w1.heap.size) (fun _ _ e => Or.inr e)) (fun i hi e => by rcases e with e | e; exact e; omega))
      have HR := hide (fun n => right_any ⟨key, true, shBytes l2 r2⟩ (.slice vo vlen vc) (w6.drewN n) (unhide HV6))
      unfold cvl at HR
      have HC3 := hide hC6
      have HR3 := hide hR6
      clear k0 k1 k2 kf hC6 o6b hR6 HV6a HVBa HM6a HO6a HC6a HR6a
      obtain ⟨c0, c1, c2, cf⟩ := cells_3 (unhide HC3)
      obtain ⟨r0, r1', r2', rf⟩ := cells_3 (unhide HR3)
      go_region_with (go_at_call 16; refine (unhide HR _).mono ?_; rintro e w4 ⟨rfl, o4⟩; have hC4 := o4.heap (unhide HC3) (fun e => e); have hR4 := o4.heap (unhide HR3) (fun e => e); obtain ⟨q0, q1, q2, qf⟩ := cells_3 hC4; obtain ⟨s0, s1, s2, sf⟩ := cells_3 hR4; have HR4 := hide hR4; have O4 := hide o4; clear hR4 hC4 o4)
      all_goals
        have hR5 := set_3 (unhide HR4) (encStr key) (.bool true) (.slice vo vlen vc)
        have o5 : Only (fun k => k = w.heap.size) w4 (((w4.setCell ⟨w.heap.size, 0, none⟩ (encStr key)).setCell ⟨w.heap.size, 1, none⟩ (.bool true)).setCell ⟨w.heap.size, 2, none⟩ (.slice vo vlen vc)) := (((Only.refl _ w4).here 0 _).here 1 _).here 2 _
        generalize (((w4.setCell ⟨w.heap.size, 0, none⟩ (encStr key)).setCell ⟨w.heap.size, 1, none⟩ (.bool true)).setCell ⟨w.heap.size, 2, none⟩ (.slice vo vlen vc)) = w5 at *
        have HR5 := hide hR5
        obtain ⟨t0, t1, t2, tf⟩ := cells_3 hR5
        have HO5 := hide (((unhide O4).ofDrews.mono (T := fun k => k = w.heap.size) (fun _ _ e => e.elim)).trans o5 (fun _ _ e => e))
        clear hR5 o5
        go_wp2
        (try simp only [Exit.inBlock, Exit.then])
        refine bodyPost_ret (v := .tuple #[.agg #[encStr key, .bool true, (.slice vo vlen vc)], .bool (⟨key, true, shBytes l2 r2⟩ : Chg).ok]) (by simp [results, Tryz.results24, go_sem, t0, t1, t2]) rfl ?_
        refine ⟨?_, (unhide HO6).trans (unhide HO5) (fun i hi e => by omega)⟩
        rw [unhide HTK]
        by_cases hok : (⟨key, true, shBytes l2 r2⟩ : Chg).ok = true
        · rw [if_pos hok, hok]
          exact ⟨_, rfl, (unhide HV6).only (unhide HO5) (fun _ k hk e => by have := unhide HVB k hk; omega), (fun k hk => by have := unhide HVB k hk; omega), (unhide HM6).later (unhide HO5) (fun k e => by omega)⟩
        · rw [if_neg hok]
          have hokf : (⟨key, true, shBytes l2 r2⟩ : Chg).ok = false := by simpa using hok
          rw [hokf]
          exact ⟨_, _, _, _, _, rfl⟩
    · rw [if_neg h1] at HTK
      have h1' : ((m : Int) == 1) = false := by rw [beq_eq_false_iff_ne]; omega
      obtain ⟨r0, r1', r2', rf⟩ := cells_3 hR3
      have HR3 := hide hR3
      clear hR3 hC3
      go_wp2_with fail
      have hR5 := set_3 (unhide HR3) (.string ⟨#[]⟩) (.bool false) (.slice none 0 0)
      have o5 : Only (fun k => k = w.heap.size) w3 (((w3.setCell ⟨w.heap.size, 0, none⟩ (.string ⟨#[]⟩)).setCell ⟨w.heap.size, 1, none⟩ (.bool false)).setCell ⟨w.heap.size, 2, none⟩ (.slice none 0 0)) := (((Only.refl _ w3).here 0 _).here 1 _).here 2 _
      generalize (((w3.setCell ⟨w.heap.size, 0, none⟩ (.string ⟨#[]⟩)).setCell ⟨w.heap.size, 1, none⟩ (.bool false)).setCell ⟨w.heap.size, 2, none⟩ (.slice none 0 0)) = w5 at *
      obtain ⟨t0, t1, t2, tf⟩ := cells_3 hR5
      (try simp only [Exit.inBlock, Exit.then])
      refine bodyPost_ret (v := .tuple #[.agg #[.string ⟨#[]⟩, .bool false, .slice none 0 0], .bool false]) (by simp [results, Tryz.results24, go_sem, t0, t1, t2]) rfl ?_
      refine ⟨?_, (unhide HO3).trans o5 (fun i hi e => by omega)⟩
      rw [unhide HTK]
      exact ⟨[], false, none, 0, 0, rfl⟩

/-- what ReadChanges answers -/
def ReadAs (w w' : World) (e : Ending) : Option (List Chg) → Prop
  | none => e = .returned (.tuple #[.slice none 0 0, .int .i64 5])
  | some l => ∃ v, e = .returned (.tuple #[v, .int .i64 0]) ∧ RowC (fun k => w.heap.size ≤ k) w.heap.size w' v l

theorem takeN_step (n : Nat) (lack : Bool) (rest : List UInt8) (c : Chg) (l : Bool) (r : List UInt8) (h : takeChg lack rest = some (c, l, r)) (acc : List Chg) :
    (takeN (n + 1) lack rest).map (fun q => (acc ++ q.1, q.2)) = (takeN n l r).map (fun q => ((acc ++ [c]) ++ q.1, q.2)) := by
  rw [takeN, h]
  simp only
  cases takeN n l r with
  | none => rfl
  | some q => simp
theorem takeN_stop (n : Nat) (lack : Bool) (rest : List UInt8) (h : takeChg lack rest = none) : takeN (n + 1) lack rest = none := by
  rw [takeN, h]

set_option maxHeartbeats 2000000 in
set_option maxRecDepth 100000 in
theorem readChanges_any (xv : Value) (us : List UInt8) (w : World) (hx : Has w xv us) (hr : us.length ≤ 140737488355328) :
    Calls Tryz.prog 9 #[xv] w fun e w' => ReadAs w w' e (readChanges us) ∧ Only (fun _ => False) w w' := by
  have HN := hide (RO.mine_new xv us w hx hr)
  obtain ⟨xo, xc, hxv, _⟩ := hx.shape
  subst hxv
  clear hx
  obtain ⟨n, hn⟩ : ∃ n, n = de (rdBytes false us 2) := ⟨_, rfl⟩
  obtain ⟨l0, hl0⟩ : ∃ l0, l0 = rdLack false us 2 := ⟨_, rfl⟩
  obtain ⟨r0, hr0⟩ : ∃ r0, r0 = rdRest false us 2 := ⟨_, rfl⟩
  have hr0l : r0.length ≤ us.length := by rw [hr0]; exact rdRest_le _ _ _
  have HE : Hid (de (rdBytes false us 2) = n ∧ rdLack false us 2 = l0 ∧ rdRest false us 2 = r0) := ⟨hn.symm, hl0.symm, hr0.symm⟩
  have HRC : Hid (readChanges us = if 1000 < n then none else match takeN n l0 r0 with
    | none => none
    | some (l, lack, rest) => if lack = true ∨ rest ≠ [] then none else some l) := by subst hn hl0 hr0; exact rfl
  clear hn hl0 hr0
  go_enter Tryz.func9, Tryz.ntmps9
  go_wp2_with fail
  refine (unhide HN).mono ?_
  rintro e w1 ⟨b, rfl, hm1⟩
  have HM1 := hide hm1
  have HO1 := hide hm1.only
  clear hm1
  go_wp2_with fail
  refine (RO.mine_u16g (unhide HM1) hr).mono ?_
  rintro e w2 ⟨rfl, hm2, o2⟩
  rw [(unhide HE).1]
  rw [(unhide HE).2.1, (unhide HE).2.2] at hm2
  have hs2 := o2.size
  have HM2 := hide hm2
  clear hm2
  by_cases hbig : 1000 < n
  · rw [if_pos hbig] at HRC
    have hb' : (1000 : Int) < n := by omega
    go_wp2
    go_ret2
    rw [unhide HRC]
    exact ⟨rfl, (unhide HM2).only⟩
  · rw [if_neg hbig] at HRC
    have hb' : ¬ (1000 : Int) < n := by omega
    obtain ⟨i0, hi, hz0, hz1, hz2⟩ := info_parts Tryz.info39
    go_wp2_with (at_make; refine wpList_make_own _ rfl (.const (.int .i64 0)) (.tmp 15) 23 rfl w2.heap.size 39 i0 _ 3 Tryz.underlying23 hi hz0 hz1 .i64 .i64 n n rfl rfl rfl (by rw [hz2]; omega) (by unfold maxLen; omega) (Nat.le_refl _) ?_; intro w3 own3 gr3)
    have o3 : Only (fun _ => False) w2 w3 := (Only.refl (fun _ => False) w2).grown gr3 (fun k hk _ => by cases hk)
    have HROW : Hid (RowC (fun k => w2.heap.size ≤ k) w2.heap.size w3 (.slice (some ⟨w2.heap.size, 0, none⟩) 0 n) []) := ⟨[], rfl, own3, fun z hz => (by cases hz)⟩
    have HM3 := hide ((unhide HM2).same o3)
    have hs3 := o3.size
    clear own3 gr3 o3 o2
    go_loopw [6, 18] (fun v i wr => ∃ (k : Nat) (acc : List Chg) (lack : Bool) (rest : List UInt8), k ≤ n ∧ i = .int .i64 k ∧ acc.length = k ∧ RO.Mine w w1.heap.size wr b lack rest ∧ RowC (fun k => w2.heap.size ≤ k) w2.heap.size wr v acc ∧ rest.length ≤ us.length ∧ w2.heap.size ≤ wr.heap.size ∧
        Hid (takeN n l0 r0 = (takeN (n - k) lack rest).map (fun q => (acc ++ q.1, q.2)))) (fun _ i _ => n - (intOf i).toNat)
    case atStart => exact ⟨0, [], l0, r0, Nat.zero_le _, rfl, rfl, unhide HM3, unhide HROW, hr0l, hs3, by show _ = _; rw [Nat.sub_zero]; cases takeN n l0 r0 <;> simp⟩
    case round =>
      obtain ⟨k, acc, lack, rest, hk, rfl, hal, hm, hrow, hrl, hwr, HT⟩ := hrel
      have HM := hide hm
      have HRW := hide hrow
      have hbb := hm.hi
      obtain ⟨vo, vc, rfl⟩ := hrow.shape
      clear hm hrow HM3 HROW
      by_cases hlt : k < n
      · have hlt' : (k : Int) < n := by omega
        have HTC := hide (takeChange_any (unhide HM) (by omega) (by omega))
        obtain ⟨q, hq⟩ : ∃ q, takeChg lack rest = q := ⟨_, rfl⟩
        rw [hq] at HTC
        have HQ := hide hq
        clear hq
        go_wp2_with fail
        refine (unhide HTC).mono ?_
        rintro e w4 ⟨hta, o4⟩
        cases q with
        | none =>
          obtain ⟨k', h', ao', n', cap', rfl⟩ := hta
          have HO4 := hide ((unhide HM).only.trans o4 (fun i hi e => by have := (unhide HM).up; omega))
          clear o4
          go_wp2
          go_ret2
          have e1 : takeN n l0 r0 = none := by rw [unhide HT, show n - k = (n - k - 1) + 1 by omega, takeN_stop _ _ _ (unhide HQ)]; rfl
          rw [unhide HRC, e1]
          exact ⟨rfl, (unhide HO4).alloc _⟩
        | some q =>
          obtain ⟨c, l, r⟩ := q
          obtain ⟨x, rfl, hxh, hxb, hm4⟩ := hta
          have hs4 := o4.size
          have hRW4 := (unhide HRW).later o4 (fun j hj hq e => by omega) (fun j hj e => by have := ((unhide HRW).lt j hj).1; omega)
          obtain ⟨xo2, xc2, rfl, _⟩ := hxh.shape
          have HXH := hide hxh
          have HXB := hide hxb
          have HM4 := hide hm4
          have HRW4 := hide hRW4
          have HLT : Hid (∀ j, (Value.slice vo k vc).ownBlock = some j → j < wr.heap.size) := by
            show ∀ j, (Value.slice vo k vc).ownBlock = some j → j < wr.heap.size
            rw [← hal]
            exact fun j e => ((unhide HRW).lt j e).2
          have hrr : r.length ≤ rest.length := takeChg_le (unhide HQ)
          unfold cvl
          clear hxh hxb hm4 hRW4 o4 HRW
          rw [hal] at HRW4
          obtain ⟨zs, hzs, own4, each4⟩ := (unhide HRW4).own
          have hzl : zs.length = k := by rw [← hal, ← hzs, List.length_map]
          rw [hal] at own4 ⊢
          have HZL := hide hzl
          have HAL := hide hal
          have HZ := hide hzs
          have HOW := hide own4
          have HEA := hide each4
          clear hzs own4 each4 hzl hal
          have hblk : ∀ o : Obj, ((w4.alloc o).alloc o).heap[w4.heap.size + 1]? = some o := fun o => by have := heap_alloc_new (w4.alloc o) o; simpa using this
          go_wp2_with (at_builtin; refine wpList_append_lies _ rfl (.tmp 27) (.tmp 29) 23 rfl w2.heap.size 39 i0 _ 3 48 Tryz.underlying23 hi hz0 hz1 hz2 rfl (by decide) _ k (zs.flatMap zc) rfl (((unhide HOW).alloc _).alloc _) ⟨w4.heap.size + 1, 0, none⟩ 1 1 (zc (.slice xo2 c.value.length xc2, c)) rfl rfl (World.news_of_block (hblk _)) (by simp [zc, Value.oneCell']) (by decide) (by unfold maxLen; omega) (by omega) (by simp; omega) _ rfl ?_; intro g cap5 w5 own5 gr5 at5 lt5)
          obtain rfl : zs.length = k := unhide HZL
          have oAA : Only (fun _ => False) w4 ((w4.alloc (.cells #[encStr c.key, .bool c.has, .slice xo2 c.value.length xc2] 39)).alloc (.cells #[encStr c.key, .bool c.has, .slice xo2 c.value.length xc2] 39)) := ((Only.refl _ _).alloc _).alloc _
          have hP := RowC.pushed (Q := fun k => w2.heap.size ≤ k) (unhide HOW) (unhide HEA) (unhide HXH) (fun _ j hj => ⟨by have := unhide HXB j hj; omega, fun e => by have := unhide HLT j e; have := unhide HXB j hj; omega⟩) oAA own5 gr5 at5
          rw [unhide HZ] at hP
          refine ⟨⟨zs.length + 1, acc ++ [c], l, r, by omega, by go_num, by simp [unhide HAL], ?_, hP.1, by omega, by have := hP.2.size; omega, ?_⟩, by simp [intOf]; omega⟩
          · exact (unhide HM4).later hP.2 (fun j e => by have := ((unhide HRW4).lt j e).1; omega)
          · show _ = _
            rw [unhide HT, show n - zs.length = (n - (zs.length + 1)) + 1 by omega, takeN_step _ _ _ _ _ _ (unhide HQ)]
      · obtain rfl : n = k := by omega
        have e1 : takeN n l0 r0 = some (acc, lack, rest) := by rw [unhide HT, Nat.sub_self, takeN]; simp
        rw [e1] at HRC
        simp only at HRC
        have HLK := hide (RO.mine_lack (unhide HM))
        have HLF := hide (RO.mine_left (unhide HM))
        cases lack with
        | true =>
          rw [if_pos (Or.inl rfl)] at HRC
          go_wp2_with fail
          refine (unhide HLK).mono ?_
          rintro e w6 ⟨rfl, rfl⟩
          go_wp2
          go_ret2
          rw [unhide HRC]
          exact ⟨rfl, (unhide HM).only⟩
        | false =>
          by_cases hre : rest = []
          · rw [if_neg (by simp [hre])] at HRC
            have hr0' : rest.length = 0 := by rw [hre]; rfl
            go_wp2_with fail
            refine (unhide HLK).mono ?_
            rintro e w6 ⟨rfl, rfl⟩
            go_wp2_with fail
            refine (unhide HLF).mono ?_
            rintro e w6 ⟨rfl, rfl⟩
            go_wp2
            go_ret2
            rw [unhide HRC]
            refine ⟨⟨_, rfl, ?_⟩, (unhide HM).only⟩
            have hs1 := (unhide HO1).size
            have hrw := unhide HRW
            rw [hal] at hrw
            exact (hrw.lower (by omega)).mono (fun k _ e => by omega)
          · rw [if_pos (Or.inr hre)] at HRC
            have hr0' : 0 < rest.length := List.length_pos_iff.2 hre
            go_wp2_with fail
            refine (unhide HLK).mono ?_
            rintro e w6 ⟨rfl, rfl⟩
            go_wp2_with fail
            refine (unhide HLF).mono ?_
            rintro e w6 ⟨rfl, rfl⟩
            go_wp2
            go_ret2
            rw [unhide HRC]
            exact ⟨rfl, (unhide HM).only⟩
end St
end Go.Proofs.YtmcobkcnpnfobaaGreat
