/-
  Chapter 4's theorem, plain: wherever the disk falls, the units are those ahead of the call, or those behind it.
  Chapter 4's theorem, plain: a log's state that is safe, and what each call makes of it.
  Chapter 4's theorem, plain: each call, whatever falls.
  What WalWhole's loop keeps; plain.
-/
import Derived.Test.YtmcobkcnpnfobaaGreatWalCalm
import Derived.Test.YtmcobkcnpnfobaaGreatWalSeen
namespace Go.Proofs.YtmcobkcnpnfobaaGreat
open Go.RowKit
set_option linter.unusedSimpArgs false
set_option linter.unusedVariables false

theorem lastOf_foldl (l : Pends) (k : Nat) : ∀ acc : Option (List UInt8), l.foldl (fun acc p => if p.1 = k then some p.2 else acc) acc = match lastOf l k with
    | some b => some b
    | none => acc := by
  unfold lastOf
  induction l with
  | nil => intro acc; rfl
  | cons p r ih =>
    intro acc
    rw [List.foldl_cons, List.foldl_cons, ih, ih (if p.1 = k then some p.2 else none)]
    cases h : r.foldl (fun acc p => if p.1 = k then some p.2 else acc) none with
    | some b => rfl
    | none =>
      simp only
      split <;> rfl

theorem lastOf_cons (p : Nat × List UInt8) (l : Pends) (k : Nat) : lastOf (p :: l) k = match lastOf l k with
    | some b => some b
    | none => if p.1 = k then some p.2 else none := by
  conv => lhs; unfold lastOf
  rw [List.foldl_cons, lastOf_foldl]

namespace Wal

/-- the writes of what is laid -/
def pairs (at' : Nat) (laid : List UInt8) : Nat → Nat → Pends
  | _, 0 => []
  | i, r + 1 => (at' + i, chunk laid i) :: pairs at' laid (i + 1) r

theorem lastOf_pairs (at' : Nat) (laid : List UInt8) (k : Nat) : ∀ (r i : Nat), lastOf (pairs at' laid i r) k = if at' + i ≤ k ∧ k < at' + i + r then some (chunk laid (k - at')) else none
  | 0, i => by
    rw [if_neg (by omega)]
    rfl
  | r + 1, i => by
    unfold pairs
    rw [lastOf_cons, lastOf_pairs at' laid k r (i + 1)]
    by_cases h1 : at' + (i + 1) ≤ k ∧ k < at' + (i + 1) + r
    · rw [if_pos h1]
      simp only
      rw [if_pos (show at' + i ≤ k ∧ k < at' + i + (r + 1) by omega)]
    · rw [if_neg h1]
      simp only
      by_cases h2 : at' + i = k
      · rw [if_pos h2, if_pos (show at' + i ≤ k ∧ k < at' + i + (r + 1) by omega)]
        congr 2
        omega
      · rw [if_neg h2, if_neg (show ¬ (at' + i ≤ k ∧ k < at' + i + (r + 1)) by omega)]

theorem mem_pairs (at' : Nat) (laid : List UInt8) (p : Nat × List UInt8) : ∀ (r i : Nat), p ∈ pairs at' laid i r → at' + i ≤ p.1 ∧ p.1 < at' + i + r ∧ p.2 = chunk laid (p.1 - at')
  | 0, i, h => by cases h
  | r + 1, i, h => by
    unfold pairs at h
    rcases List.mem_cons.1 h with rfl | h
    · refine ⟨Nat.le_refl _, by simp only; omega, ?_⟩
      simp only
      congr 1
      omega
    · have := mem_pairs at' laid p r (i + 1) h
      exact ⟨by omega, by omega, this.2.2⟩

/-- what sectors written one behind the other leave: all of it, or some of it pends and the disk is down -/
theorem wrFrom_spec (at' : Nat) (laid : List UInt8) : ∀ (r i : Nat) (d : Dk), at' + i + r ≤ d.secs.length → (i + r) * 64 ≤ laid.length → d.down = false →
    ((wrFrom at' laid r i d).2 = 0 ∧ (wrFrom at' laid r i d).1.secs = d.secs.putAll (d.pend ++ pairs at' laid i r) ∧ (wrFrom at' laid r i d).1.pend = [] ∧ (wrFrom at' laid r i d).1.down = false) ∨
    ((wrFrom at' laid r i d).2 = 9 ∧ (wrFrom at' laid r i d).1.secs = d.secs ∧ ∀ p ∈ (wrFrom at' laid r i d).1.pend, p ∈ d.pend ∨ p ∈ pairs at' laid i r)
  | 0, i, d, _, _, hd => by
    unfold wrFrom
    by_cases hf : d.fell = true
    · refine Or.inr ?_
      unfold Dk.flushE Dk.flush
      rw [if_pos hf, if_pos hf]
      exact ⟨rfl, rfl, fun p hp => Or.inl hp⟩
    · refine Or.inl ?_
      unfold Dk.flushE Dk.flush
      rw [if_neg hf, if_neg hf]
      exact ⟨rfl, by simp [pairs], rfl, hd⟩
  | r + 1, i, d, hs, hl, hd => by
    have hk : at' + i < d.secs.length := by omega
    have hcl := chunk_length laid i (by omega)
    have hth : d.there ((at' + i : Nat) : Int) = true := by unfold Dk.there; rw [decide_eq_true]; omega
    by_cases hf : d.fell = true
    · refine Or.inr ?_
      have e1 : d.writeE ((at' + i : Nat) : Int) (chunk laid i) = 9 := by unfold Dk.writeE; rw [if_pos ⟨hth, hcl⟩, if_pos hf]
      have e2 : d.write ((at' + i : Nat) : Int) (chunk laid i) = d.felled := by unfold Dk.write; rw [if_pos ⟨hth, hcl⟩, if_pos hf]
      unfold wrFrom
      rw [if_neg (by rw [e1]; decide), e1, e2]
      exact ⟨rfl, rfl, fun p hp => Or.inl hp⟩
    · have e1 : d.writeE ((at' + i : Nat) : Int) (chunk laid i) = 0 := by unfold Dk.writeE; rw [if_pos ⟨hth, hcl⟩, if_neg hf]
      have e2 : d.write ((at' + i : Nat) : Int) (chunk laid i) = { d.spent with pend := d.pend ++ [(at' + i, chunk laid i)] } := by unfold Dk.write; rw [if_pos ⟨hth, hcl⟩, if_neg hf]; rfl
      unfold wrFrom
      rw [if_pos e1, e2]
      have ih := wrFrom_spec at' laid r (i + 1) { d.spent with pend := d.pend ++ [(at' + i, chunk laid i)] } (by show at' + (i + 1) + r ≤ d.secs.length; omega) (by omega) hd
      rcases ih with ⟨h1, h2, h3, h4⟩ | ⟨h1, h2, h3⟩
      · refine Or.inl ⟨h1, ?_, h3, h4⟩
        rw [h2]
        show d.secs.putAll ((d.pend ++ [(at' + i, chunk laid i)]) ++ pairs at' laid (i + 1) r) = _
        rw [List.append_assoc]
        rfl
      · refine Or.inr ⟨h1, h2, fun p hp => ?_⟩
        rcases h3 p hp with h | h
        · rcases List.mem_append.1 h with h | h
          · exact Or.inl h
          · exact Or.inr (by unfold pairs; rw [List.mem_singleton.1 h]; simp)
        · exact Or.inr (by unfold pairs; simp [h])

/-- sector k of a disk at rest -/
theorem sec_rest (d : Dk) (hp : d.pend = []) (hd : d.down = false) (k : Nat) (hk : k < d.secs.length) : d.sec k = d.secs.getD k none := by
  have hth : d.there (k : Int) = true := by unfold Dk.there; rw [decide_eq_true]; omega
  have hlk : d.look k = d.secs.getD k none := by unfold Dk.look; rw [hp]; rfl
  unfold Dk.sec Dk.readE Dk.read
  rw [hth, hd]
  simp only [if_true, Bool.false_eq_true, if_false, Int.toNat_natCast, hlk]
  cases d.secs.getD k none with
  | none => simp
  | some b => simp

theorem wr_spec (d : Dk) (at' : Nat) (laid : List UInt8) (hs : at' + laid.length / 64 ≤ d.secs.length) (hp : d.pend = []) (hd : d.down = false) :
    ((wr d at' laid).2 = 0 ∧ (wr d at' laid).1.pend = [] ∧ (wr d at' laid).1.down = false ∧ ∀ k, (wr d at' laid).1.secs.getD k none = if at' ≤ k ∧ k < at' + laid.length / 64 then some (chunk laid (k - at')) else d.secs.getD k none) ∨
    ((wr d at' laid).2 = 9 ∧ (wr d at' laid).1.secs = d.secs ∧ ∀ p ∈ (wr d at' laid).1.pend, at' ≤ p.1 ∧ p.1 < at' + laid.length / 64 ∧ p.2 = chunk laid (p.1 - at')) := by
  have h := wrFrom_spec at' laid (laid.length / 64) 0 d (by omega) (by omega) hd
  rw [hp, List.nil_append] at h
  rcases h with ⟨h1, h2, h3, h4⟩ | ⟨h1, h2, h3⟩
  · refine Or.inl ⟨h1, h3, h4, fun k => ?_⟩
    show (wrFrom at' laid (laid.length / 64) 0 d).1.secs.getD k none = _
    rw [h2, putAll_get _ _ _ (fun p hq => by have := mem_pairs at' laid p _ _ hq; omega), lastOf_pairs, Nat.add_zero]
    by_cases hk : at' ≤ k ∧ k < at' + laid.length / 64
    · rw [if_pos hk, if_pos hk]
    · rw [if_neg hk, if_neg hk]
  · refine Or.inr ⟨h1, h2, fun p hq => ?_⟩
    rcases h3 p hq with h | h
    · cases h
    · have := mem_pairs at' laid p _ _ h
      exact ⟨by omega, by omega, this.2.2⟩

theorem be_length_le (u : List UInt8) (n : Nat) (h : n < 4294967296) : de (be 4 n) = n := by
  rw [de_be]
  exact Nat.mod_eq_of_lt (by omega)

/-- a unit that was laid is taken again -/
theorem takeUnit_lay (u rest : List UInt8) (hu : u.length < 4294967296) : takeUnit (lay u ++ rest) = some (u, rest) := by
  have hp := lay_parts u
  have h4 : (lay u ++ rest).take 4 = be 4 u.length := by
    rw [hp, List.append_assoc, List.take_append_of_le_length (Nat.le_of_eq (be_length _ _).symm), List.take_of_length_le (Nat.le_of_eq (be_length _ _))]
  have hd : de ((lay u ++ rest).take 4) = u.length := by rw [h4]; exact be_length_le u _ hu
  have h8 : (lay u ++ rest).drop 8 = u ++ (List.replicate (padOf u) 0 ++ rest) := by
    rw [hp]
    have e : be 4 u.length ++ (be 4 (Crc.more 0 u) ++ (u ++ List.replicate (padOf u) 0)) ++ rest = (be 4 u.length ++ be 4 (Crc.more 0 u)) ++ (u ++ (List.replicate (padOf u) 0 ++ rest)) := by simp
    rw [e, List.drop_append_of_le_length (by simp [be_length]), List.drop_of_length_le (by simp [be_length]), List.nil_append]
  have hun : unitOf (lay u ++ rest) = u := by
    unfold unitOf
    rw [hd, h8, List.take_append_of_le_length (Nat.le_refl _), List.take_of_length_le (Nat.le_refl _)]
  have hll := lay_length u
  unfold takeUnit
  rw [hun, hd, if_pos]
  · rw [List.drop_append_of_le_length (by omega), List.drop_of_length_le (by omega), List.nil_append]
  · refine ⟨?_, ?_⟩
    · have := padOf_le u
      rw [List.length_append]
      omega
    · rw [List.take_append_of_le_length (by omega), List.take_of_length_le (by omega)]

theorem takeUnit_more {bs u r : List UInt8} (h : takeUnit bs = some (u, r)) (cs : List UInt8) (hu : u.length < 4294967296) : takeUnit (bs ++ cs) = some (u, r ++ cs) := by
  obtain ⟨h1, h2, h3⟩ := takeUnit_rest h
  have e : bs ++ cs = lay u ++ (r ++ cs) := by rw [h3, h1, ← List.append_assoc, List.take_append_drop]
  rw [e]
  exact takeUnit_lay u _ hu

theorem takeUnit_u_lt {bs u r : List UInt8} (h : takeUnit bs = some (u, r)) (hb : bs.length < 4294967296) : u.length < 4294967296 := by
  have := (takeUnit_rest h).2.1
  have := size_ge u
  omega

theorem takeAll_append : ∀ (n : Nat) (bs cs : List UInt8) (a b : List (List UInt8)), bs.length ≤ n → bs.length < 4294967296 → takeAll bs.length bs = some a → takeAll cs.length cs = some b → takeAll (bs ++ cs).length (bs ++ cs) = some (a ++ b) := by
  intro n
  induction n with
  | zero =>
    intro bs cs a b hn _ ha hb
    have : bs = [] := List.eq_nil_of_length_eq_zero (by omega)
    subst this
    simp [takeAll] at ha
    subst ha
    simpa using hb
  | succ n ih =>
    intro bs cs a b hn hl ha hb
    by_cases hnil : bs = []
    · subst hnil
      simp [takeAll] at ha
      subst ha
      simpa using hb
    · cases ht : takeUnit bs with
      | none => rw [takeAll_none hnil ht] at ha; cases ha
      | some p =>
        obtain ⟨u, r⟩ := p
        have hlt := takeUnit_lt ht
        rw [takeAll_some hnil ht] at ha
        cases hr : takeAll r.length r with
        | none => rw [hr] at ha; cases ha
        | some a' =>
          rw [hr] at ha
          simp only [Option.map_some, Option.some.injEq] at ha
          subst ha
          have hne : bs ++ cs ≠ [] := by simp [hnil]
          rw [takeAll_some hne (takeUnit_more ht cs (takeUnit_u_lt ht hl)), ih r cs a' b (by omega) (by omega) hr hb]
          rfl

theorem takeAll_layAll (us : List (List UInt8)) (h : ∀ u ∈ us, u.length < 4294967296) : takeAll (layAll us).length (layAll us) = some us := by
  induction us with
  | nil => rfl
  | cons u r ih =>
    have e : layAll (u :: r) = lay u ++ layAll r := by simp [layAll]
    have hne : lay u ++ layAll r ≠ [] := by
      intro e
      have h1 := congrArg List.length e
      rw [List.length_append, lay_length] at h1
      have := size_pos u
      simp at h1
      omega
    rw [e, takeAll_some hne (takeUnit_lay u _ (h u (by simp))), ih (fun v hv => h v (by simp [hv]))]
    rfl

/-- a head that was laid is a right one -/
theorem headIn_lay (half : Nat) (h : Hd) (he : h.epoch < 18446744073709551616) (ha : h.area ≤ 1) (hu : h.used ≤ half) (hu2 : h.used < 4294967296) : headIn half (some h.lay) = some h := by
  have hl : h.lay = mark ++ (be 8 h.epoch ++ (be 4 h.area ++ (be 4 h.used ++ (be 4 (Crc.more 0 h.raw) ++ List.replicate (secsOf (h.raw ++ be 4 (Crc.more 0 h.raw)).length * 64 - (h.raw ++ be 4 (Crc.more 0 h.raw)).length) 0)))) := by
    unfold Hd.lay fill Hd.raw
    simp
  have t : ∀ (a b c : List UInt8) (n m : Nat), a.length = n → b.length = m → ((a ++ (b ++ c)).drop n).take m = b := by
    intro a b c n m h1 h2
    rw [List.drop_append_of_le_length (by omega), List.drop_of_length_le (by omega), List.nil_append, List.take_append_of_le_length (by omega), List.take_of_length_le (by omega)]
  have e1 : (h.lay.drop 8).take 8 = be 8 h.epoch := by rw [hl]; exact t _ _ _ 8 8 rfl (be_length _ _)
  have e2 : (h.lay.drop 16).take 4 = be 4 h.area := by
    rw [hl, ← List.append_assoc]
    exact t _ _ _ 16 4 (by simp [be_length, mark_length]) (be_length _ _)
  have e3 : (h.lay.drop 20).take 4 = be 4 h.used := by
    rw [hl, ← List.append_assoc, ← List.append_assoc]
    exact t _ _ _ 20 4 (by simp [be_length, mark_length]) (be_length _ _)
  have hof : hdOf h.lay = h := by
    unfold hdOf
    rw [e1, e2, e3, de_be, de_be, de_be, Nat.mod_eq_of_lt (by omega), Nat.mod_eq_of_lt (by omega), Nat.mod_eq_of_lt (by omega)]
  unfold headIn
  simp only
  rw [hof, if_pos ⟨by omega, hu, rfl⟩]

end Wal
end Go.Proofs.YtmcobkcnpnfobaaGreat

namespace Go.Proofs.YtmcobkcnpnfobaaGreat
open Go.RowKit
set_option linter.unusedSimpArgs false
set_option linter.unusedVariables false
namespace Wal

/-- a disk at rest whose log is l, with the units us; no epoch above N -/
structure Safe (d : Dk) (l : Lg) (us : List (List UInt8)) (N : Nat) : Prop where
  up : d.down = false
  pend : d.pend = []
  fine : d.Fine
  alive : l.dead = false
  found : found d = (l.hd, l.next)
  units : unitsOf d l.hd = some us
  epoch : l.hd.epoch ≤ N

theorem Safe.lfine {d : Dk} {l : Lg} {us : List (List UInt8)} {N : Nat} (h : Safe d l us N) : l.Fine d.half := by
  have := pickHd_fine (half := d.half) (s := d.sec 0) (t := d.sec 1)
  have e : pickHd (headIn d.half (d.sec 0)) (headIn d.half (d.sec 1)) = (l.hd, l.next) := h.found
  rw [e] at this
  exact ⟨this.epoch, this.area, this.used, this.next⟩

theorem readFrom_same (d d' : Dk) (st : Nat) : ∀ n, (∀ i, i < n → d'.sec (st + i) = d.sec (st + i)) → readFrom d' st n = readFrom d st n
  | 0, _ => rfl
  | n + 1, h => by
    unfold readFrom
    rw [readFrom_same d d' st n (fun i hi => h i (by omega)), h n (by omega)]

theorem readFrom_get (d : Dk) (st : Nat) (laid : List UInt8) : ∀ n, n * 64 ≤ laid.length → (∀ i, i < n → d.sec (st + i) = some (chunk laid i)) → readFrom d st n = some (laid.take (n * 64))
  | 0, _, _ => by simp [readFrom]
  | n + 1, hl, h => by
    unfold readFrom
    rw [readFrom_get d st laid n (by omega) (fun i hi => h i (by omega)), h n (by omega)]
    simp only
    congr 1
    unfold chunk
    rw [show (n + 1) * 64 = n * 64 + 64 by omega, List.take_add]

theorem readFrom_add (d : Dk) (st : Nat) (bs cs : List UInt8) (n : Nat) (h : readFrom d st n = some bs) : ∀ m, readFrom d (st + n) m = some cs → readFrom d st (n + m) = some (bs ++ cs) := by
  intro m
  induction m generalizing cs with
  | zero => intro hc; simp [readFrom] at hc; subst hc; simpa using h
  | succ m ih =>
    intro hc
    cases hm : readFrom d (st + n) m with
    | none => unfold readFrom at hc; rw [hm] at hc; cases hc
    | some c1 =>
      have h1 := readFrom_step d (st + n) m c1 hm
      rw [hc] at h1
      cases hs : d.sec (st + n + m) with
      | none => rw [hs] at h1; cases h1
      | some b =>
        rw [hs] at h1
        simp only [Option.map_some, Option.some.injEq] at h1
        subst h1
        have h2 := readFrom_step d st (n + m) (bs ++ c1) (ih c1 hm)
        rw [show st + (n + m) = st + n + m by omega, hs] at h2
        rw [show n + (m + 1) = n + m + 1 by omega, h2]
        simp

/-- the head's sectors, and those that it tells of, are as they were -/
theorem same_found {d d' : Dk} (hh : d'.half = d.half) (h0 : d'.sec 0 = d.sec 0) (h1 : d'.sec 1 = d.sec 1) : found d' = found d := by
  unfold found
  rw [hh, h0, h1]
theorem same_units {d d' : Dk} {h : Hd} (hh : d'.half = d.half) (hs : ∀ i, i < h.used → d'.sec (start d h.area + i) = d.sec (start d h.area + i)) : unitsOf d' h = unitsOf d h := by
  unfold unitsOf
  have e : start d' h.area = start d h.area := by unfold start; rw [hh]
  rw [e, readFrom_same d d' _ _ hs]

/-- the other head's sector is bad, or as it was -/
theorem found_bad {d d' : Dk} {l : Lg} (hf : found d = (l.hd, l.next)) (hh : d'.half = d.half) (hn : headIn d'.half (d'.sec l.next) = none) (ho : d'.sec (1 - l.next) = d.sec (1 - l.next)) (h1 : l.next ≤ 1) : found d' = (l.hd, l.next) := by
  unfold found at hf ⊢
  rcases Nat.lt_or_ge l.next 1 with hl | hl
  · have e : l.next = 0 := by omega
    rw [e] at hn ho hf ⊢
    rw [hn, show (1 : Nat) - 0 = 1 from rfl] at *
    rw [ho, hh]
    cases ha : headIn d.half (d.sec 0) with
    | none => rw [ha] at hf; exact hf
    | some x =>
      rw [ha] at hf
      cases hb : headIn d.half (d.sec 1) with
      | none =>
        rw [hb] at hf
        simp only [pickHd, Prod.mk.injEq] at hf
        omega
      | some y =>
        rw [hb] at hf
        by_cases hle : y.epoch ≤ x.epoch
        · simp only [pickHd, if_pos hle, Prod.mk.injEq] at hf
          omega
        · simp only [pickHd, if_neg hle, Prod.mk.injEq] at hf
          simp only [pickHd, Prod.mk.injEq, and_true]
          exact hf.1
  · have e : l.next = 1 := by omega
    rw [e] at hn ho hf ⊢
    rw [show (1 : Nat) - 1 = 0 from rfl] at ho
    rw [hn, ho, hh]
    cases ha : headIn d.half (d.sec 0) with
    | none =>
      rw [ha] at hf
      cases hb : headIn d.half (d.sec 1) with
      | none => rw [hb] at hf; simp only [pickHd, Prod.mk.injEq] at hf; omega
      | some y => rw [hb] at hf; simp only [pickHd, Prod.mk.injEq] at hf; omega
    | some x =>
      rw [ha] at hf
      cases hb : headIn d.half (d.sec 1) with
      | none => rw [hb] at hf; exact hf
      | some y =>
        rw [hb] at hf
        by_cases hle : y.epoch ≤ x.epoch
        · simp only [pickHd, if_pos hle, Prod.mk.injEq] at hf
          simp only [pickHd, Prod.mk.injEq, and_true]
          exact hf.1
        · simp only [pickHd, if_neg hle, Prod.mk.injEq] at hf
          omega

/-- the new head counts -/
theorem found_new' {d d' : Dk} {l : Lg} {h : Hd} (hf : found d = (l.hd, l.next)) (hh : d'.half = d.half) (hn : headIn d'.half (d'.sec l.next) = some h) (ho : d'.sec (1 - l.next) = d.sec (1 - l.next)) (h1 : l.next ≤ 1) (he : l.hd.epoch < h.epoch) : found d' = (h, 1 - l.next) := by
  unfold found at hf ⊢
  rcases Nat.lt_or_ge l.next 1 with hl | hl
  · have e : l.next = 0 := by omega
    rw [e] at hn ho hf ⊢
    rw [show (1 : Nat) - 0 = 1 from rfl] at *
    rw [hn, ho, hh]
    cases hb : headIn d.half (d.sec 1) with
    | none => rfl
    | some y =>
      rw [hb] at hf
      have hy : y.epoch ≤ h.epoch := by
        cases ha : headIn d.half (d.sec 0) with
        | none => rw [ha] at hf; simp only [pickHd, Prod.mk.injEq] at hf; rw [hf.1]; omega
        | some x =>
          rw [ha] at hf
          by_cases hle : y.epoch ≤ x.epoch
          · simp only [pickHd, if_pos hle, Prod.mk.injEq] at hf; omega
          · simp only [pickHd, if_neg hle, Prod.mk.injEq] at hf; rw [hf.1]; omega
      simp only [pickHd, if_pos hy]
  · have e : l.next = 1 := by omega
    rw [e] at hn ho hf ⊢
    rw [show (1 : Nat) - 1 = 0 from rfl] at *
    rw [hn, ho, hh]
    cases ha : headIn d.half (d.sec 0) with
    | none => rfl
    | some x =>
      rw [ha] at hf
      have hx : ¬ h.epoch ≤ x.epoch := by
        cases hb : headIn d.half (d.sec 1) with
        | none => rw [hb] at hf; simp only [pickHd, Prod.mk.injEq] at hf; rw [hf.1]; omega
        | some y =>
          rw [hb] at hf
          by_cases hle : y.epoch ≤ x.epoch
          · simp only [pickHd, if_pos hle, Prod.mk.injEq] at hf; rw [hf.1]; omega
          · simp only [pickHd, if_neg hle, Prod.mk.injEq] at hf; omega
      simp only [pickHd, if_neg hx]

end Wal
end Go.Proofs.YtmcobkcnpnfobaaGreat

namespace Go.Proofs.YtmcobkcnpnfobaaGreat
open Go.RowKit
set_option linter.unusedSimpArgs false
set_option linter.unusedVariables false

theorem crashTo_any (fs : List Int) (l : Pends) (s : Secs) (k : Nat) (hl : ∀ p ∈ l, p.1 < s.length) : ∀ m, (crashTo fs l s m).getD k none = s.getD k none ∨ (crashTo fs l s m).getD k none = none ∨ ∃ p ∈ l, p.1 = k ∧ (crashTo fs l s m).getD k none = some p.2
  | 0 => Or.inl rfl
  | m + 1 => by
    have ih := crashTo_any fs l s k hl m
    unfold crashTo
    cases hp : l[m]? with
    | none => exact ih
    | some p =>
      have hmem := List.mem_of_getElem? hp
      have hlt : p.1 < (crashTo fs l s m).length := by rw [crashTo_length]; exact hl p hmem
      simp only
      unfold Secs.hit
      split
      · unfold Secs.put
        rw [getD_set _ _ _ _ hlt]
        split
        · exact Or.inr (Or.inr ⟨p, hmem, by assumption, rfl⟩)
        · exact ih
      · split
        · rw [getD_set _ _ _ _ hlt]
          split
          · exact Or.inr (Or.inl rfl)
          · exact ih
        · exact ih

namespace Wal

theorem wrFrom_fine (at' : Nat) (laid : List UInt8) : ∀ (r i : Nat) (d : Dk), d.Fine → (wrFrom at' laid r i d).1.Fine
  | 0, _, d, h => h.flush
  | r + 1, i, d, h => by
    unfold wrFrom
    split
    · exact wrFrom_fine at' laid r (i + 1) _ (h.write _ _)
    · exact h.write _ _
theorem wr_fine (d : Dk) (at' : Nat) (laid : List UInt8) (h : d.Fine) : (wr d at' laid).1.Fine := wrFrom_fine _ _ _ _ _ h

/-- what pended at some places is lost, torn or done: elsewhere all is as it was -/
theorem crash_sec (d : Dk) (fs : List Int) (k : Nat) (hk : k < d.secs.length) (ho : ∀ p ∈ d.pend, p.1 ≠ k) : (d.crash fs).sec k = d.secs.getD k none := by
  have hl : (d.crash fs).secs.length = d.secs.length := crashTo_length _ _ _ _
  rw [sec_rest (d.crash fs) rfl rfl k (by rw [hl]; exact hk)]
  exact crashTo_other fs d.pend d.secs k d.pend.length ho

theorem Safe.sec {d : Dk} {l : Lg} {us : List (List UInt8)} {N : Nat} (h : Safe d l us N) (k : Nat) (hk : k < d.secs.length) : d.sec k = d.secs.getD k none := sec_rest d h.pend h.up k hk

/-- a disk that has the log's sectors as they were -/
theorem Safe.kept {d d' : Dk} {l : Lg} {us : List (List UInt8)} {N M : Nat} (h : Safe d l us N) (hM : N ≤ M) (hu : d'.down = false) (hp : d'.pend = []) (hf : d'.Fine) (hl : d'.secs.length = d.secs.length) (h0 : d'.sec 0 = d.sec 0) (h1 : d'.sec 1 = d.sec 1)
    (hs : ∀ i, i < l.hd.used → d'.sec (start d l.hd.area + i) = d.sec (start d l.hd.area + i)) : Safe d' l us M :=
  ⟨hu, hp, hf, h.alive, by rw [same_found (half_len hl) h0 h1]; exact h.found, by rw [same_units (half_len hl) hs]; exact h.units, Nat.le_trans h.epoch hM⟩

theorem Safe.lg_eq {d : Dk} {l : Lg} {us : List (List UInt8)} {N : Nat} (h : Safe d l us N) : lgOf (Wal.found d) = l := by
  rw [h.found]
  show (⟨l.hd, l.next, false⟩ : Lg) = l
  have := h.alive
  cases l
  simp only at this
  subst this
  rfl

theorem chunk_head (h : Hd) : chunk h.lay 0 = h.lay := by
  unfold chunk
  rw [Nat.zero_mul, List.drop_zero, List.take_of_length_le (by rw [Hd.lay_length]; exact Nat.le_refl _)]

/-- the log's sectors lie behind the heads, ahead of the disk's end -/
theorem used_in {d : Dk} {l : Lg} (hf : d.Fine) (hl : l.Fine d.half) (i : Nat) (hi : i < l.hd.used) : 2 ≤ start d l.hd.area + i ∧ start d l.hd.area + i < d.secs.length := by
  have h1 := half_le d hf
  have h2 := hl.used
  have h3 : l.hd.area * d.half ≤ 1 * d.half := Nat.mul_le_mul_right _ hl.area
  unfold start
  omega

/-- what a call leaves: it was OK, and its units are there; or the disk fell, and behind a crash those are there that were, or those that were to be -/
structure Kept (r : Res) (us vs : List (List UInt8)) (N : Nat) : Prop where
  out : (r.e = 0 ∧ Safe r.dk r.lg vs N) ∨ (r.e = 9 ∧ ∀ fs, ∃ ws, (ws = us ∨ ws = vs) ∧ Safe (r.dk.crash fs) (lgOf (found (r.dk.crash fs))) ws N)

theorem commit_safe {d : Dk} {l : Lg} {us vs : List (List UInt8)} {N : Nat} (S : Safe d l us N) (h : Hd) (at' : Nat) (laid : List UInt8) (cnt : Nat) (hN : N + 1 < 18446744073709551616) (hE : h.epoch = l.hd.epoch + 1) (hA : h.area ≤ 1) (hU : h.used ≤ d.half)
    (hl : laid.length = cnt * 64) (hat : 2 ≤ at') (hend : at' + cnt ≤ d.secs.length) (hoff : ∀ i, i < l.hd.used → ¬ (at' ≤ start d l.hd.area + i ∧ start d l.hd.area + i < at' + cnt))
    (hnew : ∀ d1 : Dk, d1.half = d.half → (∀ k, 2 ≤ k → k < d.secs.length → d1.sec k = if at' ≤ k ∧ k < at' + cnt then some (chunk laid (k - at')) else d.sec k) → unitsOf d1 h = some vs) : Kept (commit l d h at' laid) us vs (N + 1) := by
  have hlf := S.lfine
  have hn1 := S.fine.n1
  have hh := half_le d S.fine
  have hdiv : laid.length / 64 = cnt := by rw [hl]; omega
  have hused := fun i hi => used_in S.fine hlf i hi
  have w1 := wr_spec d at' laid (by rw [hdiv]; exact hend) S.pend S.up
  have f1 := wr_fine d at' laid S.fine
  have l1 := wr_len d at' laid
  rw [hdiv] at w1
  generalize hd1 : (wr d at' laid).1 = d1 at *
  generalize he1 : (wr d at' laid).2 = e1 at *
  rcases w1 with ⟨z1, p1, u1, g1⟩ | ⟨z1, s1, q1⟩
  · -- the sectors are done
    subst z1
    have sec1 : ∀ k, k < d.secs.length → d1.sec k = if at' ≤ k ∧ k < at' + cnt then some (chunk laid (k - at')) else d.sec k := fun k hk => by
      rw [sec_rest d1 p1 u1 k (by omega), g1 k, S.sec k hk]
    have S1 : Safe d1 l us N := S.kept (Nat.le_refl _) u1 p1 f1 l1 (by rw [sec1 0 (by omega), if_neg (by omega)]) (by rw [sec1 1 (by omega), if_neg (by omega)]) (fun i hi => by rw [sec1 _ (hused i hi).2, if_neg (hoff i hi)])
    have hf1 : d1.half = d.half := half_len l1
    have w2 := wr_spec d1 l.next h.lay (by rw [Hd.lay_length, l1]; have := hlf.next; omega) p1 u1
    have f2 := wr_fine d1 l.next h.lay f1
    have l2 := wr_len d1 l.next h.lay
    rw [Hd.lay_length] at w2
    generalize hd2 : (wr d1 l.next h.lay).1 = d2 at *
    generalize he2 : (wr d1 l.next h.lay).2 = e2 at *
    have hnx := hlf.next
    have hEl : h.epoch < 18446744073709551616 := by have := S.epoch; omega
    -- a disk whose sector 'next' has the new head
    have fresh : ∀ d3 : Dk, d3.down = false → d3.pend = [] → d3.Fine → d3.secs.length = d.secs.length → (∀ k, k < d.secs.length → d3.sec k = if k = l.next then some h.lay else d1.sec k) → Safe d3 ⟨h, 1 - l.next, false⟩ vs (N + 1) := by
      intro d3 a1 a2 a3 a4 a5
      have hh3 : d3.half = d.half := half_len a4
      refine ⟨a1, a2, a3, rfl, ?_, ?_, by show h.epoch ≤ N + 1; have := S.epoch; omega⟩
      · refine found_new' (d := d1) S1.found (by rw [hh3, hf1]) ?_ ?_ hnx (by show l.hd.epoch < h.epoch; omega)
        · rw [a5 l.next (by omega), if_pos rfl, hh3]
          exact headIn_lay d.half h hEl hA hU (by omega)
        · rw [a5 (1 - l.next) (by omega), if_neg (by omega)]
      · refine hnew d3 hh3 (fun k hk2 hk => ?_)
        rw [a5 k hk, if_neg (by omega), sec1 k hk]
    rcases w2 with ⟨z2, p2, u2, g2⟩ | ⟨z2, s2, q2⟩
    · subst z2
      refine ⟨Or.inl ?_⟩
      have hc : commit l d h at' laid = ⟨⟨h, 1 - l.next, l.dead⟩, d2, 0⟩ := by
        unfold commit
        simp only [he1, hd1, he2, hd2, if_true]
      rw [hc, S.alive]
      refine ⟨rfl, fresh d2 u2 p2 f2 (by rw [l2, l1]) (fun k hk => ?_)⟩
      rw [sec_rest d2 p2 u2 k (by omega), g2 k, sec_rest d1 p1 u1 k (by omega)]
      by_cases hkn : k = l.next
      · subst hkn
        rw [if_pos (by omega), if_pos rfl, Nat.sub_self, chunk_head]
      · rw [if_neg (by omega), if_neg hkn]
    · subst z2
      refine ⟨Or.inr ?_⟩
      have hc : commit l d h at' laid = ⟨{ l with dead := true }, d2, 9⟩ := by
        unfold commit
        simp only [he1, hd1, he2, hd2, if_true, show ¬ (9 : Int) = 0 by decide, if_false]
      rw [hc]
      refine ⟨rfl, fun fs => ?_⟩
      show ∃ ws, (ws = us ∨ ws = vs) ∧ Safe (d2.crash fs) (lgOf (found (d2.crash fs))) ws (N + 1)
      have hl3 : (d2.crash fs).secs.length = d.secs.length := by rw [show (d2.crash fs).secs.length = d2.secs.length from crashTo_length _ _ _ _, l2, l1]
      have hpl : ∀ p ∈ d2.pend, p.1 = l.next ∧ p.2 = h.lay := fun p hp => by
        have := q2 p hp
        have e : p.1 = l.next := by omega
        refine ⟨e, ?_⟩
        rw [this.2.2, e, Nat.sub_self, chunk_head]
      have other : ∀ k, k < d.secs.length → k ≠ l.next → (d2.crash fs).sec k = d1.sec k := fun k hk hkn => by
        rw [crash_sec d2 fs k (by omega) (fun p hp e => hkn (by rw [← e]; exact (hpl p hp).1)), s2, sec_rest d1 p1 u1 k (by omega)]
      have here := crashTo_any fs d2.pend d2.secs l.next (fun p hp => by rw [(hpl p hp).1]; omega) d2.pend.length
      have hsn : (d2.crash fs).sec l.next = (crashTo fs d2.pend d2.secs d2.pend.length).getD l.next none := sec_rest (d2.crash fs) rfl rfl l.next (by omega)
      have hold : (d2.crash fs).sec l.next = d1.sec l.next ∨ headIn (d2.crash fs).half ((d2.crash fs).sec l.next) = none → Safe (d2.crash fs) l us (N + 1) := fun hq => by
        have hh3 : (d2.crash fs).half = d1.half := half_len (by rw [hl3, l1])
        refine ⟨rfl, rfl, f2.crash fs, S.alive, ?_, ?_, by have := S.epoch; omega⟩
        · rcases hq with hq | hq
          · rw [same_found hh3]
            · exact S1.found
            · rcases Nat.lt_or_ge l.next 1 with hz | hz
              · rw [show (0 : Nat) = l.next by omega]; exact hq
              · exact other 0 (by omega) (by omega)
            · rcases Nat.lt_or_ge l.next 1 with hz | hz
              · exact other 1 (by omega) (by omega)
              · rw [show (1 : Nat) = l.next by omega]; exact hq
          · exact found_bad S1.found hh3 hq (other _ (by omega) (by omega)) hnx
        · rw [same_units hh3 (fun i hi => ?_)]
          · exact S1.units
          · have hui := hused i hi
            have est : start d1 l.hd.area = start d l.hd.area := by unfold start; rw [hf1]
            rw [est]
            exact other _ hui.2 (by omega)
      rcases here with e | e | ⟨p, hp, hk, e⟩
      · have S3 := hold (Or.inl (by rw [hsn, e, s2, sec_rest d1 p1 u1 l.next (by omega)]))
        exact ⟨us, Or.inl rfl, by rw [S3.lg_eq]; exact S3⟩
      · have S3 := hold (Or.inr (by rw [hsn, e]; rfl))
        exact ⟨us, Or.inl rfl, by rw [S3.lg_eq]; exact S3⟩
      · have S3 := fresh (d2.crash fs) rfl rfl (f2.crash fs) hl3 (fun k hk' => by
          by_cases hkn : k = l.next
          · subst hkn
            rw [if_pos rfl, hsn, e, (hpl p hp).2]
          · rw [if_neg hkn]
            exact other k hk' hkn)
        exact ⟨vs, Or.inr rfl, by rw [S3.lg_eq]; exact S3⟩
  · -- the disk fell ahead of the head
    subst z1
    refine ⟨Or.inr ?_⟩
    have hc : commit l d h at' laid = ⟨{ l with dead := true }, d1, 9⟩ := by
      unfold commit
      simp only [he1, hd1, show ¬ (9 : Int) = 0 by decide, if_false]
    rw [hc]
    refine ⟨rfl, fun fs => ⟨us, Or.inl rfl, ?_⟩⟩
    show Safe (d1.crash fs) (lgOf (found (d1.crash fs))) us (N + 1)
    have other : ∀ k, k < d.secs.length → ¬ (at' ≤ k ∧ k < at' + cnt) → (d1.crash fs).sec k = d.sec k := fun k hk hkn => by
      rw [crash_sec d1 fs k (by omega) (fun p hp e => hkn (by have := q1 p hp; omega)), s1, S.sec k hk]
    have S3 : Safe (d1.crash fs) l us (N + 1) := S.kept (Nat.le_succ _) rfl rfl (f1.crash fs) (by rw [show (d1.crash fs).secs.length = d1.secs.length from crashTo_length _ _ _ _, l1]) (other 0 (by omega) (by omega)) (other 1 (by omega) (by omega)) (fun i hi => other _ (hused i hi).2 (hoff i hi))
    rw [S3.lg_eq]
    exact S3

theorem next1_eq (e N : Nat) (h : e ≤ N) (hN : N + 1 < 18446744073709551616) : next1 e = e + 1 := Nat.mod_eq_of_lt (by omega)

theorem append_safe {d : Dk} {l : Lg} {us : List (List UInt8)} {N : Nat} (S : Safe d l us N) (xs : List (List UInt8)) (hx : ∀ u ∈ xs, u.length < 4294967296) (hN : N + 1 < 18446744073709551616) :
    append l d xs = ⟨l, d, 2⟩ ∨ Kept (append l d xs) us (us ++ xs) (N + 1) := by
  have hlf := S.lfine
  have hh := half_le d S.fine
  have hn1 := S.fine.n1
  by_cases hnil : xs = []
  · subst hnil
    refine Or.inr ⟨Or.inl ?_⟩
    rw [append_none l d S.alive]
    refine ⟨rfl, ?_⟩
    rw [List.append_nil]
    exact ⟨S.up, S.pend, S.fine, S.alive, S.found, S.units, Nat.le_succ_of_le S.epoch⟩
  by_cases hfull : d.half < l.hd.used + sizes xs
  · exact Or.inl (append_full l d xs S.alive hnil hfull)
  · refine Or.inr ?_
    have har : l.hd.area * d.half ≤ 1 * d.half := Nat.mul_le_mul_right _ hlf.area
    have hst : start d l.hd.area = 2 + l.hd.area * d.half := rfl
    have e : append l d xs = commit l d ⟨next1 l.hd.epoch, l.hd.area, l.hd.used + sizes xs⟩ (start d l.hd.area + l.hd.used) (layAll xs) := by
      unfold append
      rw [S.alive, if_neg (by decide), if_neg hnil, if_neg hfull]
    rw [e]
    refine commit_safe S _ _ _ (sizes xs) hN (next1_eq _ N S.epoch hN) hlf.area (by show l.hd.used + sizes xs ≤ d.half; omega) (layAll_length xs) (by omega) (by omega) (fun i hi => by omega) ?_
    intro d1 hh1 hs1
    have est : start d1 l.hd.area = start d l.hd.area := by unfold start; rw [hh1]
    have hu := S.units
    unfold unitsOf at hu ⊢
    simp only
    rw [est]
    have hsame : readFrom d1 (start d l.hd.area) l.hd.used = readFrom d (start d l.hd.area) l.hd.used := readFrom_same d d1 _ _ (fun i hi => by rw [hs1 _ (by omega) (used_in S.fine hlf i hi).2, if_neg (by omega)])
    cases hr : readFrom d (start d l.hd.area) l.hd.used with
    | none => rw [hr] at hu; cases hu
    | some bs =>
      rw [hr] at hu hsame
      have hbl := readFrom_length S.fine _ _ _ hr
      have hget := readFrom_get d1 (start d l.hd.area + l.hd.used) (layAll xs) (sizes xs) (by rw [layAll_length]; exact Nat.le_refl _) (fun i hi => by rw [hs1 _ (by omega) (by omega), if_pos (by omega)]; congr 2; omega)
      rw [← layAll_length, List.take_of_length_le (Nat.le_refl _)] at hget
      rw [readFrom_add d1 _ bs (layAll xs) l.hd.used hsame (sizes xs) hget]
      exact takeAll_append bs.length bs (layAll xs) us xs (Nat.le_refl _) (by have := hlf.used; omega) hu (takeAll_layAll xs hx)

theorem reset_safe {d : Dk} {l : Lg} {us : List (List UInt8)} {N : Nat} (S : Safe d l us N) (u : List UInt8) (hx : u.length < 4294967296) (hN : N + 1 < 18446744073709551616) :
    reset l d u = ⟨l, d, 2⟩ ∨ Kept (reset l d u) us [u] (N + 1) := by
  have hlf := S.lfine
  have hh := half_le d S.fine
  have hn1 := S.fine.n1
  by_cases hfull : d.half < size u
  · exact Or.inl (reset_full l d u S.alive hfull)
  · refine Or.inr ?_
    have hst : start d (1 - l.hd.area) = 2 + (1 - l.hd.area) * d.half := rfl
    have hst2 : start d l.hd.area = 2 + l.hd.area * d.half := rfl
    have hu2 := hlf.used
    have har := hlf.area
    have hcase : (l.hd.area = 0 ∧ start d (1 - l.hd.area) = 2 + d.half ∧ start d l.hd.area = 2) ∨ (l.hd.area = 1 ∧ start d (1 - l.hd.area) = 2 ∧ start d l.hd.area = 2 + d.half) := by
      rcases Nat.lt_or_ge l.hd.area 1 with h | h
      · have e : l.hd.area = 0 := by omega
        rw [e] at hst hst2 ⊢
        exact Or.inl ⟨rfl, by omega, by omega⟩
      · have e : l.hd.area = 1 := by omega
        rw [e] at hst hst2 ⊢
        exact Or.inr ⟨rfl, by omega, by omega⟩
    have e : reset l d u = commit l d ⟨next1 l.hd.epoch, 1 - l.hd.area, size u⟩ (start d (1 - l.hd.area)) (lay u) := by
      unfold reset
      rw [S.alive, if_neg (by decide), if_neg hfull]
    rw [e]
    refine commit_safe S _ _ _ (size u) hN (next1_eq _ N S.epoch hN) (by show 1 - l.hd.area ≤ 1; omega) (by show size u ≤ d.half; omega) (lay_length u) (by omega) (by omega) (fun i hi => by omega) ?_
    intro d1 hh1 hs1
    have est : start d1 (1 - l.hd.area) = start d (1 - l.hd.area) := by unfold start; rw [hh1]
    unfold unitsOf
    simp only
    rw [est]
    have hget := readFrom_get d1 (start d (1 - l.hd.area)) (lay u) (size u) (by rw [lay_length]; exact Nat.le_refl _) (fun i hi => by rw [hs1 _ (by omega) (by omega), if_pos (by omega)]; congr 2; omega)
    rw [← lay_length, List.take_of_length_le (Nat.le_refl _)] at hget
    rw [hget]
    have := takeAll_layAll [u] (fun v hv => by rw [List.mem_singleton.1 hv]; exact hx)
    simpa [layAll] using this

/-- a crash at rest turns nothing -/
theorem Safe.crash {d : Dk} {l : Lg} {us : List (List UInt8)} {N : Nat} (S : Safe d l us N) (fs : List Int) : Safe (d.crash fs) (lgOf (Wal.found (d.crash fs))) us N := by
  have e : (d.crash fs).secs = d.secs := by
    show crashTo fs d.pend d.secs d.pend.length = d.secs
    rw [S.pend]
    rfl
  have hs : ∀ k, k < d.secs.length → (d.crash fs).sec k = d.sec k := fun k hk => by
    rw [sec_rest (d.crash fs) rfl rfl k (by rw [e]; exact hk), e, S.sec k hk]
  have h1 := S.fine.n1
  have S3 : Safe (d.crash fs) l us N := S.kept (Nat.le_refl _) rfl rfl (S.fine.crash fs) (by rw [e]) (hs 0 (by omega)) (hs 1 (by omega)) (fun i hi => hs _ (used_in S.fine S.lfine i hi).2)
  rw [S3.lg_eq]
  exact S3

theorem Safe.fused {d : Dk} {l : Lg} {us : List (List UInt8)} {N : Nat} (S : Safe d l us N) (n : Int) (h1 : -9223372036854775808 ≤ n) (h2 : n ≤ 9223372036854775807) : Safe (d.fused n) l us N := by
  have hs : ∀ k, k < d.secs.length → (d.fused n).sec k = d.sec k := fun k hk => rfl
  have hn := S.fine.n1
  exact S.kept (Nat.le_refl _) S.up S.pend (S.fine.fused n h1 h2) rfl (hs 0 (by omega)) (hs 1 (by omega)) (fun i hi => hs _ (used_in S.fine S.lfine i hi).2)

theorem Safe.new (n : Nat) (h1 : 8 ≤ n) (h2 : n ≤ 4096) : Safe (Dk.new n) ⟨Hd.zero, 0, false⟩ [] 0 :=
  ⟨rfl, rfl, Dk.Fine.new n h1 h2, rfl, found_new n h1, unitsOf_new n, Nat.le_refl _⟩

end Wal
end Go.Proofs.YtmcobkcnpnfobaaGreat

namespace Go.Proofs.YtmcobkcnpnfobaaGreat
open Go.RowKit
set_option linter.unusedSimpArgs false
set_option linter.unusedVariables false
namespace Wal

theorem commit_len (l : Lg) (d : Dk) (h : Hd) (at' : Nat) (laid : List UInt8) : (commit l d h at' laid).dk.secs.length = d.secs.length ∧ (commit l d h at' laid).dk.works ≤ d.works + laid.length / 64 + 3 := by
  have l1 := wr_len d at' laid
  have w1 := wr_works d at' laid
  have l2 := wr_len (wr d at' laid).1 l.next h.lay
  have w2 := wr_works (wr d at' laid).1 l.next h.lay
  rw [Hd.lay_length] at w2
  unfold commit
  by_cases h1 : (wr d at' laid).2 = 0
  · simp only [if_pos h1]
    by_cases h2 : (wr (wr d at' laid).1 l.next h.lay).2 = 0
    · simp only [if_pos h2]
      exact ⟨by rw [l2, l1], by omega⟩
    · simp only [if_neg h2]
      exact ⟨by rw [l2, l1], by omega⟩
  · simp only [if_neg h1]
    exact ⟨l1, by omega⟩
theorem append_len (l : Lg) (d : Dk) (us : List (List UInt8)) : (append l d us).dk.secs.length = d.secs.length ∧ (append l d us).dk.works ≤ d.works + d.half + 3 := by
  unfold append
  split
  · exact ⟨rfl, by show d.works ≤ _; omega⟩
  · split
    · exact ⟨rfl, by show d.works ≤ _; omega⟩
    · split
      · exact ⟨rfl, by show d.works ≤ _; omega⟩
      · have := commit_len l d ⟨next1 l.hd.epoch, l.hd.area, l.hd.used + sizes us⟩ (start d l.hd.area + l.hd.used) (layAll us)
        rw [layAll_length] at this
        exact ⟨this.1, by omega⟩
theorem reset_len (l : Lg) (d : Dk) (u : List UInt8) : (reset l d u).dk.secs.length = d.secs.length ∧ (reset l d u).dk.works ≤ d.works + d.half + 3 := by
  unfold reset
  split
  · exact ⟨rfl, by show d.works ≤ _; omega⟩
  · split
    · exact ⟨rfl, by show d.works ≤ _; omega⟩
    · have := commit_len l d ⟨next1 l.hd.epoch, 1 - l.hd.area, size u⟩ (start d (1 - l.hd.area)) (lay u)
      rw [lay_length] at this
      exact ⟨this.1, by omega⟩

/-- the loop's state: a log at L, with the units us, which the value tv holds -/
structure WholeAt (w0 wr : World) (F : Nat → Prop) (B L : Nat) (tv : Value) (d : Dk) (l : Lg) (us : List (List UInt8)) (N k : Nat) : Prop where
  lg : Logs w0 wr F B L d l
  safe : Safe d l us k
  there : HasU (fun j => ¬ F j ∧ j ≠ L) wr tv us
  len : d.secs.length = N
  works : d.works ≤ k * 100
  many : us.length ≤ 4 * k

/-- behind the call -/
structure MidAt (w0 wr : World) (F : Nat → Prop) (B L : Nat) (tv nv : Value) (d : Dk) (l : Lg) (us vs : List (List UInt8)) (e : Int) (N k : Nat) : Prop where
  lg : Logs w0 wr F B L d l
  there : HasU (fun j => ¬ F j ∧ j ≠ L) wr tv us
  next : HasU (fun j => ¬ F j ∧ j ≠ L) wr nv vs
  len : d.secs.length = N
  works : d.works ≤ k * 100 + 60
  many : us.length ≤ 4 * k
  more : vs.length ≤ 4 * (k + 1)
  res : (e = 2 ∧ Safe d l us (k + 1)) ∨ (e = 0 ∧ Safe d l vs (k + 1)) ∨ (e = 9 ∧ ∀ fs, ∃ ws, (ws = us ∨ ws = vs) ∧ Safe (d.crash fs) (lgOf (found (d.crash fs))) ws (k + 1))

theorem Safe.later {d : Dk} {l : Lg} {us : List (List UInt8)} {N M : Nat} (S : Safe d l us N) (h : N ≤ M) : Safe d l us M := ⟨S.up, S.pend, S.fine, S.alive, S.found, S.units, Nat.le_trans S.epoch h⟩

section
variable {w0 w w' : World} {F : Nat → Prop} {B L : Nat} {d : Dk} {l : Lg} {tv nv : Value} {us vs : List (List UInt8)} {N k : Nat} {e : Int}

theorem WholeAt.same (h : WholeAt w0 w F B L tv d l us N k) (o : Only (fun _ => False) w w') : WholeAt w0 w' F B L tv d l us N k :=
  ⟨h.lg.same o, h.safe, h.there.only o (fun _ _ _ h => h), h.len, h.works, h.many⟩
theorem MidAt.same (h : MidAt w0 w F B L tv nv d l us vs e N k) (o : Only (fun _ => False) w w') : MidAt w0 w' F B L tv nv d l us vs e N k :=
  ⟨h.lg.same o, h.there.only o (fun _ _ _ h => h), h.next.only o (fun _ _ _ h => h), h.len, h.works, h.many, h.more, h.res⟩

/-- the fuse is set -/
theorem WholeAt.fused (h : WholeAt w0 w F B L tv d l us N k) {F' : Nat → Prop} (n : Int) (h1 : -9223372036854775808 ≤ n) (h2 : n ≤ 9223372036854775807) (hw : Went w0 w w' F F' B (d.fused n)) : WholeAt w0 w' F' B L tv (d.fused n) l us N k := by
  have hl := h.lg.went hw rfl h.lg.works
  exact ⟨hl.lg, h.safe.fused n h1 h2, hl.hasU h.there, h.len, h.works, h.many⟩

theorem WholeAt.appended (h : WholeAt w0 w F B L tv d l us N k) (hN : N ≤ 40) (hk : k ≤ 1000) {xs : List (List UInt8)} (hxl : xs.length ≤ 4) (hxs : ∀ u ∈ xs, u.length ≤ 149) {F' : Nat → Prop} (hn : HasU (fun j => ¬ F j ∧ j ≠ L) w nv (us ++ xs))
    (hw : LWent w0 w w' F F' B L (append l d xs).dk (append l d xs).lg) : MidAt w0 w' F' B L tv nv (append l d xs).dk (append l d xs).lg us (us ++ xs) (append l d xs).e N k := by
  have ha := append_len l d xs
  have hlen := h.len
  have hwk := h.works
  have hm := h.many
  have hh := half_le d h.lg.dk.fine
  refine ⟨hw.lg, hw.hasU h.there, hw.hasU hn, ha.1.trans hlen, by omega, hm, by rw [List.length_append]; omega, ?_⟩
  rcases append_safe h.safe xs (fun u hu => by have := hxs u hu; omega) (by omega) with e | hk
  · rw [e]
    exact Or.inl ⟨rfl, h.safe.later (Nat.le_succ _)⟩
  · rcases hk.out with ⟨e, hs⟩ | hq
    · exact Or.inr (Or.inl ⟨e, hs⟩)
    · exact Or.inr (Or.inr hq)
theorem WholeAt.reset (h : WholeAt w0 w F B L tv d l us N k) (hN : N ≤ 40) (hk : k ≤ 1000) {u : List UInt8} (hu : u.length ≤ 1000) {F' : Nat → Prop} (hn : HasU (fun j => ¬ F j ∧ j ≠ L) w nv [u])
    (hw : LWent w0 w w' F F' B L (Wal.reset l d u).dk (Wal.reset l d u).lg) : MidAt w0 w' F' B L tv nv (Wal.reset l d u).dk (Wal.reset l d u).lg us [u] (Wal.reset l d u).e N k := by
  have ha := reset_len l d u
  have hlen := h.len
  have hwk := h.works
  have hm := h.many
  have hh := half_le d h.lg.dk.fine
  refine ⟨hw.lg, hw.hasU h.there, hw.hasU hn, ha.1.trans hlen, by omega, hm, by simp; omega, ?_⟩
  rcases reset_safe h.safe u (by omega) (by omega) with e | hk
  · rw [e]
    exact Or.inl ⟨rfl, h.safe.later (Nat.le_succ _)⟩
  · rcases hk.out with ⟨e, hs⟩ | hq
    · exact Or.inr (Or.inl ⟨e, hs⟩)
    · exact Or.inr (Or.inr hq)

/-- no crash: it goes on -/
theorem MidAt.full (h : MidAt w0 w F B L tv nv d l us vs 2 N k) : WholeAt w0 w F B L tv d l us N (k + 1) := by
  refine ⟨h.lg, ?_, h.there, h.len, by have := h.works; omega, by have := h.many; omega⟩
  rcases h.res with ⟨_, h⟩ | ⟨e, _⟩ | ⟨e, _⟩
  · exact h
  · cases e
  · cases e
theorem MidAt.ok (h : MidAt w0 w F B L tv nv d l us vs 0 N k) : WholeAt w0 w F B L nv d l vs N (k + 1) := by
  refine ⟨h.lg, ?_, h.next, h.len, by have := h.works; omega, h.more⟩
  rcases h.res with ⟨e, _⟩ | ⟨_, h⟩ | ⟨e, _⟩
  · cases e
  · exact h
  · cases e
theorem MidAt.fell (h : MidAt w0 w F B L tv nv d l us vs 9 N k) (fs : List Int) : ∃ ws, (ws = us ∨ ws = vs) ∧ Safe (d.crash fs) (lgOf (found (d.crash fs))) ws (k + 1) := by
  rcases h.res with ⟨e, _⟩ | ⟨e, _⟩ | ⟨_, h⟩
  · cases e
  · cases e
  · exact h fs
theorem MidAt.e_is (h : MidAt w0 w F B L tv nv d l us vs e N k) : e = 2 ∨ e = 0 ∨ e = 9 := by
  rcases h.res with ⟨e, _⟩ | ⟨e, _⟩ | ⟨e, _⟩
  · exact Or.inl e
  · exact Or.inr (Or.inl e)
  · exact Or.inr (Or.inr e)

/-- a crash, and it is opened again: the units ws are there -/
theorem opened (h : Dks w0 w F B d) (hw : d.works ≤ 800000) (fs : List Int) {ws : List (List UInt8)} {M : Nat} (S : Safe (d.crash fs) (lgOf (found (d.crash fs))) ws M) {F' : Nat → Prop} (hwt : Went w0 w w' F F' B (d.crash fs)) :
    Calls Tryz.prog 46 #[.pointer (some ⟨B, 0, none⟩)] w' fun e w2 => ∃ L2 ao cap, e = .returned (.tuple #[.pointer (some ⟨L2, 0, none⟩), .slice ao ws.length cap, .int .i64 0]) ∧ Logs w0 w2 F' B L2 (d.crash fs) (lgOf (found (d.crash fs))) ∧ HasU (fun j => ¬ F' j ∧ j ≠ L2) w2 (.slice ao ws.length cap) ws ∧ Only (fun _ => False) w' w2 := by
  have hu : unitsOf (d.crash fs) (found (d.crash fs)).1 = some ws := S.units
  refine (open_any hwt.dk (by show d.works ≤ 900000; omega) rfl).mono ?_
  rintro e w2 ⟨h1, ho⟩
  rw [hu] at h1
  obtain ⟨L2, v, rfl, hv, hl, hL⟩ := h1
  have hU : HasU (fun j => ¬ F' j ∧ j ≠ L2) w2 v ws := hv.hasU.mono (fun j _ hj => ⟨fun e => by have := hwt.dk.lt j e; omega, by omega⟩)
  obtain ⟨ao, cap, rfl, _⟩ := hU.shape
  exact ⟨L2, ao, cap, rfl, hl, hU, ho⟩
end

/-- an owned row of slices; the slices' own blocks are such as P tells -/
def RowU (P : Nat → Prop) (base : Nat) (w : World) (v : Value) (vs : List Value) (us : List (List UInt8)) : Prop := w.ownsRow base 24 1 v us.length vs ∧ Each (fun k => P k ∧ v.ownBlock ≠ some k) w vs us

theorem RowU.pushes {P : Nat → Prop} {base : Nat} {w w1 w6 : World} {v v6 : Value} {us xs : List (List UInt8)} {vs ys : List Value} (h : RowU P base w v vs us)
    (hx : Each (fun k => P k ∧ v.ownBlock ≠ some k) w ys xs) (ho : Only (fun _ => False) w w1) (own6 : w6.ownsRow base 24 1 v6 (us.length + xs.length) (vs ++ ys)) (gr6 : w1.grownBy w6 v.ownBlock)
    (at6 : v6.ownBlock = v.ownBlock ∨ v6.ownBlock = some w1.heap.size) : RowU P base w6 v6 (vs ++ ys) (us ++ xs) ∧ Only (fun k => v.ownBlock = some k) w w6 := by
  have o6 : Only (fun k => v.ownBlock = some k) w w6 := (ho.mono (fun _ _ e => e.elim)).grown gr6 (fun k hk _ => hk)
  have hs := ho.size
  have hq : ∀ {vs us}, Each (fun k => P k ∧ v.ownBlock ≠ some k) w vs us → Each (fun k => P k ∧ v6.ownBlock ≠ some k) w6 vs us := fun h => by
    have h1 := h.mono (Q := fun k => (P k ∧ v6.ownBlock ≠ some k) ∧ v.ownBlock ≠ some k) (fun k hk hp => ⟨⟨hp.1, fun e => by
      rcases at6 with e6 | e6
      · exact hp.2 (e6 ▸ e)
      · rw [e6] at e; cases e; omega⟩, hp.2⟩)
    exact (h1.only o6 (fun k _ hp e => hp.2 e)).mono (fun _ _ h => h.1)
  exact ⟨⟨by rw [List.length_append]; exact own6, (hq h.2).append (hq hx)⟩, o6⟩

theorem RowU.hasU {P : Nat → Prop} {base : Nat} {w : World} {v : Value} {us : List (List UInt8)} {vs : List Value} (h : RowU P base w v vs us) (hP : ∀ k, base ≤ k → P k) : HasU P w v us := by
  have hv := HasV.ofOwns h.1
  refine ⟨vs, hv, h.2.mono (fun _ _ h => h.1), fun hne k hk => ?_⟩
  rcases h.1.2 with ⟨rfl, _⟩ | ⟨g, cap, cur, rfl, hb, _⟩
  · cases hk
  · simp only [blk, Option.map_some, Option.some.injEq] at hk
    exact hP k (by omega)

end Wal
end Go.Proofs.YtmcobkcnpnfobaaGreat
