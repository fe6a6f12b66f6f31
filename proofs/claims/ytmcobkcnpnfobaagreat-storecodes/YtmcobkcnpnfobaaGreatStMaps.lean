/-
  Pairs, by key, rising: plain.
  Maps keyed by strings, as pairs.
  store's do: changes done to a map.
  store's inOrder, allOf.
  store's allOf, Get, Keys.
-/
import Derived.Test.YtmcobkcnpnfobaaGreatStText
import Derived.Maps.RangeWalk
import Derived.Maps.Ext
import Derived.Maps.OwnSet
import Derived.Sort.KeysCollected
import Derived.Deep.RegionHeldLaw
import Derived.Test.YtmcobkcnpnfobaaGreatHpAll
namespace Go.Proofs.YtmcobkcnpnfobaaGreat
open Go.RowKit
set_option linter.unusedSimpArgs false
set_option linter.unusedVariables false

namespace St

theorem klt_irrefl (a : K) : ¬ a < a := List.lt_irrefl a
theorem klt_trans {a b c : K} (h : a < b) (k : b < c) : a < c := List.lt_trans h k
theorem klt_or {a b : K} (h : ¬ a < b) (k : ¬ a = b) : b < a := by
  have h1 := Hp.le_of_not_lt h
  rcases Decidable.em (b < a) with h2 | h2
  · exact h2
  · exact absurd (Hp.le_antisymm (Hp.le_of_not_lt h2) h1) k

abbrev Prs := List (K × K)

def get (P : Prs) (k : K) : Option K := (P.find? (fun p => decide (p.1 = k))).map (·.2)
def put (k v : K) : Prs → Prs
  | [] => [(k, v)]
  | p :: r => if k < p.1 then (k, v) :: p :: r else if k = p.1 then (k, v) :: r else p :: put k v r
def del (k : K) (P : Prs) : Prs := P.filter (fun p => decide (p.1 ≠ k))
def Sorted (P : Prs) : Prop := P.Pairwise (fun a b => a.1 < b.1)

theorem get_cons (p : K × K) (r : Prs) (k : K) : get (p :: r) k = if p.1 = k then some p.2 else get r k := by
  unfold get
  rw [List.find?_cons]
  by_cases h : p.1 = k
  · simp [h]
  · simp [h]

theorem get_put (k v : K) : ∀ (P : Prs) (k' : K), get (put k v P) k' = if k' = k then some v else get P k'
  | [], k' => by
    rw [put, get_cons]
    by_cases h : k' = k
    · rw [if_pos h, if_pos h.symm]
    · rw [if_neg h, if_neg (Ne.symm h)]
  | p :: r, k' => by
    rw [put]
    split
    · rw [get_cons]
      by_cases h : k' = k
      · rw [if_pos h, if_pos h.symm]
      · rw [if_neg h, if_neg (Ne.symm h)]
    · split
      · rename_i h1
        rw [get_cons, get_cons]
        by_cases h : k' = k
        · rw [if_pos h, if_pos h.symm]
        · rw [if_neg h, if_neg (Ne.symm h), if_neg (by rw [← h1]; exact Ne.symm h)]
      · rename_i h1
        rw [get_cons, get_cons, get_put k v r k']
        by_cases h : k' = k
        · rw [if_pos h, if_pos h, if_neg (by rw [h]; exact fun e => h1 e.symm)]
        · rw [if_neg h, if_neg h]

theorem get_del (k : K) : ∀ (P : Prs) (k' : K), get (del k P) k' = if k' = k then none else get P k'
  | [], k' => by simp [del, get]
  | p :: r, k' => by
    have ih := get_del k r k'
    unfold del at ih ⊢
    rw [List.filter_cons]
    by_cases h : p.1 = k
    · simp only [h, ne_eq, not_true_eq_false, decide_false, Bool.false_eq_true, if_false]
      rw [ih, get_cons]
      by_cases h2 : k' = k
      · rw [if_pos h2, if_pos h2]
      · rw [if_neg h2, if_neg h2, if_neg (by rw [h]; exact Ne.symm h2)]
    · simp only [ne_eq, h, not_false_eq_true, decide_true, if_true]
      rw [get_cons, get_cons, ih]
      by_cases h2 : k' = k
      · rw [if_pos h2, if_pos h2, if_neg (by rw [h2]; exact h)]
      · rw [if_neg h2, if_neg h2]

theorem mem_put {k v : K} : ∀ {P : Prs} {q : K × K}, q ∈ put k v P → q = (k, v) ∨ q ∈ P
  | [], q, h => by simp [put] at h; exact Or.inl h
  | p :: r, q, h => by
    rw [put] at h
    split at h
    · rcases List.mem_cons.1 h with h | h
      · exact Or.inl h
      · exact Or.inr h
    · split at h
      · rcases List.mem_cons.1 h with h | h
        · exact Or.inl h
        · exact Or.inr (List.mem_cons_of_mem _ h)
      · rcases List.mem_cons.1 h with h | h
        · exact Or.inr (by rw [h]; simp)
        · rcases mem_put h with h | h
          · exact Or.inl h
          · exact Or.inr (List.mem_cons_of_mem _ h)

theorem sorted_put (k v : K) : ∀ {P : Prs}, Sorted P → Sorted (put k v P)
  | [], _ => List.pairwise_singleton _ _
  | p :: r, h => by
    obtain ⟨h1, h2⟩ := List.pairwise_cons.1 h
    rw [put]
    split
    · rename_i hlt
      exact List.pairwise_cons.2 ⟨fun q hq => by
        rcases List.mem_cons.1 hq with e | e
        · rw [e]; exact hlt
        · exact klt_trans hlt (h1 q e), h⟩
    · split
      · rename_i he
        exact List.pairwise_cons.2 ⟨fun q hq => by show k < q.1; rw [he]; exact h1 q hq, h2⟩
      · rename_i hlt hne
        exact List.pairwise_cons.2 ⟨fun q hq => by
          rcases mem_put hq with e | e
          · rw [e]; exact klt_or hlt hne
          · exact h1 q e, sorted_put k v h2⟩

theorem sorted_del (k : K) {P : Prs} (h : Sorted P) : Sorted (del k P) := h.filter _

theorem get_mem {P : Prs} (hs : Sorted P) {k v : K} : get P k = some v ↔ (k, v) ∈ P := by
  induction P with
  | nil => simp [get]
  | cons p r ih =>
    obtain ⟨h1, h2⟩ := List.pairwise_cons.1 hs
    rw [get_cons]
    by_cases h : p.1 = k
    · rw [if_pos h]
      constructor
      · intro e
        simp only [Option.some.injEq] at e
        exact List.mem_cons.2 (Or.inl (by rw [← h, ← e]))
      · intro hm
        rcases List.mem_cons.1 hm with e | e
        · rw [← e]
        · have := h1 _ e
          rw [h] at this
          exact absurd this (klt_irrefl _)
    · rw [if_neg h, ih h2]
      constructor
      · exact fun e => List.mem_cons_of_mem _ e
      · intro hm
        rcases List.mem_cons.1 hm with e | e
        · rw [← e] at h; exact absurd rfl h
        · exact e

theorem prs_ext {P Q : Prs} (hP : Sorted P) (hQ : Sorted Q) (h : ∀ k, get P k = get Q k) : P = Q := by
  have hm : ∀ p, p ∈ P ↔ p ∈ Q := fun p => by rw [← get_mem hP, ← get_mem hQ, h]
  induction P generalizing Q with
  | nil =>
    cases Q with
    | nil => rfl
    | cons q s => have := (hm q).2 (by simp); simp at this
  | cons p r ih =>
    cases Q with
    | nil => have := (hm p).1 (by simp); simp at this
    | cons q s =>
      obtain ⟨p1, p2⟩ := List.pairwise_cons.1 hP
      obtain ⟨q1, q2⟩ := List.pairwise_cons.1 hQ
      have e : p = q := by
        rcases List.mem_cons.1 ((hm p).1 (by simp)) with e | e
        · exact e
        · rcases List.mem_cons.1 ((hm q).2 (by simp)) with e2 | e2
          · exact e2.symm
          · exact absurd (klt_trans (q1 _ e) (p1 _ e2)) (klt_irrefl _)
      subst e
      have hm2 : ∀ x, x ∈ r ↔ x ∈ s := fun x => ⟨fun hx => by
        rcases List.mem_cons.1 ((hm x).1 (by simp [hx])) with e | e
        · exact absurd (by have := p1 x hx; rw [← e] at this; exact this) (klt_irrefl x.1)
        · exact e, fun hx => by
        rcases List.mem_cons.1 ((hm x).2 (by simp [hx])) with e | e
        · exact absurd (by have := q1 x hx; rw [← e] at this; exact this) (klt_irrefl x.1)
        · exact e⟩
      rw [ih p2 q2 (fun k => by
        cases h1 : get r k with
        | none =>
          cases h2 : get s k with
          | none => rfl
          | some v => have := (hm2 _).2 ((get_mem q2).1 h2); rw [← get_mem p2, h1] at this; cases this
        | some v => have := (hm2 _).1 ((get_mem p2).1 h1); rw [← get_mem q2] at this; exact this.symm) hm2]

def keys (P : Prs) : List K := P.map (·.1)
theorem keys_sorted {P : Prs} (h : Sorted P) : (keys P).Pairwise (· ≤ ·) := List.pairwise_map.2 (h.imp (fun h => Hp.le_of_lt h))
theorem keys_nodup {P : Prs} (h : Sorted P) : (keys P).Nodup := by
  refine List.pairwise_map.2 (List.Pairwise.imp ?_ h)
  intro a b h e
  rw [e] at h
  exact klt_irrefl _ h
theorem mem_keys {P : Prs} (h : Sorted P) (k : K) : k ∈ keys P ↔ (get P k).isSome = true := by
  unfold keys
  rw [List.mem_map]
  constructor
  · rintro ⟨p, hp, rfl⟩
    rw [(get_mem h (v := p.2)).2 hp]
    rfl
  · intro hs
    obtain ⟨v, hv⟩ := Option.isSome_iff_exists.1 hs
    exact ⟨(k, v), (get_mem h).1 hv, rfl⟩

/-- one change, and a unit's -/
def one (P : Prs) (c : Chg) : Prs := if c.has then put c.key c.value P else del c.key P
def done (P : Prs) (l : List Chg) : Prs := l.foldl one P
theorem sorted_one {P : Prs} (h : Sorted P) (c : Chg) : Sorted (one P c) := by
  unfold one
  split
  · exact sorted_put _ _ h
  · exact sorted_del _ h
theorem sorted_done : ∀ (l : List Chg) {P : Prs}, Sorted P → Sorted (done P l)
  | [], _, h => h
  | c :: l, _, h => sorted_done l (sorted_one h c)
theorem length_put (k v : K) : ∀ P : Prs, (put k v P).length ≤ P.length + 1
  | [] => by simp [put]
  | p :: r => by
    rw [put]
    split
    · simp
    · split
      · simp
      · have := length_put k v r; simp; omega
theorem length_one (P : Prs) (c : Chg) : (one P c).length ≤ P.length + 1 := by
  unfold one
  split
  · exact length_put _ _ _
  · have := List.length_filter_le (fun p : K × K => decide (p.1 ≠ c.key)) P
    unfold del; omega
theorem length_done : ∀ (l : List Chg) (P : Prs), (done P l).length ≤ P.length + l.length
  | [], P => by simp [done]
  | c :: l, P => by
    have := length_done l (one P c)
    have := length_one P c
    show (done (one P c) l).length ≤ _
    simp only [List.length_cons]
    omega

/-- the changes that lead to just these pairs -/
def allOf (P : Prs) : List Chg := P.map (fun p => ⟨p.1, true, p.2⟩)

theorem done_append (P : Prs) (a b : List Chg) : done P (a ++ b) = done (done P a) b := List.foldl_append ..

theorem get_done_allOf : ∀ (Q : Prs) (P : Prs) (hQ : Sorted Q) (k : K), get (done P (allOf Q)) k = match get Q k with | some v => some v | none => get P k
  | [], P, _, k => rfl
  | q :: r, P, hQ, k => by
    obtain ⟨q1, q2⟩ := List.pairwise_cons.1 hQ
    show get (done (put q.1 q.2 P) (allOf r)) k = _
    rw [get_done_allOf r _ q2 k, get_cons, get_put]
    by_cases h : q.1 = k
    · rw [if_pos h, if_pos h.symm]
      cases hg : get r k with
      | none => rfl
      | some v =>
        have := q1 _ ((get_mem q2).1 hg)
        rw [h] at this
        exact absurd this (klt_irrefl _)
    · rw [if_neg h, if_neg (Ne.symm h)]

theorem done_allOf {Q : Prs} (hQ : Sorted Q) : done [] (allOf Q) = Q := by
  refine prs_ext (sorted_done _ List.Pairwise.nil) hQ (fun k => ?_)
  rw [get_done_allOf Q [] hQ k]
  cases get Q k <;> rfl

end St
end Go.Proofs.YtmcobkcnpnfobaaGreat

namespace Go.Proofs.YtmcobkcnpnfobaaGreat
open Go.RowKit Go.Maps
set_option linter.unusedSimpArgs false
set_option linter.unusedVariables false

namespace St

theorem law : Keyed Tryz.prog 9 := string_keyed Tryz.underlying9
def rv (v : Value) : Option (DataW Value × List MemPlace) := some (.held v, [])
theorem keyOf_enc (k : K) (h : k.length ≤ maxLen) : keyOf Tryz.prog 9 (encStr k) = some (.string k) := by
  have hs : (⟨k.toArray⟩ : ByteArray).size ≤ maxLen := by simpa [ByteArray.size] using h
  simp [keyOf, Tryz.underlying9, mapKey, hs]

/-- the datum D has just these pairs; each value is as Q tells -/
structure Reads (Q : Value → K → Prop) (D : DataW Value) (P : Prs) : Prop where
  has : ∀ k, Maps.has D (.string k) = (get P k).isSome
  at' : ∀ k bs, get P k = some bs → ∃ v, (∀ z, D.atKey (.string k) z = .held v) ∧ Q v bs

theorem Reads.mono {Q R : Value → K → Prop} {D : DataW Value} {P : Prs} (h : Reads Q D P) (hR : ∀ v bs, Q v bs → R v bs) : Reads R D P :=
  ⟨h.has, fun k bs hk => by obtain ⟨v, h1, h2⟩ := h.at' k bs hk; exact ⟨v, h1, hR v bs h2⟩⟩
theorem Reads.nil (Q : Value → K → Prop) : Reads Q (.map []) [] := ⟨fun _ => rfl, fun k bs h => by cases h⟩
theorem str_ne {a b : K} (h : a ≠ b) : Lit.string a ≠ Lit.string b := fun e => h (by cases e; rfl)
theorem Reads.put {Q : Value → K → Prop} {D : DataW Value} {P : Prs} (h : Reads Q D P) (hD : IsMap D) (k : K) {v : Value} {bs : K} (hv : Q v bs) : Reads Q (D.put (.string k) (.held v)) (put k bs P) := by
  refine ⟨fun k' => ?_, fun k' cs hk' => ?_⟩
  · rw [get_put]
    by_cases e : k' = k
    · rw [if_pos e, e, has_put_same hD (k := .string k) trivial]
      rfl
    · rw [if_neg e, has_put_other (str_ne e), h.has]
  · rw [get_put] at hk'
    by_cases e : k' = k
    · rw [if_pos e] at hk'
      cases hk'
      subst e
      exact ⟨v, fun z => atKey_put_same hD (k := .string k') trivial _ _, hv⟩
    · rw [if_neg e] at hk'
      obtain ⟨u, h1, h2⟩ := h.at' k' cs hk'
      exact ⟨u, fun z => by rw [atKey_put_other (str_ne e)]; exact h1 z, h2⟩
theorem Reads.del {Q : Value → K → Prop} {D : DataW Value} {P : Prs} (h : Reads Q D P) (k : K) : Reads Q (D.del (.string k)) (del k P) := by
  refine ⟨fun k' => ?_, fun k' cs hk' => ?_⟩
  · rw [get_del]
    by_cases e : k' = k
    · rw [if_pos e, e, has_del_same]
      rfl
    · rw [if_neg e, has_del_other (str_ne e), h.has]
  · rw [get_del] at hk'
    by_cases e : k' = k
    · rw [if_pos e] at hk'
      cases hk'
    · rw [if_neg e] at hk'
      obtain ⟨u, h1, h2⟩ := h.at' k' cs hk'
      exact ⟨u, fun z => by rw [atKey_del_other (str_ne e)]; exact h1 z, h2⟩

/-- block b is a map that has just these pairs -/
structure MapV (Q : Value → K → Prop) (w : World) (b n : Nat) (P : Prs) : Prop where
  sorted : Sorted P
  own : ∃ D : DataW Value, w.ownsMap Tryz.prog 9 rv b n D ∧ Reads Q D P

theorem ownsMap_only {S : Nat → Prop} {w w' : World} {b n : Nat} {D : DataW Value} (h : w.ownsMap Tryz.prog 9 rv b n D) (ho : Only S w w') (hb : ¬ S b) : w'.ownsMap Tryz.prog 9 rv b n D := by
  obtain ⟨es, clock, hh, r⟩ := h
  exact ⟨es, clock, ho.heap hh hb, r⟩

section
variable {Q R : Value → K → Prop} {w w' : World} {b n : Nat} {P : Prs}

theorem MapV.lt (h : MapV Q w b n P) : b < w.heap.size := by obtain ⟨D, h1, _⟩ := h.own; exact h1.lt
theorem MapV.mono (h : MapV Q w b n P) (hR : ∀ v bs, Q v bs → R v bs) : MapV R w b n P := by
  obtain ⟨D, h1, h2⟩ := h.own
  exact ⟨h.sorted, D, h1, h2.mono hR⟩
theorem MapV.more (h : MapV Q w b n P) {m : Nat} (hm : n ≤ m) : MapV Q w b m P := by
  obtain ⟨D, h1, h2⟩ := h.own
  exact ⟨h.sorted, D, h1.mono hm, h2⟩
theorem MapV.only {S : Nat → Prop} (h : MapV Q w b n P) (ho : Only S w w') (hb : ¬ S b) : MapV Q w' b n P := by
  obtain ⟨D, h1, h2⟩ := h.own
  exact ⟨h.sorted, D, ownsMap_only h1 ho hb, h2⟩
theorem mapV_made (Q : Value → K → Prop) (w : World) : MapV Q (w.alloc (.map #[] 0)) w.heap.size 0 [] :=
  ⟨List.Pairwise.nil, .map [], World.ownsMap_made _ _ _ _, Reads.nil Q⟩

theorem keys_of {D : DataW Value} (h1 : w.ownsMap Tryz.prog 9 rv b n D) (h2 : Reads Q D P) (hs : Sorted P) : (keys P).Perm (strKeys D) := by
  obtain ⟨es, rfl, hk⟩ := h1.keysOf
  obtain ⟨es', e', hp⟩ := h1.tidy law
  cases e'
  refine perm_strKeys hp (fun p hp' => ?_) (keys_nodup hs) (fun x => ?_)
  · obtain ⟨key, hkey⟩ := hk p hp'
    obtain ⟨x, _, hx, _⟩ := Maps.keyOf_str Tryz.underlying9 hkey
    exact ⟨x, hx⟩
  · rw [h2.has, mem_keys hs]

theorem size_of {D : DataW Value} (h1 : w.ownsMap Tryz.prog 9 rv b n D) (h2 : Reads Q D P) (hs : Sorted P) : Maps.size D = P.length := by
  have hp := keys_of h1 h2 hs
  obtain ⟨es, rfl, hk⟩ := h1.keysOf
  have := hp.length_eq
  simp only [keys, strKeys, List.length_map] at this
  exact this.symm
theorem MapV.size_le (h : MapV Q w b n P) : P.length ≤ n := by
  obtain ⟨D, h1, h2⟩ := h.own
  rw [← size_of h1 h2 h.sorted]
  exact h1.size_le
theorem MapV.keys_le (h : MapV Q w b n P) : ∀ k ∈ keys P, k.length ≤ maxLen := by
  obtain ⟨D, h1, h2⟩ := h.own
  intro k hk
  have hm := (keys_of h1 h2 h.sorted).mem_iff.1 hk
  obtain ⟨es, rfl, hks⟩ := h1.keysOf
  obtain ⟨p, hp, rfl⟩ := List.mem_map.1 hm
  obtain ⟨key, hkey⟩ := hks p hp
  obtain ⟨x, _, hx, hl⟩ := Maps.keyOf_str Tryz.underlying9 hkey
  rw [hx]
  exact hl
end

section
variable {w : World} {ops : Array Oper} {rest : List Oper} {o : Oper} {a : Act} {Q' : Exit → Act → World → Prop} {Q : Value → K → Prop} {b n : Nat} {P : Prs}

theorem atKey_held {D : DataW Value} {k : K} {z v : Value} {ps : List MemPlace} (h : rv v = some (D.atKey (.string k) (.held z), ps)) : D.atKey (.string k) (.held z) = .held v := by
  unfold rv at h
  simp only [Option.some.injEq, Prod.mk.injEq] at h
  exact h.1.symm

/-- 'v, ok := m[k]', the key is there -/
theorem wpList_hit_ok (hg : o.guard = none) (m x : Operand) (t e : TypeId) (z : Value) (hop : o.op = Op.lookup t m x true) (ht : Tryz.prog.underlying t = some (.map 9 e)) (hz : (zeroValue e).run Tryz.prog w = .ok z w)
    (hm : a.eval m = .map (some b)) (h : MapV Q w b n P) (k bs : K) (hx : a.eval x = encStr k) (hk : k.length ≤ maxLen) (hget : get P k = some bs)
    (hK : ∀ v, Q v bs → wpList Tryz.prog ops Q' rest (a.put o.dst (.tuple #[v, .bool true])) w) : wpList Tryz.prog ops Q' (o :: rest) a w := by
  obtain ⟨D, h1, h2⟩ := h.own
  refine wpList_lookup_own_ok w hg m x t hop 9 e law ht rv hz (.held z) [] rfl b n D hm h1 _ _ hx (keyOf_enc k hk) ?_
  intro v ps hv
  obtain ⟨u, hu, hq⟩ := h2.at' k bs hget
  rw [h2.has, hget]
  have := atKey_held hv
  rw [hu] at this
  cases this
  exact hK _ hq
theorem wpList_miss_ok (hg : o.guard = none) (m x : Operand) (t e : TypeId) (z : Value) (hop : o.op = Op.lookup t m x true) (ht : Tryz.prog.underlying t = some (.map 9 e)) (hz : (zeroValue e).run Tryz.prog w = .ok z w)
    (hm : a.eval m = .map (some b)) (h : MapV Q w b n P) (k : K) (hx : a.eval x = encStr k) (hk : k.length ≤ maxLen) (hget : get P k = none)
    (hK : wpList Tryz.prog ops Q' rest (a.put o.dst (.tuple #[z, .bool false])) w) : wpList Tryz.prog ops Q' (o :: rest) a w := by
  obtain ⟨D, h1, h2⟩ := h.own
  refine wpList_lookup_own_ok w hg m x t hop 9 e law ht rv hz (.held z) [] rfl b n D hm h1 _ _ hx (keyOf_enc k hk) ?_
  intro v ps hv
  have hh := h2.has k
  rw [hget] at hh
  rw [hh]
  have := atKey_held hv
  rw [atKey_of_not_has hh] at this
  cases this
  exact hK
/-- 'm[k]', the key is there -/
theorem wpList_hit (hg : o.guard = none) (m x : Operand) (t e : TypeId) (z : Value) (hop : o.op = Op.lookup t m x false) (ht : Tryz.prog.underlying t = some (.map 9 e)) (hz : (zeroValue e).run Tryz.prog w = .ok z w)
    (hm : a.eval m = .map (some b)) (h : MapV Q w b n P) (k bs : K) (hx : a.eval x = encStr k) (hk : k.length ≤ maxLen) (hget : get P k = some bs)
    (hK : ∀ v, Q v bs → wpList Tryz.prog ops Q' rest (a.put o.dst v) w) : wpList Tryz.prog ops Q' (o :: rest) a w := by
  obtain ⟨D, h1, h2⟩ := h.own
  refine wpList_plain hg fun K' hK' => ?_
  obtain ⟨v, ps, hrun, hv⟩ := h1.lookup law ht hz (zd := .held z) (zp := []) rfl (keyOf_enc k hk)
  obtain ⟨u, hu, hq⟩ := h2.at' k bs hget
  have := atKey_held hv
  rw [hu] at this
  cases this
  unfold Oper.wp
  simp [execOp, hop, hm, hx, hrun, Result.andThen]
  exact hK' _ _ (hK _ hq)

theorem wpList_mput (hg : o.guard = none) (m x v : Operand) (t e : TypeId) (hop : o.op = Op.mapUpdate t m x v) (ht : Tryz.prog.underlying t = some (.map 9 e))
    (hm : a.eval m = .map (some b)) (h : MapV Q w b n P) (hn : n < maxLen) (k bs : K) (val : Value) (hx : a.eval x = encStr k) (hv : a.eval v = val) (hk : k.length ≤ maxLen) (hq : Q val bs)
    (hK : ∀ w', MapV Q w' b (n + 1) (put k bs P) → w.grownBy w' (some b) → wpList Tryz.prog ops Q' rest (a.put o.dst undef) w') : wpList Tryz.prog ops Q' (o :: rest) a w := by
  obtain ⟨D, h1, h2⟩ := h.own
  refine wpList_mapUpdate_own w hg m x v t hop 9 e law ht rv b n D hm h1 hn _ _ _ hx hv (keyOf_enc k hk) (.held val) [] rfl ?_
  intro w' hown hgr
  exact hK w' ⟨sorted_put _ _ h.sorted, _, hown, h2.put h1.isMap k hq⟩ hgr

theorem step_mput {K' : Act → World → Prop} {E : Prop} (hg : o.guard = none) (m x v : Operand) (t e : TypeId) (hop : o.op = Op.mapUpdate t m x v) (ht : Tryz.prog.underlying t = some (.map 9 e))
    (hm : a.eval m = .map (some b)) (h : MapV Q w b n P) (hn : n < maxLen) (k bs : K) (val : Value) (hx : a.eval x = encStr k) (hv : a.eval v = val) (hk : k.length ≤ maxLen) (hq : Q val bs)
    (hK : ∀ w', MapV Q w' b (n + 1) (put k bs P) → w.grownBy w' (some b) → K' (a.put o.dst undef) w') : if Region.wanted o (yielded ops a.tmps) = true then Oper.wp Tryz.prog o a w K' Q' else E := by
  have hw : Region.wanted o (yielded ops a.tmps) = true := by simp [Region.wanted, hg]
  rw [if_pos hw]
  obtain ⟨D, h1, h2⟩ := h.own
  obtain ⟨w', hrun, r1, r2⟩ := h1.update law ht hn (keyOf_enc k hk) (d := .held val) (ps := []) (val := val) rfl
  unfold Oper.wp
  simp [execOp, hop, hm, hx, hv, hrun, Result.andThen]
  exact hK w' ⟨sorted_put _ _ h.sorted, _, r1, h2.put h1.isMap k hq⟩ r2

theorem wpList_mdel (hg : o.guard = none) (m x : Operand) (t e : TypeId) (hop : o.op = Op.call { callee := Callee.builtin Builtin.delete, args := #[m, x], argTypes := #[t, 9] }) (ht : Tryz.prog.underlying t = some (.map 9 e))
    (hm : a.eval m = .map (some b)) (h : MapV Q w b n P) (k : K) (hx : a.eval x = encStr k) (hk : k.length ≤ maxLen)
    (hK : ∀ w', MapV Q w' b n (del k P) → w.grownBy w' (some b) → wpList Tryz.prog ops Q' rest (a.put o.dst (.tuple #[])) w') : wpList Tryz.prog ops Q' (o :: rest) a w := by
  obtain ⟨D, h1, h2⟩ := h.own
  refine wpList_delete_own w hg m x t 9 hop e law ht rv b n D hm h1 _ _ hx (keyOf_enc k hk) ?_
  intro w' hown hgr
  exact hK w' ⟨sorted_del _ h.sorted, _, hown, h2.del k⟩ hgr.grown

theorem wpList_mlen (hg : o.guard = none) (m : Operand) (t e : TypeId) (hop : o.op = Op.call { callee := Callee.builtin Builtin.len, args := #[m], argTypes := #[t] }) (ht : Tryz.prog.underlying t = some (.map 9 e))
    (hm : a.eval m = .map (some b)) (h : MapV Q w b n P) (hK : wpList Tryz.prog ops Q' rest (a.put o.dst (.int .i64 P.length)) w) : wpList Tryz.prog ops Q' (o :: rest) a w := by
  obtain ⟨D, h1, h2⟩ := h.own
  refine wpList_len_own w hg m t hop 9 e ht rv b n D hm h1 ?_
  rw [size_of h1 h2 h.sorted]
  exact hK
end

end St
end Go.Proofs.YtmcobkcnpnfobaaGreat

namespace Go.Proofs.YtmcobkcnpnfobaaGreat
open Go.RowKit Go.Maps
set_option linter.unusedSimpArgs false
set_option linter.unusedVariables false

namespace St

/-- values: bytes in blocks such as V tells -/
def VQ (V : Nat → Prop) (w : World) (v : Value) (bs : K) : Prop := Has w v bs ∧ (bs ≠ [] → ∀ j, blk v = some j → V j)

/-- block mb is a map of these pairs -/
def MapAt (V : Nat → Prop) (w : World) (mb n : Nat) (P : Prs) : Prop := MapV (VQ V w) w mb n P

theorem VQ.only {V S : Nat → Prop} {w w' : World} {v : Value} {bs : K} (h : VQ V w v bs) (ho : Only S w w') (hS : ∀ k, k < w.heap.size → V k → ¬ S k) : VQ V w' v bs :=
  ⟨h.1.only ho (fun hne k hk => hS k (h.1.blk_lt hne k hk) (h.2 hne k hk)), h.2⟩
theorem VQ.mono {V U : Nat → Prop} {w : World} {v : Value} {bs : K} (h : VQ V w v bs) (hU : ∀ k, k < w.heap.size → V k → U k) : VQ U w v bs :=
  ⟨h.1, fun hne k hk => hU k (h.1.blk_lt hne k hk) (h.2 hne k hk)⟩

section
variable {V U S : Nat → Prop} {w w' : World} {mb n : Nat} {P : Prs}
theorem MapAt.only (h : MapAt V w mb n P) (ho : Only S w w') (hb : ¬ S mb) (hS : ∀ k, k < w.heap.size → V k → ¬ S k) : MapAt V w' mb n P :=
  (MapV.only h ho hb).mono (fun v bs hq => hq.only ho hS)
theorem MapAt.same (h : MapAt V w mb n P) (ho : Only (fun _ => False) w w') : MapAt V w' mb n P := h.only ho (fun e => e) (fun _ _ _ e => e)
theorem MapAt.mono (h : MapAt V w mb n P) (hU : ∀ k, k < w.heap.size → V k → U k) : MapAt U w mb n P := MapV.mono h (fun v bs hq => hq.mono hU)
theorem MapAt.more (h : MapAt V w mb n P) {m : Nat} (hm : n ≤ m) : MapAt V w mb m P := MapV.more h hm
theorem MapAt.lt (h : MapAt V w mb n P) : mb < w.heap.size := MapV.lt h
/-- the map itself has turned -/
theorem MapAt.turned (h : MapV (VQ V w) w' mb n P) (ho : Only S w w') (hS : ∀ k, k < w.heap.size → V k → ¬ S k) : MapAt V w' mb n P := MapV.mono h (fun v bs hq => hq.only ho hS)
end

theorem done_take {cs : List Chg} {k : Nat} (hk : k < cs.length) (P : Prs) : done P (cs.take (k + 1)) = one (done P (cs.take k)) cs[k] := by
  rw [List.take_succ_eq_append_getElem hk, done_append]
  rfl

set_option maxHeartbeats 2000000 in
set_option maxRecDepth 100000 in
theorem do_any {V Q : Nat → Prop} {w : World} {mb m : Nat} {P : Prs} (h : MapAt V w mb m P) (xv : Value) (cs : List Chg) (hx : HasC Q w xv cs) (hV : ∀ k, w.heap.size ≤ k → V k) (hVm : ¬ V mb) (hQm : ¬ Q mb)
    (hn : m + cs.length < 9223372036854775807) (hcs : cs.length ≤ 140737488355328) (hok : ∀ c ∈ cs, c.key.length ≤ 9223372036854775807 ∧ c.value.length ≤ 140737488355328) :
    Calls Tryz.prog 47 #[.map (some mb), xv] w fun e w' => e = .returned (.tuple #[]) ∧ MapAt V w' mb (m + cs.length) (done P cs) ∧ Only (fun k => k = mb) w w' := by
  have HX := hide hx
  obtain ⟨xo, xc, hxv, hlc, hmc⟩ := hx.shape
  subst hxv
  have H := hide h
  have HOK := hide hok
  have hlt0 := h.lt
  clear hx h hok
  obtain ⟨n, hnn⟩ : ∃ n, n = cs.length := ⟨_, rfl⟩
  have HN := hide hnn
  rw [← hnn] at HX hlc hn hcs ⊢
  have HV := hide hV
  have HVM := hide hVm
  have HQM := hide hQm
  clear hnn hV hVm hQm
  go_enter Tryz.func47, Tryz.ntmps47
  go_wp2
  go_loopw [8] (fun i wr => ∃ k : Nat, k ≤ n ∧ i = .int .i64 k ∧ MapAt V wr mb (m + k) (done P (cs.take k)) ∧ Only (fun k => k = mb) w wr) (fun i _ => n - (intOf i).toNat)
  case atStart => exact ⟨0, Nat.zero_le _, rfl, unhide H, Only.refl _ _⟩
  case round =>
    obtain ⟨k, hk, rfl, hm, ho⟩ := hrel
    have HM := hide hm
    have HO := hide ho
    have hs := ho.size
    clear hm ho
    by_cases hlt : k < n
    · have hku : k < cs.length := by have := unhide HN; omega
      have hlt' : (k : Int) < n := by omega
      obtain ⟨bb, off, x, hao, hc0, hc1, hc2, hxh, hxq⟩ := ((unhide HX).only (unhide HO) (fun j _ hq e => unhide HQM (by rw [← e]; exact hq))).at k hku
      subst hao
      have HXH := hide hxh
      have HDT := hide (done_take hku P)
      have hokk := unhide HOK cs[k] (List.getElem_mem hku)
      obtain ⟨c, hc⟩ : ∃ c, c = cs[k] := ⟨_, rfl⟩
      rw [← hc] at hc0 hc1 HDT HXH hokk
      clear hc hxh hxq
      obtain ⟨key, has, value⟩ := c
      simp only at hc0 hc1 HXH hokk
      obtain ⟨yo, yc, hyv, _⟩ := (unhide HXH).shape
      subst hyv
      cases has with
      | true =>
        have HON : Hid (one (done P (cs.take k)) ⟨key, true, value⟩ = put key value (done P (cs.take k))) := rfl
        go_wp2
        have hB := heap_alloc_new wr (.cells #[encStr key, .bool true, .slice yo value.length yc] 39)
        have oA := (Only.refl (fun _ => False) wr).alloc (.cells #[encStr key, .bool true, .slice yo value.length yc] 39)
        generalize (wr.alloc (.cells #[encStr key, .bool true, .slice yo value.length yc] 39)) = wa at *
        obtain ⟨k0, k1, k2, kf⟩ := cells_3 hB
        have HMA := hide ((unhide HM).same oA)
        have HOA := hide ((unhide HO).trans (oA.mono (T := fun k => k = mb) (fun _ _ e => e.elim)) (fun _ _ e => e))
        have HXA := hide ((unhide HXH).only oA (fun _ _ _ e => e))
        have hsa := oA.size
        have HF := hide (fun (w' : World) (o : Only (fun _ => False) wa w') => fresh_any _ value w' ((unhide HXA).only o (fun _ _ _ e => e)) hokk.2)
        have HB := hide hB
        clear hB oA hc0 hc1 hc2
        refine wp_region_held_drew (S := (fun w' => w'.cell? ⟨wr.heap.size, 0, none⟩ = some (encStr key) ∧ w'.cell? ⟨wr.heap.size, 2, none⟩ = some (.slice yo value.length yc))) (by kernel_rfl) (⟨k0, k2⟩) (fun hHeld => ?_)
        refine wpAnyH_take (i := 0) (v := ?v1) rfl (by kernel_rfl) (by kernel_rfl) (by kernel_rfl) (fun _ _ _ h => h) (Or.inl ⟨by rfl, ?hy1⟩) (by assumption) ?rest1
        case hy1 =>
          intro w hSw
          go_simp
          try with_reducible rfl
        try simp only [Act.put, List.setIfInBounds_toArray, List.set_cons_zero, List.set_cons_succ, List.getElem_toArray, List.getElem_cons_succ, List.getElem_cons_zero]
        refine wpAnyH_take (i := 1) (v := ?v2) rfl (by kernel_rfl) (by kernel_rfl) (by kernel_rfl) (fun _ _ _ h => h) (Or.inl ⟨by rfl, ?hy2⟩) (by assumption) ?rest2
        case hy2 =>
          intro w hSw
          go_simp
          try with_reducible rfl
        try simp only [Act.put, List.setIfInBounds_toArray, List.set_cons_zero, List.set_cons_succ, List.getElem_toArray, List.getElem_cons_succ, List.getElem_cons_zero]
        refine wpAnyH_take (i := 2) (v := ?v3) rfl (by kernel_rfl) (by kernel_rfl) (by kernel_rfl) (fun _ _ _ h => h) (Or.inl ⟨by rfl, ?hy3⟩) (by assumption) ?rest3
        case hy3 =>
          intro w hSw
          (obtain ⟨q0, q2⟩ := hSw; go_simp; try with_reducible rfl)
        try simp only [Act.put, List.setIfInBounds_toArray, List.set_cons_zero, List.set_cons_succ, List.getElem_toArray, List.getElem_cons_succ, List.getElem_cons_zero]
        refine wpAnyH_take (i := 3) (v := ?v4) rfl (by kernel_rfl) (by kernel_rfl) (by kernel_rfl) (fun _ _ _ h => h) (Or.inl ⟨by rfl, ?hy4⟩) (by assumption) ?rest4
        case hy4 =>
          intro w hSw
          go_simp
          try with_reducible rfl
        try simp only [Act.put, List.setIfInBounds_toArray, List.set_cons_zero, List.set_cons_succ, List.getElem_toArray, List.getElem_cons_succ, List.getElem_cons_zero]
        refine wpAnyH_take (i := 4) (v := ?v5) rfl (by kernel_rfl) (by kernel_rfl) (by kernel_rfl) (fun _ _ _ h => h) (Or.inl ⟨by rfl, ?hy5⟩) (by assumption) ?rest5
        case hy5 =>
          intro w hSw
          (obtain ⟨q0, q2⟩ := hSw; go_simp; try with_reducible rfl)
        try simp only [Act.put, List.setIfInBounds_toArray, List.set_cons_zero, List.set_cons_succ, List.getElem_toArray, List.getElem_cons_succ, List.getElem_cons_zero]
        refine wpAnyH_ready (rs := [5]) (by kernel_rfl) (by simp) ?_
        refine AllReadyH.cons rfl (fun K hK => ?_) AllReadyH.nil
        go_simp
        go_wp2_with fail; refine (unhide HF _ ((Only.refl _ _).drew)).mono ?_; rintro e w1 ⟨u1, rfl, hu1, o1d⟩; have o1 : Only (fun _ => False) wa w1 := ((Only.refl _ _).drew).trans o1d (fun _ _ e => e); have HU1 := hide hu1; have HO1 := hide o1
        refine hK.out _ _ (⟨(o1.cell k0 (fun e => e)), (o1.cell k2 (fun e => e))⟩) (fun hHeld => ?_)
        clear hK K
        try simp only [Act.put, List.setIfInBounds_toArray, List.set_cons_zero, List.set_cons_succ, List.getElem_toArray, List.getElem_cons_succ, List.getElem_cons_zero]
        have hM1 : MapAt V w1 mb (m + k) (done P (cs.take k)) := (unhide HMA).same o1
        have hq1 : VQ V w1 u1 value := ⟨Has.ofOwns hu1.out, fun _ j hj => unhide HV j (by have h1 := owns_blk hu1 j hj; have h2 : wr.heap.size ≤ wa.drew.heap.size := hsa; omega)⟩
        have hr1 := o1.cell k0 (fun e => e)
        have hr2 := o1.cell k2 (fun e => e)
        have hlt1 : wr.heap.size ≠ mb := by omega
        refine wpAnyH_ready (rs := [6]) (by kernel_rfl) (by simp) ?_
        refine AllReadyH.cons rfl (fun K hK => ?_) AllReadyH.nil
        refine step_mput rfl (.tmp 14) (.tmp 16) (.tmp 19) 89 24 rfl Tryz.underlying89 rfl hM1 (by unfold maxLen; omega) key value u1 rfl rfl (by unfold maxLen; omega) hq1 ?_; intro w2 hm2 g2
        refine hK.out _ _ (⟨((Only.refl (fun k => k = mb) w1).grown g2 (fun k hk _ => by cases hk; rfl)).cell hr1 hlt1, ((Only.refl (fun k => k = mb) w1).grown g2 (fun k hk _ => by cases hk; rfl)).cell hr2 hlt1⟩) (fun hHeld => ?_)
        clear hK K
        try simp only [Act.put, List.setIfInBounds_toArray, List.set_cons_zero, List.set_cons_succ, List.getElem_toArray, List.getElem_cons_succ, List.getElem_cons_zero]
        refine wpAnyH_done (by kernel_rfl) ?_ _
        have o2 : Only (fun k => k = mb) w1 w2 := (Only.refl (fun k => k = mb) w1).grown g2 (fun k hk _ => by cases hk; rfl)
        have HM2 := hide (MapAt.turned hm2 o2 (fun j _ hv e => unhide HVM (by rw [← e]; exact hv)))
        have HO2 := hide (((unhide HOA).trans (o1.mono (T := fun k => k = mb) (fun _ _ e => e.elim)) (fun _ _ e => e)).trans o2 (fun _ _ e => e))
        clear o1 o2 hm2 g2 hM1 hq1 hr1 hr2 hu1 o1d
        go_wp2
        go_roundw
        case rel =>
          refine ⟨k + 1, by omega, by go_num, ?_, unhide HO2⟩
          rw [unhide HDT, unhide HON]
          exact unhide HM2
        case measure => simp [intOf]; omega
      | false =>
        have HON : Hid (one (done P (cs.take k)) ⟨key, false, value⟩ = del key (done P (cs.take k))) := rfl
        have hMa : ∀ o, MapAt V (wr.alloc o) mb (m + k) (done P (cs.take k)) := fun o => (unhide HM).same ((Only.refl _ _).alloc o)
        go_wp2_with (at_delete; refine wpList_mdel rfl (.tmp 20) (.tmp 22) 89 24 rfl Tryz.underlying89 rfl (hMa _) key rfl (by unfold maxLen; omega) ?_; intro w2 hm2 g2)
        have oA := (Only.refl (fun _ => False) wr).alloc (.cells #[encStr key, .bool false, .slice yo value.length yc] 39)
        have o2 : Only (fun k => k = mb) (wr.alloc (.cells #[encStr key, .bool false, .slice yo value.length yc] 39)) w2 := (Only.refl (fun k => k = mb) _).grown g2 (fun k hk _ => by cases hk; rfl)
        refine ⟨⟨k + 1, by omega, by go_num, ?_, ((unhide HO).trans (oA.mono (T := fun k => k = mb) (fun _ _ e => e.elim)) (fun _ _ e => e)).trans o2 (fun _ _ e => e)⟩, by simp [intOf]; omega⟩
        rw [unhide HDT, unhide HON]
        exact (MapAt.turned hm2 o2 (fun j _ hv e => unhide HVM (by rw [← e]; exact hv))).more (by omega)
    · obtain rfl : n = k := by omega
      have htk : cs.take n = cs := List.take_of_length_le (by have := unhide HN; omega)
      rw [htk] at HM
      go_wp2
      go_end0
      exact ⟨rfl, unhide HM, unhide HO⟩
end St
end Go.Proofs.YtmcobkcnpnfobaaGreat

namespace Go.Proofs.YtmcobkcnpnfobaaGreat
open Go.RowKit Go.Maps
set_option linter.unusedSimpArgs false
set_option linter.unusedVariables false

namespace St

theorem ranges_only {S : Nat → Prop} {w w' : World} {b r n cnt : Nat} {D : DataW Value} {left : Lit → Bool} (h : w.ranges Tryz.prog 9 rv b r n D left cnt) (ho : Only S w w') (hb : ¬ S b) (hr : ¬ S r) : w'.ranges Tryz.prog 9 rv b r n D left cnt := by
  obtain ⟨es, clock, since, seen, c0, e1, e2, e3, e4, e5, rest⟩ := h
  exact ⟨es, clock, since, seen, c0, ho.heap e1 hb, e2, e3, e4, ho.heap e5 hr, rest⟩

theorem ranges_row {w : World} {b r n cnt : Nat} {D : DataW Value} {left : Lit → Bool} (h : w.ranges Tryz.prog 9 rv b r n D left cnt) {base e size k : Nat} {v : Value} {xs : List Value} (ho : w.ownsRow base e size v k xs) : ∀ g, v.ownBlock = some g → g ≠ r := by
  obtain ⟨es, clock, since, seen, c0, e1, e2, e3, e4, e5, rest⟩ := h
  intro g hg e
  subst e
  rcases ho.2 with ⟨rfl, _⟩ | ⟨g', cap, cur, rfl, hb, hh, _⟩
  · cases hg
  · simp only [Value.ownBlock, Option.some.injEq] at hg
    subst hg
    rw [e5] at hh
    cases hh

set_option maxHeartbeats 2000000 in
set_option maxRecDepth 100000 in
theorem inOrder_any {V : Nat → Prop} {w : World} {mb m : Nat} {P : Prs} (h : MapAt V w mb m P) (hn : m ≤ 1000000000) :
    Calls Tryz.prog 83 #[.map (some mb)] w fun e w' => ∃ u, e = .returned u ∧ w'.ownsRow w.heap.size 9 1 u P.length ((keys P).map encStr) ∧ Only (fun _ => False) w w' := by
  have H := hide h
  have hP := h.size_le
  obtain ⟨D, h1, h2⟩ := MapV.own h
  have HD := hide h1
  have HR := hide h2
  have hlt0 := h1.lt
  clear h h1 h2
  go_enter Tryz.func83, Tryz.ntmps83
  have hB1 : ((w.alloc (.cells #[] 9)).alloc (.cells #[.slice (some ⟨w.heap.size, 0, none⟩) 0 0] 140)).heap[w.heap.size + 1]? = some (.cells #[.slice (some ⟨w.heap.size, 0, none⟩) 0 0] 140 (0, 0)) := by
    have := heap_alloc_new (w.alloc (.cells #[] 9)) (.cells #[.slice (some ⟨w.heap.size, 0, none⟩) 0 0] 140)
    simpa using this
  have oAA : Only (fun _ => False) w ((w.alloc (.cells #[] 9)).alloc (.cells #[.slice (some ⟨w.heap.size, 0, none⟩) 0 0] 140)) := ((Only.refl _ _).alloc _).alloc _
  have hown0 : (w.alloc (.cells #[] 9)).ownsRow 0 9 1 (.slice (some ⟨w.heap.size, 0, none⟩) 0 0) 0 [] := World.ownsRow_lit w #[] 0 (Nat.zero_le _) (Nat.zero_le _) rfl
  have hHp : HpAt ((w.alloc (.cells #[] 9)).alloc (.cells #[.slice (some ⟨w.heap.size, 0, none⟩) 0 0] 140)) (w.heap.size + 1) (.slice (some ⟨w.heap.size, 0, none⟩) 0 0) [] := ⟨hB1, hown0.alloc _⟩
  have HHP := hide hHp
  have HOA := hide oAA
  have hDA := ownsMap_only (unhide HD) oAA (fun e => e)
  clear hB1 hown0 hHp oAA
  go_wp2_with (at_range; refine wpList_range_own _ rfl (.tmp 8) 89 rfl 9 24 law Tryz.underlying89 rv mb m D rfl hDA ?_; intro w0 hrg0 hg0 hs0)
  go_frame
  have hszA : ((w.alloc (.cells #[] 9)).alloc (.cells #[.slice (some ⟨w.heap.size, 0, none⟩) 0 0] 140)).heap.size = w.heap.size + 2 := by simp
  rw [hszA] at hrg0 hs0 ⊢
  have o0 := (Only.refl (fun _ => False) _).grown hg0 (fun k hk _ => by cases hk)
  have HRG := hide hrg0
  have HH0 := hide ((unhide HHP).same o0)
  have HO0 := hide ((unhide HOA).trans o0 (fun _ _ e => e))
  clear hrg0 hg0 hs0 o0 hszA hDA
  go_loopw [4] (fun _ wr => ∃ (left : Lit → Bool) (cnt : Nat) (ss ys : List K) (hv : Value), wr.ranges Tryz.prog 9 rv mb (w.heap.size + 2) m D left cnt ∧ Collected D left ss ∧ ss.length + cnt ≤ Maps.size D ∧ HpAt wr (w.heap.size + 1) hv ys ∧ Hp.Heap ys ys.length ∧ ys.Perm ss ∧ (∀ k, hv.ownBlock = some k → w.heap.size ≤ k) ∧ Only (fun _ => False) w wr) (fun _ wr => wr.rangeLeft mb (w.heap.size + 2))
  case atStart => exact ⟨_, _, [], [], _, unhide HRG, Collected.start D, by simp, unhide HH0, (fun i _ hi => by simp at hi), List.Perm.refl _, (fun k hk => by simp [Value.ownBlock] at hk; omega), unhide HO0⟩
  case round =>
    obtain ⟨left, cnt, ss, ys, hv, hrg, hC, hcn, hp, hh, hpm, hvb, hon⟩ := hrel
    have HC := hide hC
    have HP := hide hp
    have HHE := hide hh
    have HPM := hide hpm
    have HVB := hide hvb
    have HON := hide hon
    have HRG1 := hide hrg
    clear hC hp hh hpm hvb hon
    go_wp2_with (at_next; refine wpList_next_ranges _ rfl (.tmp 9) rfl 9 law rv encStr (fun v : Value => v) (fun key kl hk => by obtain ⟨x, hx, _⟩ := Maps.keyOf_str Tryz.underlying9 hk; exact ⟨x, hx⟩) (fun v y _ => ⟨v, rfl⟩) mb (w.heap.size + 2) m D left cnt rfl hrg ?_ ?_)
    · intro hc0 hl0
      have hmw : MapAt V wr mb m P := (unhide H).same (unhide HON)
      clear hrg
      have hon' := (unhide HON).size
      have hPP : P.length ≤ 1000000000 := by omega
      obtain ⟨i1, hi1, hz10, hz11, hz12⟩ := info_parts Tryz.info9
      have hpk : Hid (ys.Perm (keys P)) := ((unhide HPM).trans ((unhide HC).perm (unhide HRG1).owns law Tryz.underlying9 hl0)).trans (keys_of (unhide HD) (unhide HR) (MapV.sorted (unhide H))).symm
      clear hc0 hl0
      go_wp2_with (first
        | (at_len; refine wpList_mlen rfl (.tmp 19) 89 24 rfl Tryz.underlying89 rfl hmw ?_)
        | (at_make; refine wpList_make_own _ rfl (.const (.int .i64 0)) (.tmp 20) 136 rfl wr.heap.size 9 i1 _ 1 Tryz.underlying136 hi1 hz10 hz11 .i64 .i64 P.length P.length rfl rfl rfl (by rw [hz12]; omega) (by unfold maxLen; omega) (Nat.le_refl _) ?_; intro w3 own3 gr3))
      have o3 : Only (fun _ => False) wr w3 := (Only.refl (fun _ => False) wr).grown gr3 (fun k hk _ => by cases hk)
      have hs3 := o3.size
      have HH3 := hide ((unhide HP).same o3)
      have HO3 := hide ((unhide HON).trans o3 (fun _ _ e => e))
      have HOW3 := hide own3
      have hHl := ((unhide HP).own.lt)
      have HHL := hide hHl
      have HPL : Hid ((keys P).length ≤ 1000000000) := by show (keys P).length ≤ _; rw [keys, List.length_map]; omega
      clear own3 gr3 o3 hHl hmw
      go_loopg [5] ys.length (fun gk kv wq => ∃ (out zs : List K) (hv : Value), zs.length ≤ gk ∧ HpAt wq (w.heap.size + 1) hv zs ∧ Hp.Heap zs zs.length ∧ wq.ownsRow wr.heap.size 9 1 kv out.length (out.map encStr) ∧ (∀ k, hv.ownBlock = some k → w.heap.size ≤ k ∧ kv.ownBlock ≠ some k) ∧ Hid (out.Pairwise (· ≤ ·) ∧ (∀ a ∈ out, ∀ b ∈ zs, a ≤ b) ∧ (out ++ zs).Perm (keys P)) ∧ Only (fun _ => False) w wq ∧ wr.heap.size ≤ wq.heap.size)
      case atStart => exact ⟨[], ys, hv, Nat.le_refl _, unhide HH3, unhide HHE, unhide HOW3, fun k hk => ⟨unhide HVB k hk, fun e => by have := (unhide HHL k hk).2; simp [Value.ownBlock] at e; omega⟩, ⟨List.Pairwise.nil, fun a ha => (by cases ha), unhide hpk⟩, unhide HO3, hs3⟩
      case round =>
        obtain ⟨out, zs, hv5, hgk, hp5, hh5, how5, hvb5, HS, hon5, hsz5⟩ := hrel
        have hc5 := hp5.cell.1
        have HL5 := hide (len_any0 hp5)
        have HP5 := hide hp5
        have HH5 := hide hh5
        have HW5 := hide how5
        have HV5 := hide hvb5
        have HO5 := hide hon5
        have hone := ownsRow_one hp5.own
        have hpl := (unhide HS).2.2.length_eq
        rw [List.length_append] at hpl
        have hple := unhide HPL
        have hol : out.length + zs.length ≤ 1000000000 := by omega
        obtain ⟨ko, kc, hkv⟩ := ownsRow_shape how5
        subst hkv
        clear hp5 hh5 how5 hvb5 hon5 hpl hple
        by_cases hz : zs = []
        · have hz0 : zs.length = 0 := by rw [hz]; rfl
          go_wp2_with fail
          refine (unhide HL5).mono ?_
          rintro e w6 ⟨rfl, rfl⟩
          go_wp2
          go_ret
          have hout : out = keys P := Hp.sorted_unique (by have := (unhide HS).2.2; rw [hz, List.append_nil] at this; exact this) (unhide HS).1 (keys_sorted (MapV.sorted (unhide H)))
          refine ⟨_, rfl, ?_, unhide HO5⟩
          have h6 := ownsRow_base (unhide HW5) hon'
          rw [← hout]
          have e1 : P.length = out.length := by rw [hout, keys, List.length_map]
          rw [e1]
          exact h6
        · have hzp : 0 < zs.length := List.length_pos_iff.2 hz
          have hzp' : (0 : Int) < zs.length := by omega
          have hta := assert_str
          go_wp2_with fail
          refine (unhide HL5).mono ?_
          rintro e w6 ⟨rfl, rfl⟩
          go_wp2_with fail
          obtain ⟨q, hq⟩ : ∃ q, zs.length = q + 1 := ⟨zs.length - 1, by omega⟩
          refine (hpop_any (unhide HP5) (unhide HH5) q hq (by omega)).mono ?_
          rintro e w7 ⟨x, v7, zs7, rfl, hw7, hp7, hh7, hmin⟩
          have hs7 := hw7.only.size
          have hkb := (unhide HW5).lt
          have how7 : w7.ownsRow wr.heap.size 9 1 (.slice ko out.length kc) out.length (out.map encStr) := hw7.only.owns (unhide HW5) (fun k hk e => by
            rcases e with e | e
            · have := (hkb k hk).1; have := (unhide HP).own; subst e; have := lt_of_block (unhide HP).blk; omega
            · exact (unhide HV5 k e).2 hk)
          have HW7 := hide hw7
          have HOW7 := hide how7
          have HP7 := hide hp7
          have HH7 := hide hh7
          have HMN := hide hmin
          have HKB := hide hkb
          have hzl7 : zs7.length = q := by have := hp7.length_eq; simp at this; omega
          clear hw7 how7 hp7 hh7 hmin hkb
          have hblk7 : ∀ o : Obj, (w7.alloc o).heap[w7.heap.size]? = some o := fun o => heap_alloc_new w7 o
          go_wp2_with (at_builtin; refine wpList_append_hasV rfl (.tmp 27) (.tmp 32) 136 rfl wr.heap.size 9 i1 _ 16 Tryz.underlying136 hi1 hz10 hz11 hz12 rfl _ out.length (out.map encStr) rfl ((unhide HOW7).alloc _) _ [encStr x] rfl (hasV_lit (heap_alloc_new _ _) (by unfold maxLen; simp)) (by simp; rfl) (by unfold maxLen; simp; omega) (by simp; omega) (by simp; omega) ?_; intro ao8 cap8 w8 own8 gr8 at8)
          have o78 : Only (fun k => (Value.slice ko out.length kc).ownBlock = some k) w7 w8 := ((Only.refl _ _).alloc _).grown gr8 (fun k hk _ => hk)
          have hs8 := o78.size
          have at8' : (Value.slice ao8 (out.length + 1) cap8).ownBlock = (Value.slice ko out.length kc).ownBlock ∨ (Value.slice ao8 (out.length + 1) cap8).ownBlock = some (w7.heap.size + 1) := by
            rcases at8 with e | e
            · exact Or.inl e
            · exact Or.inr (by simpa using e)
          have hx7 := (unhide HW7).now.only o78 (fun e => by have := (unhide HKB _ e).1; have := lt_of_block (unhide HP).blk; omega) (fun k hk e => by
            rcases (unhide HW7).fresh k hk with e2 | e2
            · exact (unhide HV5 k e2).2 e
            · have := (unhide HKB _ e).2; omega)
          go_roundg zs7.length
          case measure => omega
          case rel =>
            refine ⟨out ++ [x], zs7, v7, Nat.le_refl _, hx7, unhide HH7, by simpa using own8, fun k hk => ?_, ⟨?_, ?_, ?_⟩, ?_, by omega⟩
            · rcases (unhide HW7).fresh k hk with e | e
              · refine ⟨(unhide HV5 k e).1, fun e2 => ?_⟩
                rcases at8' with e3 | e3
                · exact (unhide HV5 k e).2 (by rw [← e3]; simpa using e2)
                · have e4 : some (w7.heap.size + 1) = some k := by rw [← e3]; simpa using e2
                  have := ((unhide HP5).own.lt k e).2
                  simp at e4
                  omega
              · refine ⟨by omega, fun e2 => ?_⟩
                rcases at8' with e3 | e3
                · have e4 : (Value.slice ko out.length kc).ownBlock = some k := by rw [← e3]; simpa using e2
                  have := (unhide HKB k e4).2
                  omega
                · have e4 : some (w7.heap.size + 1) = some k := by rw [← e3]; simpa using e2
                  have := ((unhide HW7).now.own.lt k hk).2
                  simp at e4
                  omega
            · refine List.pairwise_append.2 ⟨(unhide HS).1, List.pairwise_singleton _ _, fun a ha b hb => ?_⟩
              rw [List.mem_singleton.1 hb]
              exact (unhide HS).2.1 a ha x ((unhide HP7).mem_iff.2 (by simp))
            · intro a ha b hb
              have hbz : b ∈ zs := (unhide HP7).mem_iff.2 (by simp [hb])
              rcases List.mem_append.1 ha with ha | ha
              · exact (unhide HS).2.1 a ha b hbz
              · rw [List.mem_singleton.1 ha]
                exact unhide HMN b hbz
            · refine List.Perm.trans ?_ (unhide HS).2.2
              rw [List.append_assoc]
              exact List.Perm.append_left out (unhide HP7).symm
            · exact ((unhide HO5).trans (unhide HW7).only (fun i hi e => by rcases e with e | e; omega; have := (unhide HV5 i e).1; omega)).trans o78 (fun i hi e => by have := (unhide HKB i e).1; omega)
    · intro x c kl yd yp w2 cnt2 hkey hlk hv2 hat hrg2 hlt2 hg2 hs2 hen
      obtain ⟨x', ex, rfl, hxl⟩ := Maps.keyOf_str Tryz.underlying9 hkey
      obtain rfl : x = x' := encStr_inj ex
      have o2 : Only (fun k => k = w.heap.size + 2) wr w2 := (Only.refl _ wr).grown hg2 (fun k hk _ => by cases hk; rfl)
      have hp2 : HpAt w2 (w.heap.size + 1) hv ys := (unhide HP).only o2 (fun e => by omega) (fun k hk e => ranges_row hrg (unhide HP).own k hk e)
      have hyl : ys.length = ss.length := (unhide HPM).length_eq
      have hsD : Maps.size D ≤ 1000000000 := Nat.le_trans (unhide HD).size_le hn
      have HPU := hide (hpush_any hp2 (unhide HHE) x (by omega))
      have HC2 := hide ((unhide HC).step hlk hat)
      have HRG2 := hide hrg2
      have HO2 := hide o2
      have HLE : Hid (w2.rangeLeft mb (w.heap.size + 2) < wr.rangeLeft mb (w.heap.size + 2)) := by show _ < _; rw [hrg2.left_eq, hrg.left_eq]; exact hlt2
      have hsz2 : w2.heap.size = wr.heap.size := hs2
      have hown2 := hp2.own
      have HRW2 := hide (ranges_row hrg2 hown2)
      clear hkey hlk hv2 hat hrg2 hg2 hs2 ex o2 hp2 hrg hown2 hsz2
      go_wp2_with fail
      refine (unhide HPU).mono ?_
      rintro e w4 ⟨rfl, v4, zs, hw4, hpz, hz⟩
      have hon' := (unhide HON).size
      have o24 := (unhide HO2).size
      have hrg4 := ranges_only (unhide HRG2) hw4.only (fun e => by rcases e with e | e; omega; have := unhide HVB mb e; omega) (fun e => by rcases e with e | e; omega; exact unhide HRW2 _ e rfl)
      have HW4 := hide hw4
      have HRG4 := hide hrg4
      have HPZ := hide hpz
      have HZ := hide hz
      have HLE4 : Hid (w4.rangeLeft mb (w.heap.size + 2) < wr.rangeLeft mb (w.heap.size + 2)) := by show _ < _; rw [hrg4.left_eq, ← (unhide HRG2).left_eq]; exact unhide HLE
      clear hw4 hrg4 hpz hz
      go_wp2
      go_roundw
      case rel =>
        refine ⟨_, _, ss ++ [x], zs, v4, unhide HRG4, unhide HC2, by rw [List.length_append, List.length_singleton]; omega, (unhide HW4).now, unhide HZ, ?_, fun k hk => ?_, ?_⟩
        · exact (unhide HPZ).trans ((List.Perm.cons x (unhide HPM)).trans (List.perm_append_singleton _ _).symm)
        · rcases (unhide HW4).fresh k hk with e | e
          · exact unhide HVB k e
          · omega
        · exact ((unhide HON).trans (unhide HO2) (fun i hi e => by omega)).trans (unhide HW4).only (fun i hi e => by rcases e with e | e; omega; have := unhide HVB i e; omega)
      case measure => exact unhide HLE4
end St
end Go.Proofs.YtmcobkcnpnfobaaGreat

namespace Go.Proofs.YtmcobkcnpnfobaaGreat
open Go.RowKit Go.Maps
set_option linter.unusedSimpArgs false
set_option linter.unusedVariables false

namespace St

theorem Tryz.zero24 (w : World) : (zeroValue 24).run Tryz.prog w = .ok (.slice none 0 0) w := by kernel_rfl

theorem allOf_take (P : Prs) (k : Nat) (hk : k < P.length) : (allOf P).take (k + 1) = (allOf P).take k ++ [⟨P[k].1, true, P[k].2⟩] := by
  have hl : k < (allOf P).length := by simp [allOf]; exact hk
  rw [List.take_succ_eq_append_getElem hl]
  simp [allOf]

section
variable {w : World} {ops : Array Oper} {rest : List Oper} {o : Oper} {a : Act} {Q' : Exit → Act → World → Prop} {V : Nat → Prop} {b n : Nat} {P : Prs}
theorem wpList_hitB (hg : o.guard = none) (m x : Operand) (hop : o.op = Op.lookup 89 m x false)
    (hm : a.eval m = .map (some b)) (h : MapAt V w b n P) (k bs : K) (hx : a.eval x = encStr k) (hk : k.length ≤ maxLen) (hget : get P k = some bs)
    (hK : ∀ ao cap, VQ V w (.slice ao bs.length cap) bs → wpList Tryz.prog ops Q' rest (a.put o.dst (.slice ao bs.length cap)) w) : wpList Tryz.prog ops Q' (o :: rest) a w :=
  wpList_hit hg m x _ 24 _ hop Tryz.underlying89 (Tryz.zero24 _) hm h k bs hx hk hget (fun v hq => by
    obtain ⟨ao, cap, rfl, _⟩ := hq.1.shape
    exact hK ao cap hq)
theorem wpList_hitB_ok (hg : o.guard = none) (m x : Operand) (hop : o.op = Op.lookup 89 m x true)
    (hm : a.eval m = .map (some b)) (h : MapAt V w b n P) (k bs : K) (hx : a.eval x = encStr k) (hk : k.length ≤ maxLen) (hget : get P k = some bs)
    (hK : ∀ ao cap, VQ V w (.slice ao bs.length cap) bs → wpList Tryz.prog ops Q' rest (a.put o.dst (.tuple #[.slice ao bs.length cap, .bool true])) w) : wpList Tryz.prog ops Q' (o :: rest) a w :=
  wpList_hit_ok hg m x _ 24 _ hop Tryz.underlying89 (Tryz.zero24 _) hm h k bs hx hk hget (fun v hq => by
    obtain ⟨ao, cap, rfl, _⟩ := hq.1.shape
    exact hK ao cap hq)
end

set_option maxHeartbeats 2000000 in
set_option maxRecDepth 100000 in
theorem allOf_any {V : Nat → Prop} {w : World} {mb m : Nat} {P : Prs} (h : MapAt V w mb m P) (hn : m ≤ 1000000000) :
    Calls Tryz.prog 75 #[.map (some mb)] w fun e w' => ∃ u, e = .returned u ∧ RowC V w.heap.size w' u (allOf P) ∧ Only (fun _ => False) w w' := by
  have H := hide h
  have hP := h.size_le
  have HKL := hide (MapV.keys_le h)
  have hlt0 := h.lt
  have HIO := hide (inOrder_any h hn)
  clear h
  go_enter Tryz.func75, Tryz.ntmps75
  go_wp2_with fail
  refine (unhide HIO).mono ?_
  rintro e w1 ⟨u, rfl, hu, o1⟩
  obtain ⟨uo, uc, rfl⟩ := ownsRow_shape hu
  have HU := hide hu
  have HO1 := hide o1
  have hs1 := o1.size
  clear hu o1
  obtain ⟨n, hnn⟩ : ∃ n, n = P.length := ⟨_, rfl⟩
  have HN := hide hnn
  rw [← hnn] at HU hP ⊢
  clear hnn
  obtain ⟨i0, hi, hz0, hz1, hz2⟩ := info_parts Tryz.info39
  go_wp2
  go_loopw [3, 9] (fun lv i wr => ∃ k : Nat, k ≤ n ∧ i = .int .i64 k ∧ RowC V w1.heap.size wr lv ((allOf P).take k) ∧ Only (fun _ => False) w1 wr) (fun _ i _ => n - (intOf i).toNat)
  case atStart => exact ⟨0, Nat.zero_le _, rfl, rowC_nil _ _ _, Only.refl _ _⟩
  case round =>
    obtain ⟨k, hk, rfl, hrow, ho⟩ := hrel
    have HR := hide hrow
    have HO := hide ho
    have hs2 := ho.size
    obtain ⟨lo, lc, rfl⟩ := hrow.shape
    clear hrow ho
    by_cases hlt : k < n
    · have hku : k < P.length := by have := unhide HN; omega
      have hlt' : (k : Int) < n := by omega
      have htl : ((allOf P).take k).length = k := by simp [allOf]; omega
      have HAT := hide (allOf_take P k hku)
      have hU := (unhide HO).owns (unhide HU) (fun _ _ e => e)
      obtain ⟨gq, capq, hue, _, _⟩ := hU.form (by omega)
      simp only [Value.slice.injEq] at hue
      obtain ⟨rfl, _, rfl⟩ := hue
      have hck := hU.cellAt k (by omega)
      have hget : get P P[k].1 = some P[k].2 := (get_mem (MapV.sorted (unhide H))).2 (List.getElem_mem hku)
      have hkl := unhide HKL P[k].1 (List.mem_map.2 ⟨P[k], List.getElem_mem hku, rfl⟩)
      have hkk : ((keys P).map encStr)[k]? = some (encStr P[k].1) := by simp [keys, hku]
      rw [hkk] at hck
      obtain ⟨key, hkey⟩ : ∃ key, key = P[k].1 := ⟨_, rfl⟩
      obtain ⟨value, hval⟩ : ∃ value, value = P[k].2 := ⟨_, rfl⟩
      rw [← hkey] at hck hget hkl HAT
      rw [← hval] at hget HAT
      have HG := hide hget
      have hmw : MapAt (fun j => V j ∧ j < w.heap.size) wr mb m P := ((unhide H).mono (U := fun j => V j ∧ j < w.heap.size) (fun j hj hv => ⟨hv, hj⟩)).same ((unhide HO1).trans (unhide HO) (fun _ _ e => e))
      rw [htl] at HR ⊢
      clear hkk hU hkey hval hget
      have HMW := hide hmw
      clear hmw
      have HTL := hide htl
      clear htl
      obtain ⟨zs, hzs, own4, each4⟩ := (unhide HR).own
      have hzl : zs.length = k := by have := congrArg List.length hzs; rw [List.length_map, unhide HTL] at this; exact this
      rw [unhide HTL] at own4
      have HZ := hide hzs
      have HOW := hide own4
      have HEA := hide each4
      have HZL := hide hzl
      have hblk : ∀ o : Obj, (wr.alloc o).heap[wr.heap.size]? = some o := fun o => heap_alloc_new wr o
      clear hzs own4 each4 hzl
      go_wp2_with (first
        | (at_lookup; refine wpList_hitB rfl (.tmp 15) (.tmp 16) rfl rfl (unhide HMW) key value rfl hkl (unhide HG) ?_; intro xo xc hxq)
        | (at_builtin; refine wpList_append_lies _ rfl (.tmp 13) (.tmp 19) 23 rfl w1.heap.size 39 i0 _ 3 48 Tryz.underlying23 hi hz0 hz1 hz2 rfl (by decide) _ k (zs.flatMap zc) rfl ((unhide HOW).alloc _) ⟨wr.heap.size, 0, none⟩ 1 1 (zc (.slice xo value.length xc, ⟨key, true, value⟩)) rfl rfl (World.news_of_block (hblk _)) (by simp [zc, Value.oneCell']) (by decide) (by unfold maxLen; omega) (by omega) (by simp; omega) _ rfl ?_; intro g cap5 w5 own5 gr5 at5 lt5))
      obtain rfl : zs.length = k := unhide HZL
      have oA : Only (fun _ => False) wr (wr.alloc (.cells #[encStr key, .bool true, .slice xo value.length xc] 39)) := (Only.refl _ _).alloc _
      have hP := RowC.pushed (Q := V) (unhide HOW) (unhide HEA) hxq.1 (fun hne j hj => ⟨(hxq.2 hne j hj).1, fun e => by have := ((unhide HR).lt j e).1; have := (hxq.2 hne j hj).2; omega⟩) oA own5 gr5 at5
      rw [unhide HZ] at hP
      refine ⟨⟨zs.length + 1, by omega, by go_num, ?_, (unhide HO).trans hP.2 (fun i hi e => by have := ((unhide HR).lt i e).1; omega)⟩, by simp [intOf]; omega⟩
      rw [unhide HAT]
      exact hP.1
    · obtain rfl : n = k := by omega
      go_wp2
      go_ret
      have hta : (allOf P).take n = allOf P := List.take_of_length_le (by simp [allOf]; have := unhide HN; omega)
      rw [hta] at HR ⊢
      exact ⟨_, rfl, (unhide HR).lower hs1, (unhide HO1).trans (unhide HO) (fun _ _ e => e)⟩
end St
end Go.Proofs.YtmcobkcnpnfobaaGreat
