/-
  My own small laws on worlds: what a call leaves as it was ('Only S w w''), a slice of bytes that is read ('Has'), a row that is owned.
-/
import Derived.WalkKit
import Derived.WalkSpells
import Derived.WalkLawsBesides
import Derived.Deep.RegionLaw
import Derived.Deep.RegionHeldLaw
import Derived.Deep.LoopGhost
import Derived.Laws.CopyOwn
import Derived.Laws.BytesArg
import Derived.Laws.AppendOwnNone
import Derived.Deep.AppendLies
namespace Go.Proofs.YtadpmninoghcjaaDoor
open Go.RowKit

/-- w' is w but for the blocks in S and for new ones. -/
structure Only (S : Nat → Prop) (w w' : World) : Prop where
  os : w'.os = w.os
  tape : w'.tape = w.tape
  output : w'.output = w.output
  size : w.heap.size ≤ w'.heap.size
  block : ∀ k, k < w.heap.size → ¬ S k → w'.heap[k]? = w.heap[k]?

theorem Only.refl (S : Nat → Prop) (w : World) : Only S w w := ⟨rfl, rfl, rfl, Nat.le_refl _, fun _ _ _ => rfl⟩

theorem Only.trans {S T : Nat → Prop} {a b c : World} (h : Only S a b) (k : Only T b c) (hT : ∀ i, i < a.heap.size → T i → S i) : Only S a c :=
  ⟨k.os.trans h.os, k.tape.trans h.tape, k.output.trans h.output, Nat.le_trans h.size k.size,
    fun i hi hs => (k.block i (Nat.lt_of_lt_of_le hi h.size) (fun ht => hs (hT i hi ht))).trans (h.block i hi hs)⟩

theorem Only.mono {S T : Nat → Prop} {w w' : World} (h : Only S w w') (hT : ∀ i, i < w.heap.size → S i → T i) : Only T w w' :=
  ⟨h.os, h.tape, h.output, h.size, fun i hi hs => h.block i hi (fun k => hs (hT i hi k))⟩

theorem Only.drew {S : Nat → Prop} {a w : World} (h : Only S a w) : Only S a w.drew := ⟨h.os, h.tape, h.output, h.size, h.block⟩

theorem Only.alloc {S : Nat → Prop} {a w : World} (h : Only S a w) (o : Obj) : Only S a (w.alloc o) :=
  h.trans (T := fun _ => False) ⟨rfl, rfl, rfl, by simp, fun k hk _ => Below.heap_alloc _ _ _ hk⟩ (fun _ _ h => h.elim)

theorem Only.setCell {S : Nat → Prop} {a w : World} (h : Only S a w) {p : Addr} (hp : p.block < a.heap.size → S p.block) (u : Value) : Only S a (w.setCell p u) :=
  h.trans (T := fun k => k = p.block) ⟨rfl, rfl, rfl, by simp [World.setCell], fun k _ hk => Below.heap_setCell _ _ _ _ hk⟩ (fun i hi e => by subst e; exact hp hi)

theorem Only.here {b : Nat} {a w : World} (h : Only (fun k => k = b) a w) (i : Nat) (u : Value) : Only (fun k => k = b) a (w.setCell ⟨b, i, none⟩ u) := h.setCell (p := ⟨b, i, none⟩) (fun _ => rfl) u

theorem Only.grown {S : Nat → Prop} {a w w' : World} {row : Option Nat} (h : Only S a w) (hg : w.grownBy w' row) (hr : ∀ k, row = some k → k < a.heap.size → S k) : Only S a w' :=
  h.trans (T := fun k => row = some k) ⟨hg.os, hg.tape, hg.output, hg.size, fun k hk hs => hg.block k hk (fun e => hs e.symm)⟩ (fun i hi e => hr i e hi)

theorem Only.below {S : Nat → Prop} {w w' : World} (h : Only S w w') {B : Nat} (hB : B ≤ w.heap.size) (hS : ∀ k, S k → B ≤ k) : Below B w w' :=
  ⟨h.os, h.tape, h.output, h.size, fun k hk => h.block k (by omega) (fun e => by have := hS k e; omega)⟩

theorem Only.ofBelow {w w' : World} (h : Below w.heap.size w w') : Only (fun _ => False) w w' := ⟨h.os, h.tape, h.output, h.size, fun k hk _ => h.block k hk⟩

theorem Only.heap {S : Nat → Prop} {w w' : World} (h : Only S w w') {b : Nat} {o : Obj} (hb : w.heap[b]? = some o) (hS : ¬ S b) : w'.heap[b]? = some o :=
  (h.block b (Array.getElem?_eq_some_iff.1 hb).1 hS).trans hb

theorem Only.cell {S : Nat → Prop} {w w' : World} (h : Only S w w') {p : Addr} {v : Value} (hc : w.cell? p = some v) (hS : ¬ S p.block) : w'.cell? p = some v :=
  (World.cell?_of_block (h.block p.block (World.block_lt_of_cell? w p hc) hS)).trans hc

theorem Only.owns {S : Nat → Prop} {w w' : World} (h : Only S w w') {base e size n : Nat} {v : Value} {xs : List Value} (ho : w.ownsRow base e size v n xs) (hS : ∀ k, v.ownBlock = some k → ¬ S k) : w'.ownsRow base e size v n xs := by
  refine ⟨ho.1, ?_⟩
  rcases ho.2 with hn | ⟨g, cap, cur, rfl, hb, hgg, rest⟩
  · exact .inl hn
  · exact .inr ⟨g, cap, cur, rfl, hb, h.heap hgg (hS g rfl), rest⟩

/-- A byte as a value. -/
def bv (b : UInt8) : Value := .int .u8 (b.toNat : Int)

/-- The slice value v holds just the bytes bs in w (read only; whatever memory). -/
def Has (w : World) (v : Value) (bs : List UInt8) : Prop :=
  (v = .slice none 0 0 ∧ bs = []) ∨ ∃ a cap, v = .slice (some a) bs.length cap ∧ (0 < bs.length → a.spot = none) ∧ bs.length ≤ cap ∧ cap ≤ maxLen ∧ (0 < bs.length → a.block < w.heap.size) ∧ ∀ j (hj : j < bs.length), w.cell? ⟨a.block, a.off + j, none⟩ = some (bv bs[j])

def blk : Value → Option Nat
  | .slice a _ _ => a.map (·.block)
  | _ => none

theorem ownsRow_shape {w : World} {base e size n : Nat} {v : Value} {xs : List Value} (h : w.ownsRow base e size v n xs) : ∃ ao cap, v = .slice ao n cap := by
  rcases h.2 with ⟨rfl, rfl⟩ | ⟨g, cap, cur, rfl, _⟩
  · exact ⟨none, 0, rfl⟩
  · exact ⟨_, cap, rfl⟩

theorem ownsRow_base {w : World} {base base' e size n : Nat} {v : Value} {xs : List Value} (h : w.ownsRow base e size v n xs) (hb : base' ≤ base) : w.ownsRow base' e size v n xs := by
  refine ⟨h.1, ?_⟩
  rcases h.2 with h2 | ⟨g, cap, cur, hv, hg, r⟩
  · exact Or.inl h2
  · exact Or.inr ⟨g, cap, cur, hv, Nat.le_trans hb hg, r⟩

theorem addr_add (a : Addr) (h : a.spot = none) (j : Nat) : a.add j = ⟨a.block, a.off + j, none⟩ := by
  obtain ⟨b, o, s⟩ := a
  simp only at h
  subst h
  unfold Addr.add
  split <;> simp_all

/-- append of bytes that are read somewhere onto a row that is owned. -/
theorem run_append_has {P : Program} (w : World) (base : Nat) (t ty e : TypeId) (i : TypeInfo) (ht : P.underlying t = some (.slice e)) (hi : P.info? e = some i) (hz : i.zero = some (.int .u8 0)) (hsize : i.size = 1) (hby : i.bytes = 1)
    (v : Value) (n : Nat) (xs : List Value) (hown : w.ownsRow base e 1 v n xs) (xv : Value) (bs : List UInt8) (hx : Has w xv bs) (h63 : n + bs.length ≤ 140737488355328) (hbase : base ≤ w.heap.size) :
    ∃ ao cap w', (Builtin.append_ #[t, t] ty #[v, xv]).run P w = .ok (.slice ao (n + bs.length) cap) w' ∧ w'.ownsRow base e 1 (.slice ao (n + bs.length) cap) (n + bs.length) (xs ++ bs.map bv) ∧ w.grownBy w' v.ownBlock ∧
      (Value.ownBlock (.slice ao (n + bs.length) cap) = v.ownBlock ∨ Value.ownBlock (.slice ao (n + bs.length) cap) = some w.heap.size) := by
  rcases hx with ⟨rfl, rfl⟩ | ⟨a, cap, rfl, hsp, _, _, _, hc⟩
  · obtain ⟨ao, cap, rfl⟩ := ownsRow_shape hown
    exact ⟨ao, cap, w, run_append_owned_none (P := P) w base t ty e i 1 ht hi _ n xs hown, by simpa using hown, ⟨rfl, rfl, rfl, Nat.le_refl _, fun _ _ _ => rfl⟩, Or.inl rfl⟩
  · obtain ⟨v', w', hr, h2, h3, _, h5⟩ := run_append_own_at (P := P) w base t ty e i (.int .u8 0) 1 1 ht hi hz hsize hby rfl (by decide) v n xs hown a bs.length cap (bs.map bv) (by simp)
      (fun j u hu => by
        have hj : j < bs.length := by have := (List.getElem?_eq_some_iff.1 hu).1; simpa using this
        rw [addr_add a (hsp (by omega))]
        rw [hc j hj]
        simpa [hj] using hu)
      (fun u hu => by obtain ⟨b, _, rfl⟩ := List.mem_map.1 hu; rfl) (by unfold maxLen; omega) (by omega) hbase
    obtain ⟨ao, cap', rfl⟩ := ownsRow_shape h2
    exact ⟨ao, cap', w', hr, h2, h3, h5⟩

theorem wp_append_has {P : Program} {w : World} {o : Oper} {a : Act} {K : Act → World → Prop} {Q : Exit → Act → World → Prop} (s x : Operand) (t : TypeId)
    (ho : o.op = .call { callee := .builtin .append, args := #[s, x], argTypes := #[t, t] })
    (base : Nat) (e : TypeId) (i : TypeInfo) (ht : P.underlying t = some (.slice e)) (hi : P.info? e = some i) (hz : i.zero = some (.int .u8 0)) (hsize : i.size = 1) (hby : i.bytes = 1)
    (v : Value) (n : Nat) (xs : List Value) (hs : a.eval s = v) (hown : w.ownsRow base e 1 v n xs) (xv : Value) (bs : List UInt8) (hxv : a.eval x = xv) (hx : Has w xv bs) (h63 : n + bs.length ≤ 140737488355328) (hbase : base ≤ w.heap.size)
    (h : ∀ ao cap w', w'.ownsRow base e 1 (.slice ao (n + bs.length) cap) (n + bs.length) (xs ++ bs.map bv) → w.grownBy w' v.ownBlock →
      (Value.ownBlock (.slice ao (n + bs.length) cap) = v.ownBlock ∨ Value.ownBlock (.slice ao (n + bs.length) cap) = some w.heap.size) → K (a.put o.dst (.slice ao (n + bs.length) cap)) w') : o.wp P a w K Q := by
  obtain ⟨ao, cap, w', hr, h2, h3, h4⟩ := run_append_has (P := P) w base t o.type e i ht hi hz hsize hby v n xs hown xv bs hx h63 hbase
  unfold Oper.wp execOp
  simp only [ho, resolve, invoke, builtin, Sem.run_bind, Sem.run_pure, Result.andThen_ok, List.map_toArray, List.map_cons, List.map_nil, hs, hxv, hr]
  exact h ao cap w' h2 h3 h4

theorem wpList_append_has {P : Program} {w : World} {ops : Array Oper} {rest : List Oper} {o : Oper} {a : Act} {Q : Exit → Act → World → Prop} (hgd : o.guard = none) (s x : Operand) (t : TypeId)
    (ho : o.op = .call { callee := .builtin .append, args := #[s, x], argTypes := #[t, t] })
    (base : Nat) (e : TypeId) (i : TypeInfo) (ht : P.underlying t = some (.slice e)) (hi : P.info? e = some i) (hz : i.zero = some (.int .u8 0)) (hsize : i.size = 1) (hby : i.bytes = 1)
    (v : Value) (n : Nat) (xs : List Value) (hs : a.eval s = v) (hown : w.ownsRow base e 1 v n xs) (xv : Value) (bs : List UInt8) (hxv : a.eval x = xv) (hx : Has w xv bs) (h63 : n + bs.length ≤ 140737488355328) (hbase : base ≤ w.heap.size)
    (h : ∀ ao cap w', w'.ownsRow base e 1 (.slice ao (n + bs.length) cap) (n + bs.length) (xs ++ bs.map bv) → w.grownBy w' v.ownBlock →
      (Value.ownBlock (.slice ao (n + bs.length) cap) = v.ownBlock ∨ Value.ownBlock (.slice ao (n + bs.length) cap) = some w.heap.size) → wpList P ops Q rest (a.put o.dst (.slice ao (n + bs.length) cap)) w') : wpList P ops Q (o :: rest) a w :=
  wpList_plain hgd fun _ hK => wp_append_has s x t ho base e i ht hi hz hsize hby v n xs hs hown xv bs hxv hx h63 hbase fun ao cap w' h2 h3 h4 => hK _ _ (h ao cap w' h2 h3 h4)

theorem step_append_has {P : Program} {w : World} {ops : Array Oper} {o : Oper} {a : Act} {K : Act → World → Prop} {Q : Exit → Act → World → Prop} {E : Prop} (hgd : o.guard = none) (s x : Operand) (t : TypeId)
    (ho : o.op = .call { callee := .builtin .append, args := #[s, x], argTypes := #[t, t] })
    (base : Nat) (e : TypeId) (i : TypeInfo) (ht : P.underlying t = some (.slice e)) (hi : P.info? e = some i) (hz : i.zero = some (.int .u8 0)) (hsize : i.size = 1) (hby : i.bytes = 1)
    (v : Value) (n : Nat) (xs : List Value) (hs : a.eval s = v) (hown : w.ownsRow base e 1 v n xs) (xv : Value) (bs : List UInt8) (hxv : a.eval x = xv) (hx : Has w xv bs) (h63 : n + bs.length ≤ 140737488355328) (hbase : base ≤ w.heap.size)
    (h : ∀ ao cap w', w'.ownsRow base e 1 (.slice ao (n + bs.length) cap) (n + bs.length) (xs ++ bs.map bv) → w.grownBy w' v.ownBlock →
      (Value.ownBlock (.slice ao (n + bs.length) cap) = v.ownBlock ∨ Value.ownBlock (.slice ao (n + bs.length) cap) = some w.heap.size) → K (a.put o.dst (.slice ao (n + bs.length) cap)) w') :
    if Region.wanted o (yielded ops a.tmps) = true then Oper.wp P o a w K Q else E := by
  have hw : Region.wanted o (yielded ops a.tmps) = true := by simp [Region.wanted, hgd]
  rw [if_pos hw]
  exact wp_append_has s x t ho base e i ht hi hz hsize hby v n xs hs hown xv bs hxv hx h63 hbase h

theorem Has.only {S : Nat → Prop} {w w' : World} {v : Value} {bs : List UInt8} (h : Has w v bs) (ho : Only S w w') (hS : bs ≠ [] → ∀ k, blk v = some k → ¬ S k) : Has w' v bs := by
  rcases h with h | ⟨a, cap, rfl, hsp, hl, hm, hb, hc⟩
  · exact Or.inl h
  · refine Or.inr ⟨a, cap, rfl, hsp, hl, hm, fun h0 => Nat.lt_of_lt_of_le (hb h0) ho.size, fun j hj => ho.cell (hc j hj) (hS (fun e => by subst e; simp at hj) _ rfl)⟩

theorem Has.shape {w : World} {v : Value} {bs : List UInt8} (h : Has w v bs) : ∃ ao cap, v = .slice ao bs.length cap ∧ bs.length ≤ cap ∧ cap ≤ maxLen := by
  rcases h with ⟨rfl, rfl⟩ | ⟨a, cap, rfl, _, hl, hm, _⟩
  · exact ⟨none, 0, rfl, Nat.le_refl _, Nat.zero_le _⟩
  · exact ⟨some a, cap, rfl, hl, hm⟩

theorem Has.at {w : World} {ao : Option Addr} {len cap : Nat} {bs : List UInt8} (h : Has w (.slice ao len cap) bs) (h0 : 0 < len) : ∃ bb off, ao = some ⟨bb, off, none⟩ ∧ len = bs.length ∧ ∀ j (hj : j < bs.length), w.cell? ⟨bb, off + j, none⟩ = some (bv bs[j]) := by
  rcases h with ⟨e, rfl⟩ | ⟨a, c, e, hsp, hl, hm, hb, hc⟩
  · simp only [Value.slice.injEq] at e
    omega
  · simp only [Value.slice.injEq] at e
    obtain ⟨b, o, s⟩ := a
    have hs0 : s = none := hsp (by omega)
    subst hs0
    exact ⟨b, o, e.1, e.2.1, hc⟩

theorem Has.blk_lt {w : World} {v : Value} {bs : List UInt8} (h : Has w v bs) (hne : bs ≠ []) : ∀ k, blk v = some k → k < w.heap.size := by
  intro k hk
  rcases h with ⟨_, e⟩ | ⟨a, cap, rfl, _, _, _, hb, _⟩
  · exact absurd e hne
  · simp only [blk, Option.map_some, Option.some.injEq] at hk
    subst hk
    exact hb (by cases bs with | nil => exact absurd rfl hne | cons _ _ => simp)

/-- What is owned is read. -/
theorem Has.ofOwns {w : World} {base e : Nat} {v : Value} {n : Nat} {bs : List UInt8} (h : w.ownsRow base e 1 v n (bs.map bv)) : Has w v bs := by
  have hn : n = bs.length := by have := h.1; simp at this; omega
  subst hn
  rcases h.2 with ⟨rfl, h0⟩ | ⟨g, cap, cur, rfl, hb, hg, hc, hm, hcs, ht⟩
  · exact Or.inl ⟨rfl, List.eq_nil_of_length_eq_zero h0⟩
  · refine Or.inr ⟨⟨g, 0, none⟩, cap, rfl, fun _ => rfl, hc, hm, fun _ => (Array.getElem?_eq_some_iff.1 hg).1, fun j hj => ?_⟩
    have := h.cells (g := g) rfl j (bv bs[j]) (by simp [hj])
    rwa [addr_add _ rfl] at this

/-- One new cell, as bytes that are read. -/
theorem has_one {w : World} {g : Nat} {b : UInt8} (h : w.cell? ⟨g, 0, none⟩ = some (bv b)) : Has w (.slice (some ⟨g, 0, none⟩) 1 1) [b] :=
  Or.inr ⟨⟨g, 0, none⟩, 1, rfl, fun _ => rfl, by simp, by unfold maxLen; omega, fun _ => World.block_lt_of_cell? w _ h, fun j hj => by have : j = 0 := (by simpa using hj); subst this; simpa using h⟩

/-- a list of bytes as a string -/
def str (bs : List UInt8) : ByteArray := ⟨bs.toArray⟩

theorem run_convert_has {P : Program} {w : World} (src e dst : TypeId) (hs : P.underlying src = some (.slice e)) (he : P.underlying e = some (.int .u8)) (hd : P.underlying dst = some .string) {v : Value} {bs : List UInt8} (h : Has w v bs) :
    (convert src dst v).run P w = .ok (.string (str bs)) w := by
  rcases h with ⟨rfl, rfl⟩ | ⟨a, cap, rfl, hsp, hl, hm, hb, hc⟩
  · rw [run_convert_bytes_nil w src e hs he 0 0 dst hd]
    rfl
  · by_cases h0 : bs = []
    · subst h0
      rw [run_convert_bytes_string w src dst e _ _ _ hs he hd, run_bytesToString w a _ cap [] (by simp [loadCells, loadCellsFrom])]
      rfl
    obtain ⟨b, o, s⟩ := a
    have hs0 : s = none := hsp (by cases bs with | nil => exact absurd rfl h0 | cons _ _ => simp)
    subst hs0
    have h := run_convert_bytes_arg (P := P) w src e hs he b o bs.length cap (bs.map fun x => (x.toNat : Int)) (by simp) (fun i hi => by
      rw [hc i hi]
      simp [bv, List.getD, hi]) dst hd
    rw [h]
    congr 2
    simp only [strOfNums, str, List.map_map]
    congr 2
    conv => rhs; rw [← List.map_id bs]
    apply List.map_congr_left
    intro x _
    simp

/-- copy of bytes that are read somewhere over a row of just that length that is owned. -/
theorem wpList_copy_has {P : Program} {w : World} {ops : Array Oper} {rest : List Oper} {o : Oper} {a : Act} {Q : Exit → Act → World → Prop} (hgd : o.guard = none) (d s : Operand) (t : TypeId)
    (ho : o.op = .call { callee := .builtin .copy, args := #[d, s], argTypes := #[t, t] }) (base e : TypeId) (hu : P.underlying t = some (.slice e)) (hsz : (P.info? e).map (·.size) = some 1)
    (g n : Nat) (hd : a.eval d = .slice (some ⟨g, 0, none⟩) n n) (xv : Value) (us : List UInt8) (hs : a.eval s = xv) (hx : Has w xv us) (hn : us.length = n) (zs : List Value)
    (hown : w.ownsRow base e 1 (.slice (some ⟨g, 0, none⟩) n n) n zs)
    (h : ∀ w', w'.ownsRow base e 1 (.slice (some ⟨g, 0, none⟩) n n) n (us.map bv) → w.grownBy w' (some g) → wpList P ops Q rest (a.put o.dst (goInt n)) w') : wpList P ops Q (o :: rest) a w := by
  subst hn
  obtain ⟨hzl, hz⟩ := hown
  rcases hz with ⟨h0, _⟩ | ⟨g', cap, cur, hv, hb, hg, hc, hm, hcs, ht⟩
  · simp at h0
  simp only [Value.slice.injEq, Option.some.injEq, Addr.mk.injEq, and_true, true_and] at hv
  obtain ⟨rfl, rfl⟩ := hv
  have hzero : us = [] → wpList P ops Q (o :: rest) a w := fun e => by
    subst e
    obtain ⟨xo, xc, rfl, _⟩ := hx.shape
    refine wpList_copy_nothing hgd d s t t ho _ hu hsz _ _ _ _ _ _ hd hs (by simp) ?_
    refine h w ⟨by simp, Or.inr ⟨g, _, cur, rfl, hb, hg, Nat.le_refl _, hm, hcs, by simp⟩⟩ ⟨rfl, rfl, rfl, Nat.le_refl _, fun _ _ _ => rfl⟩
  rcases hx with ⟨rfl, rfl⟩ | ⟨ad, cap', rfl, hsp, _, _, _, hcell⟩
  · exact hzero rfl
  · refine wpList_copy_own hgd d s t t ho _ hu hsz g 0 _ _ ad _ _ hd hs cur e hg (us.map bv) (by simp) ?_ (by simp; omega) (fun u hu => by obtain ⟨b, _, rfl⟩ := List.mem_map.1 hu; rfl) ?_
    · intro j u hju
      have hj : j < us.length := by have := (List.getElem?_eq_some_iff.1 hju).1; simpa using this
      rw [addr_add ad (hsp (by omega))]
      rw [hcell j hj]
      simpa [hj] using hju
    · have e1 : goInt (us.map bv).length = goInt us.length := by simp
      rw [e1]
      have hcl : cur.toList.length = us.length := by rw [Array.length_toList]; omega
      refine h _ ⟨by simp, Or.inr ⟨g, _, _, rfl, hb, setRow_heap w g cur _ e _ hg, Nat.le_refl _, hm, ?_, ?_⟩⟩ ⟨rfl, rfl, rfl, by simp [World.setRow], fun k _ hk => setRow_other w g k _ (fun e => hk (by rw [e]))⟩
      · simp; omega
      · simp only [List.take_zero, List.nil_append, List.length_map, Nat.zero_add, Nat.mul_one]
        rw [show cur.toList.drop us.length = [] from List.drop_eq_nil_of_le (by omega)]
        simp only [List.append_nil]
        exact List.take_of_length_le (by simp)

end Go.Proofs.YtadpmninoghcjaaDoor
