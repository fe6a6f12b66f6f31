/-
  Items (chapter 6), plain and in memory.
-/
import Derived.Test.YtedmfjnmclbkpaaDoorRowV
import Derived.Test.YtedmfjnmclbkpaaDoorRow
import Derived.Sort.EncStr
namespace Go.Proofs.YtedmfjnmclbkpaaDoor
open Go.RowKit
set_option linter.unusedSimpArgs false
set_option linter.unusedVariables false

namespace Tt

/-- an item -/
inductive It where
  | mk (tag typ int : Int) (data : List UInt8) (kids : List It)

def It.tag : It → Int | .mk t _ _ _ _ => t
def It.typ : It → Int | .mk _ y _ _ _ => y
def It.int : It → Int | .mk _ _ n _ _ => n
def It.data : It → List UInt8 | .mk _ _ _ d _ => d
def It.kids : It → List It | .mk _ _ _ _ ks => ks

def W64 (n : Int) : Prop := -9223372036854775808 ≤ n ∧ n ≤ 9223372036854775807

mutual
/-- how many items -/
def It.count : It → Nat
  | .mk _ _ _ _ ks => 1 + It.countAll ks
def It.countAll : List It → Nat
  | [] => 0
  | k :: r => k.count + It.countAll r
end
mutual
/-- numbers that a machine has; no more than m bytes of data each -/
def It.small (m : Nat) : It → Prop
  | .mk t y n d ks => W64 t ∧ W64 y ∧ W64 n ∧ d.length ≤ m ∧ It.smallAll m ks
def It.smallAll (m : Nat) : List It → Prop
  | [] => True
  | k :: r => k.small m ∧ It.smallAll m r
end

theorem countAll_append (a b : List It) : It.countAll (a ++ b) = It.countAll a + It.countAll b := by
  induction a with
  | nil => simp [It.countAll]
  | cons x a ih => simp [It.countAll, ih, Nat.add_assoc]
theorem smallAll_iff (m : Nat) (l : List It) : It.smallAll m l ↔ ∀ k ∈ l, k.small m := by
  induction l with
  | nil => simp [It.smallAll]
  | cons x l ih => simp [It.smallAll, ih]

/-- kids in memory: five cells each -/
def KidsAt (Q : Nat → Prop) (w : World) (P : It → Value → Value → Prop) (kv : Value) (ks : List It) : Prop :=
  (kv = .slice none 0 0 ∧ ks = []) ∨ ∃ a cap, kv = .slice (some a) ks.length cap ∧ (0 < ks.length → a.spot = none) ∧ ks.length ≤ cap ∧ cap ≤ maxLen ∧ (0 < ks.length → a.block < w.heap.size ∧ Q a.block) ∧
    ∀ j k, ks[j]? = some k → ∃ dv kv, w.cell? ⟨a.block, a.off + j * 5, none⟩ = some (.int .i64 k.tag) ∧ w.cell? ⟨a.block, a.off + j * 5 + 1, none⟩ = some (.int .i64 k.typ) ∧ w.cell? ⟨a.block, a.off + j * 5 + 2, none⟩ = some (.int .i64 k.int) ∧
      w.cell? ⟨a.block, a.off + j * 5 + 3, none⟩ = some dv ∧ w.cell? ⟨a.block, a.off + j * 5 + 4, none⟩ = some kv ∧ P k dv kv

/-- an item at most n deep: its data and its kids lie in memory, in blocks such as Q tells -/
def ItAt (Q : Nat → Prop) (w : World) : Nat → It → Value → Value → Prop
  | 0, _, _, _ => False
  | n + 1, i, dv, kv => Has w dv i.data ∧ (i.data ≠ [] → ∀ k, blk dv = some k → Q k) ∧ KidsAt Q w (ItAt Q w n) kv i.kids

/-- an item as a value -/
abbrev ival (i : It) (dv kv : Value) : Value := .agg #[.int .i64 i.tag, .int .i64 i.typ, .int .i64 i.int, dv, kv]

section
variable {Q R S : Nat → Prop} {w w' : World} {P P' : It → Value → Value → Prop} {kv : Value} {ks : List It}
theorem KidsAt.imp (h : KidsAt Q w P kv ks) (hc : ∀ a v, a.spot = none → Q a.block → w.cell? a = some v → w'.cell? a = some v) (hs : w.heap.size ≤ w'.heap.size) (hQ : ∀ k, k < w.heap.size → Q k → R k) (hP : ∀ k ∈ ks, ∀ dv kv, P k dv kv → P' k dv kv) : KidsAt R w' P' kv ks := by
  rcases h with h | ⟨a, cap, e, hsp, hl, hm, hb, he⟩
  · exact Or.inl h
  · refine Or.inr ⟨a, cap, e, hsp, hl, hm, fun h0 => ⟨Nat.lt_of_lt_of_le (hb h0).1 hs, hQ _ (hb h0).1 (hb h0).2⟩, fun j k hj => ?_⟩
    have hlt : j < ks.length := (List.getElem?_eq_some_iff.1 hj).1
    obtain ⟨dv, kv, h0, h1, h2, h3, h4, h5⟩ := he j k hj
    have hq := (hb (by omega)).2
    exact ⟨dv, kv, hc _ _ rfl hq h0, hc _ _ rfl hq h1, hc _ _ rfl hq h2, hc _ _ rfl hq h3, hc _ _ rfl hq h4, hP k (List.mem_of_getElem? hj) _ _ h5⟩
theorem KidsAt.shape (h : KidsAt Q w P kv ks) : ∃ ao cap, kv = .slice ao ks.length cap ∧ ks.length ≤ cap ∧ cap ≤ maxLen := by
  rcases h with ⟨rfl, rfl⟩ | ⟨a, cap, rfl, _, hl, hm, _⟩
  · exact ⟨none, 0, rfl, Nat.le_refl _, Nat.zero_le _⟩
  · exact ⟨some a, cap, rfl, hl, hm⟩
theorem KidsAt.at {ao : Option Addr} {len cap : Nat} (h : KidsAt Q w P (.slice ao len cap) ks) (j : Nat) (hj : j < ks.length) : ∃ bb off dv kv, ao = some ⟨bb, off, none⟩ ∧ Q bb ∧
    w.cell? ⟨bb, off + j * 5, none⟩ = some (.int .i64 ks[j].tag) ∧ w.cell? ⟨bb, off + j * 5 + 1, none⟩ = some (.int .i64 ks[j].typ) ∧ w.cell? ⟨bb, off + j * 5 + 2, none⟩ = some (.int .i64 ks[j].int) ∧
    w.cell? ⟨bb, off + j * 5 + 3, none⟩ = some dv ∧ w.cell? ⟨bb, off + j * 5 + 4, none⟩ = some kv ∧ P ks[j] dv kv := by
  rcases h with ⟨e, rfl⟩ | ⟨a, c, e, hsp, hl, hm, hb, he⟩
  · simp at hj
  · simp only [Value.slice.injEq] at e
    obtain ⟨b, o, s⟩ := a
    have hs0 : s = none := hsp (by omega)
    subst hs0
    obtain ⟨dv, kv, h0⟩ := he j ks[j] (List.getElem?_eq_getElem hj)
    exact ⟨b, o, dv, kv, e.1, (hb (by omega)).2, h0⟩
end

section
variable {Q R S : Nat → Prop} {w w' : World}
theorem ItAt.only (ho : Only S w w') (hS : ∀ k, k < w.heap.size → Q k → ¬ S k) : ∀ (n : Nat) {i : It} {dv kv : Value}, ItAt Q w n i dv kv → ItAt Q w' n i dv kv
  | 0, _, _, _, h => h
  | n + 1, i, dv, kv, h => ⟨h.1.only ho (fun hne k hk => hS k (h.1.blk_lt hne k hk) (h.2.1 hne k hk)), h.2.1, h.2.2.imp (fun a v hs hq hc => by
      obtain ⟨b, o, s⟩ := a
      simp only at hs hq
      subst hs
      exact ho.cell hc (hS b (World.block_lt_of_cell? w _ hc) hq)) ho.size (fun _ _ h => h) (fun k _ dv kv => ItAt.only ho hS n)⟩
theorem ItAt.same {n : Nat} {i : It} {dv kv : Value} (h : ItAt Q w n i dv kv) (ho : Only (fun _ => False) w w') : ItAt Q w' n i dv kv := ItAt.only ho (fun _ _ _ e => e) n h
theorem ItAt.mono (hR : ∀ k, k < w.heap.size → Q k → R k) : ∀ (n : Nat) {i : It} {dv kv : Value}, ItAt Q w n i dv kv → ItAt R w n i dv kv
  | 0, _, _, _, h => h
  | n + 1, i, dv, kv, h => ⟨h.1, fun hne k hk => hR k (h.1.blk_lt hne k hk) (h.2.1 hne k hk), h.2.2.imp (fun _ _ _ _ h => h) (Nat.le_refl _) hR (fun k _ dv kv => ItAt.mono hR n)⟩
theorem ItAt.deeper : ∀ (n m : Nat) {i : It} {dv kv : Value}, n ≤ m → ItAt Q w n i dv kv → ItAt Q w m i dv kv
  | 0, _, _, _, _, _, h => h.elim
  | n + 1, 0, _, _, _, hnm, _ => absurd hnm (by omega)
  | n + 1, m + 1, i, dv, kv, hnm, h => ⟨h.1, h.2.1, h.2.2.imp (fun _ _ _ _ h => h) (Nat.le_refl _) (fun _ _ h => h) (fun k _ dv kv => ItAt.deeper n m (by omega))⟩
theorem ItAt.shapes {n : Nat} {i : It} {dv kv : Value} (h : ItAt Q w n i dv kv) : (∃ ao cap, dv = .slice ao i.data.length cap) ∧ ∃ ao cap, kv = .slice ao i.kids.length cap := by
  cases n with
  | zero => exact h.elim
  | succ n =>
    obtain ⟨h1, h2, h3⟩ := h
    obtain ⟨a, c, e, _⟩ := h1.shape
    obtain ⟨a', c', e', _⟩ := h3.shape
    exact ⟨⟨a, c, e⟩, a', c', e'⟩
end

/-- a kid's cells -/
def zi (z : It × Value × Value) : List Value := [.int .i64 z.1.tag, .int .i64 z.1.typ, .int .i64 z.1.int, z.2.1, z.2.2]

def EachI (Q : Nat → Prop) (n : Nat) (w : World) (zs : List (It × Value × Value)) : Prop := ∀ z ∈ zs, ItAt Q w n z.1 z.2.1 z.2.2

/-- an owned row of items -/
structure RowI (Q : Nat → Prop) (base n : Nat) (w : World) (v : Value) (is : List It) : Prop where
  own : ∃ zs, zs.map (·.1) = is ∧ w.ownsRow base 25 5 v is.length (zs.flatMap zi) ∧ EachI (fun k => Q k ∧ v.ownBlock ≠ some k) n w zs

theorem Tryd.infoItem : (Tryd.prog.info? 25).map (fun i => (i.zero, i.size, i.bytes)) = some (some (.agg #[.int .i64 0, .int .i64 0, .int .i64 0, .slice none 0 0, .slice none 0 0]), 5, 72) := by kernel_rfl

section
variable {Q R S : Nat → Prop} {w w' : World} {v : Value} {is : List It} {base n : Nat}
theorem EachI.only {zs : List (It × Value × Value)} (h : EachI Q n w zs) (ho : Only S w w') (hS : ∀ k, k < w.heap.size → Q k → ¬ S k) : EachI Q n w' zs := fun z hz => ItAt.only ho hS n (h z hz)
theorem EachI.mono {zs : List (It × Value × Value)} (h : EachI Q n w zs) (hR : ∀ k, k < w.heap.size → Q k → R k) : EachI R n w zs := fun z hz => ItAt.mono hR n (h z hz)
theorem rowI_nil (Q : Nat → Prop) (base n : Nat) (w : World) : RowI Q base n w (.slice none 0 0) [] := ⟨[], rfl, World.ownsRow_nil _ _ _ _, fun z hz => (by cases hz)⟩
theorem RowI.later (h : RowI Q base n w v is) (ho : Only S w w') (hS : ∀ k, k < w.heap.size → Q k → ¬ S k) (hb : ∀ k, v.ownBlock = some k → ¬ S k) : RowI Q base n w' v is := by
  obtain ⟨zs, e, hv, he⟩ := h.own
  exact ⟨zs, e, ho.owns hv hb, he.only ho (fun k hk hq => hS k hk hq.1)⟩
theorem RowI.same (h : RowI Q base n w v is) (ho : Only (fun _ => False) w w') : RowI Q base n w' v is := h.later ho (fun _ _ _ h => h) (fun _ _ h => h)
theorem RowI.mono (h : RowI Q base n w v is) (hR : ∀ k, k < w.heap.size → Q k → R k) : RowI R base n w v is := by
  obtain ⟨zs, e, hv, he⟩ := h.own
  exact ⟨zs, e, hv, he.mono (fun k hk hq => ⟨hR k hk hq.1, hq.2⟩)⟩
theorem RowI.shape (h : RowI Q base n w v is) : ∃ ao cap, v = .slice ao is.length cap := by
  obtain ⟨zs, e, hv, he⟩ := h.own
  exact ownsRow_shape hv
theorem RowI.lt (h : RowI Q base n w v is) : ∀ k, v.ownBlock = some k → base ≤ k ∧ k < w.heap.size := by
  obtain ⟨zs, e, hv, he⟩ := h.own
  exact fun k hk => hv.lt k hk
theorem RowI.kids (h : RowI Q base n w v is) (hQ : ∀ k, base ≤ k → Q k) : KidsAt Q w (ItAt Q w n) v is := by
  obtain ⟨zs, e, hv, he⟩ := h.own
  subst e
  simp only [List.length_map] at hv
  rcases hv.2 with ⟨rfl, h0⟩ | ⟨g, cap, cur, rfl, hb, hg, hc, hm, hcs, ht⟩
  · exact Or.inl ⟨rfl, by rw [List.eq_nil_of_length_eq_zero h0]; rfl⟩
  · refine Or.inr ⟨⟨g, 0, none⟩, cap, by simp, fun _ => rfl, by simpa using hc, hm, fun _ => ⟨(Array.getElem?_eq_some_iff.1 hg).1, hQ g hb⟩, fun j k hj => ?_⟩
    rw [List.getElem?_map] at hj
    obtain ⟨z, hz, rfl⟩ := Option.map_eq_some_iff.1 hj
    have hr := row_range (f := zi) hv (fun _ _ => rfl) rfl j z hz
    refine ⟨z.2.1, z.2.2, ?_, ?_, ?_, ?_, ?_, ItAt.mono (fun _ _ h => h.1) n (he z (List.mem_of_getElem? hz))⟩
    · have := hr 0 _ (show (zi z)[0]? = some _ from rfl); simpa using this
    · have := hr 1 _ (show (zi z)[1]? = some _ from rfl); simpa using this
    · have := hr 2 _ (show (zi z)[2]? = some _ from rfl); simpa using this
    · have := hr 3 _ (show (zi z)[3]? = some _ from rfl); simpa using this
    · have := hr 4 _ (show (zi z)[4]? = some _ from rfl); simpa using this

/-- one more: what an append leaves -/
theorem RowI.pushed {w1 w2 : World} {g cap : Nat} {zs : List (It × Value × Value)} {z : It × Value × Value} (hv : w.ownsRow base 25 5 v zs.length (zs.flatMap zi)) (he : EachI (fun k => Q k ∧ v.ownBlock ≠ some k) n w zs)
    (hx : ItAt (fun k => Q k ∧ v.ownBlock ≠ some k) w n z.1 z.2.1 z.2.2) (ho : Only (fun _ => False) w w1)
    (own2 : w2.ownsRow base 25 5 (.slice (some ⟨g, 0, none⟩) (zs.length + 1) cap) (zs.length + 1) (zs.flatMap zi ++ zi z)) (gr2 : w1.grownBy w2 v.ownBlock) (hat : v.ownBlock = some g ∨ g = w1.heap.size) :
    RowI Q base n w2 (.slice (some ⟨g, 0, none⟩) (zs.length + 1) cap) (zs.map (·.1) ++ [z.1]) ∧ Only (fun k => v.ownBlock = some k) w w2 := by
  have o2 : Only (fun k => v.ownBlock = some k) w w2 := (ho.mono (fun _ _ e => e.elim)).grown gr2 (fun k hk _ => hk)
  have hs := ho.size
  refine ⟨⟨zs ++ [z], by simp, by simpa using own2, ?_⟩, o2⟩
  have h1 : EachI (fun k => (Q k ∧ v.ownBlock ≠ some k) ∧ k < w.heap.size) n w (zs ++ [z]) := fun y hy => by
    rcases List.mem_append.1 hy with hy | hy
    · exact ItAt.mono (fun k hk hq => ⟨hq, hk⟩) n (he y hy)
    · rw [List.mem_singleton.1 hy]
      exact ItAt.mono (fun k hk hq => ⟨hq, hk⟩) n hx
  have h2 := h1.only o2 (fun k _ hq e => hq.1.2 e)
  refine h2.mono (fun k _ hq => ⟨hq.1.1, fun e => ?_⟩)
  simp only [Value.ownBlock, Option.some.injEq] at e
  rcases hat with e2 | e2
  · exact hq.1.2 (by rw [e2, e])
  · omega
end
end Tt
end Go.Proofs.YtedmfjnmclbkpaaDoor
