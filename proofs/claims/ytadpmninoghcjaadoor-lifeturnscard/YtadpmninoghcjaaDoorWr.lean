/-
  octet's Writer (and the reference's): what each call leaves.
-/
import Derived.Test.YtadpmninoghcjaaDoorMem
namespace Go.Proofs.YtadpmninoghcjaaDoor
open Go.RowKit
set_option linter.unusedSimpArgs false
set_option linter.unusedVariables false

/-- A writer's block b (of struct type T) holds the slice v, which owns the bytes bs. -/
structure WrAt (T : TypeId) (w : World) (b : Nat) (v : Value) (bs : List UInt8) : Prop where
  blk : w.heap[b]? = some (.cells #[v] T (0, 0))
  own : w.ownsRow 0 5 1 v bs.length (bs.map bv)

theorem WrAt.ne {T : TypeId} {w : World} {b : Nat} {v : Value} {bs : List UInt8} (h : WrAt T w b v bs) (hT : T ≠ 5) : some b ≠ v.ownBlock := by
  intro e
  rcases h.own.2 with ⟨rfl, _⟩ | ⟨g, cap, cur, rfl, _, hg, _⟩
  · simp [Value.ownBlock] at e
  · simp only [Value.ownBlock, Option.some.injEq] at e
    subst e
    rw [h.blk] at hg
    simp at hg
    exact hT hg.2

theorem WrAt.only {T : TypeId} {w w' : World} {b : Nat} {v : Value} {bs : List UInt8} {S : Nat → Prop} (h : WrAt T w b v bs) (ho : Only S w w') (hb : ¬ S b) (hv : ∀ k, v.ownBlock = some k → ¬ S k) : WrAt T w' b v bs :=
  ⟨ho.heap h.blk hb, ho.owns h.own hv⟩

theorem WrAt.push {T : TypeId} {w w' : World} {b : Nat} {v : Value} {bs : List UInt8} {o : Obj} (h : WrAt T w b v bs) (hw : w'.heap = w.heap.push o) : WrAt T w' b v bs := by
  have hk : ∀ k x, w.heap[k]? = some x → w'.heap[k]? = some x := fun k x hx => by
    have := (Array.getElem?_eq_some_iff.1 hx).1
    rw [hw, Array.getElem?_push, if_neg (by omega), hx]
  refine ⟨hk _ _ h.blk, h.own.1, ?_⟩
  rcases h.own.2 with hn | ⟨g, cap, cur, rfl, hb, hgg, rest⟩
  · exact .inl hn
  · exact .inr ⟨g, cap, cur, rfl, hb, hk _ _ hgg, rest⟩

/-- the field's append, as a step of the region -/
theorem step_push {ops : Array Oper} {o : Oper} {a : Act} {w : World} {K : Act → World → Prop} {Q : Exit → Act → World → Prop} {E : Prop}
    (hg : o.guard = none) (s x : Operand) (hop : o.op = Op.call { callee := Callee.builtin Builtin.append, args := #[s, x], argTypes := #[22, 22] })
    (T b : Nat) (v : Value) (ys : List UInt8) (xv : Value) (us : List UInt8) (hT : T ≠ 5) (hs : a.eval s = v) (hx : a.eval x = xv)
    (hc : Has w xv us) (h : WrAt T w b v ys) (hl : ys.length + us.length ≤ 140737488355328)
    (hK : ∀ ao cap w', w'.cell? ⟨b, 0, none⟩ = some v → w'.frozen? ⟨b, 0, none⟩ = false → Hid (w'.heap[b]? = some (.cells #[v] T (0, 0))) → w'.ownsRow 0 5 1 (.slice ao (ys.length + us.length) cap) (ys.length + us.length) (ys.map bv ++ us.map bv) → w.grownBy w' v.ownBlock →
      (Value.ownBlock (.slice ao (ys.length + us.length) cap) = v.ownBlock ∨ Value.ownBlock (.slice ao (ys.length + us.length) cap) = some w.heap.size) → K (a.put o.dst (.slice ao (ys.length + us.length) cap)) w') :
    if Region.wanted o (yielded ops a.tmps) = true then Oper.wp Tryd.prog o a w K Q else E := by
  obtain ⟨i0, hi, hz0, hz1, hz2⟩ := info_parts Tryd.info5
  refine step_append_has hg s x 22 hop 0 5 i0 Tryd.underlying22 hi hz0 hz1 hz2 v ys.length (ys.map bv) hs h.own xv us hx hc hl (Nat.zero_le _) ?_
  intro ao cap w' own gr hat
  have hblk : w'.heap[b]? = some (.cells #[v] T (0, 0)) := (gr.block b (Array.getElem?_eq_some_iff.1 h.blk).1 (h.ne hT)).trans h.blk
  exact hK ao cap w' (cell_of_one hblk) (free_of_one hblk) hblk own gr hat

theorem wpList_push {ops : Array Oper} {rest : List Oper} {o : Oper} {a : Act} {w : World} {Q : Exit → Act → World → Prop}
    (hg : o.guard = none) (s x : Operand) (hop : o.op = Op.call { callee := Callee.builtin Builtin.append, args := #[s, x], argTypes := #[22, 22] })
    (T b : Nat) (v : Value) (ys : List UInt8) (xv : Value) (us : List UInt8) (hT : T ≠ 5) (hs : a.eval s = v) (hx : a.eval x = xv)
    (hc : Has w xv us) (h : WrAt T w b v ys) (hl : ys.length + us.length ≤ 140737488355328)
    (hK : ∀ ao cap w', w'.cell? ⟨b, 0, none⟩ = some v → w'.frozen? ⟨b, 0, none⟩ = false → Hid (w'.heap[b]? = some (.cells #[v] T (0, 0))) → w'.ownsRow 0 5 1 (.slice ao (ys.length + us.length) cap) (ys.length + us.length) (ys.map bv ++ us.map bv) → w.grownBy w' v.ownBlock →
      (Value.ownBlock (.slice ao (ys.length + us.length) cap) = v.ownBlock ∨ Value.ownBlock (.slice ao (ys.length + us.length) cap) = some w.heap.size) → wpList Tryd.prog ops Q rest (a.put o.dst (.slice ao (ys.length + us.length) cap)) w') :
    wpList Tryd.prog ops Q (o :: rest) a w := by
  obtain ⟨i0, hi, hz0, hz1, hz2⟩ := info_parts Tryd.info5
  refine wpList_append_has hg s x 22 hop 0 5 i0 Tryd.underlying22 hi hz0 hz1 hz2 v ys.length (ys.map bv) hs h.own xv us hx hc hl (Nat.zero_le _) ?_
  intro ao cap w' own gr hat
  have hblk : w'.heap[b]? = some (.cells #[v] T (0, 0)) := (gr.block b (Array.getElem?_eq_some_iff.1 h.blk).1 (h.ne hT)).trans h.blk
  exact hK ao cap w' (cell_of_one hblk) (free_of_one hblk) hblk own gr hat

/-- from (w, v) on the writer at b has come to (w', v'), with the bytes cs -/
structure Wrote (T : TypeId) (w : World) (b : Nat) (v : Value) (w' : World) (v' : Value) (cs : List UInt8) : Prop where
  now : WrAt T w' b v' cs
  only : Only (fun k => k = b ∨ v.ownBlock = some k) w w'
  fresh : ∀ k, v'.ownBlock = some k → v.ownBlock = some k ∨ w.heap.size ≤ k

theorem WrAt.wrote {T : TypeId} {w : World} {b : Nat} {v : Value} {bs : List UInt8} (h : WrAt T w b v bs) : Wrote T w b v w v bs := ⟨h, Only.refl _ _, fun _ hk => Or.inl hk⟩

theorem Wrote.trans {T : TypeId} {w w1 w2 : World} {b : Nat} {v v1 v2 : Value} {c1 c2 : List UInt8} (h : Wrote T w b v w1 v1 c1) (k : Wrote T w1 b v1 w2 v2 c2) : Wrote T w b v w2 v2 c2 :=
  ⟨k.now, h.only.trans k.only (fun i hi e => by
      rcases e with e | e
      · exact Or.inl e
      · rcases h.fresh i e with e | e
        · exact Or.inr e
        · omega),
   fun i hi => by
      rcases k.fresh i hi with e | e
      · exact h.fresh i e
      · exact Or.inr (Nat.le_trans h.only.size e)⟩

theorem WrAt.pushed {T : TypeId} {w w' : World} {b : Nat} {v : Value} {bs : List UInt8} (o : Obj) (h : WrAt T w b v bs) (hw : w' = (w.alloc o).drew) : Wrote T w b v w' v bs := by
  subst hw
  exact ⟨h.push rfl, ((Only.refl _ _).alloc o).drew, fun _ hk => Or.inl hk⟩

theorem WrAt.laid {T : TypeId} {w : World} {b : Nat} {v : Value} {bs : List UInt8} (o : Obj) (h : WrAt T w b v bs) : Wrote T w b v (w.alloc o) v bs :=
  ⟨h.push rfl, (Only.refl _ _).alloc o, fun _ hk => Or.inl hk⟩

/-- what the field's append and store make of the writer -/
theorem WrAt.stored {T : TypeId} {w1 w2 : World} {b : Nat} {v v2 : Value} {ys us : List UInt8} (h : WrAt T w1 b v ys) (hT : T ≠ 5) (hb2 : w2.heap[b]? = some (.cells #[v] T (0, 0)))
    (own : w2.ownsRow 0 5 1 v2 (ys.length + us.length) (ys.map bv ++ us.map bv)) (gr : w1.grownBy w2 v.ownBlock) (hat : v2.ownBlock = v.ownBlock ∨ v2.ownBlock = some w1.heap.size) :
    Wrote T w1 b v (w2.setCell ⟨b, 0, none⟩ v2) v2 (ys ++ us) := by
  have hlt := (Array.getElem?_eq_some_iff.1 h.blk).1
  have hne : some b ≠ v2.ownBlock := by
    rcases hat with e | e
    · rw [e]; exact h.ne hT
    · rw [e]; intro c; simp at c; omega
  refine ⟨⟨one_setCell hb2, ?_⟩, ?_, ?_⟩
  · have e : (ys ++ us).map bv = ys.map bv ++ us.map bv := by simp
    rw [e, List.length_append]
    exact ((Only.refl (fun k => k = b) w2).setCell (fun _ => rfl) _).owns own (fun k hk e => hne (by rw [hk, e]))
  · exact (((Only.refl (fun k => k = b ∨ v.ownBlock = some k) w1).grown gr (fun k hk _ => Or.inr hk)).setCell (fun _ => Or.inl rfl) _)
  · intro k hk
    rcases hat with e | e
    · exact Or.inl (by rw [← e]; exact hk)
    · rw [e] at hk; simp at hk; omega

/-- the lowest 'width' bytes of n, the highest first -/
def be : Nat → Nat → List UInt8
  | 0, _ => []
  | k + 1, n => UInt8.ofNat (n / 2 ^ (8 * k)) :: be k n

/-- an int as a uint64 -/
def toU64 (n : Int) : Nat := (IntKind.u64.wrap n).toNat

theorem be_length (k n : Nat) : (be k n).length = k := by induction k with
  | zero => rfl
  | succ k ih => simp [be, ih]

theorem shr_be (n m : Nat) (hm : m ≤ 7) : Op.shift BinOp.shr IntKind.u64 (n : Int) IntKind.i64 (IntKind.i64.wrap (8 * (m : Int))) = pure (.int .u64 ((n / 2 ^ (8 * m) : Nat) : Int)) := by
  have e : IntKind.i64.wrap (8 * (m : Int)) = ((8 * m : Nat) : Int) := by rw [IntKind.wrap_i64]; omega
  rw [e, shift_shr_any _ _ _ _ (by omega)]
  congr 2
  rw [Int.toNat_natCast, show min (8 * m) IntKind.u64.bits = 8 * m from by have : IntKind.u64.bits = 64 := rfl; omega]
  simp

theorem bv_wrap (q : Nat) : Value.int .u8 (IntKind.u8.wrap (q : Int)) = bv (UInt8.ofNat q) := by
  unfold bv
  rw [IntKind.wrap_u8']
  congr 1

theorem bv_div (n m q : Nat) (hq : q = n / 2 ^ (8 * m)) : Value.int .u8 ((n : Int) / 2 ^ (8 * m) % 256) = bv (UInt8.ofNat q) := by
  subst hq
  unfold bv
  congr 1

theorem be_take (k n j : Nat) (h : j < k) : (be k n).take (j + 1) = (be k n).take j ++ [UInt8.ofNat (n / 2 ^ (8 * (k - 1 - j)))] := by
  induction k generalizing j with
  | zero => omega
  | succ k ih =>
    cases j with
    | zero => simp [be]
    | succ j =>
      simp only [be, List.take_succ_cons, List.cons_append]
      rw [ih j (by omega), show k + 1 - 1 - (j + 1) = k - 1 - j by omega]

end Go.Proofs.YtadpmninoghcjaaDoor
