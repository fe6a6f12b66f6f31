/-
  Operations on structs of many cells that lie in a block of their own, as a walk meets them.
-/
import Derived.Test.YtmcobkcnpnfobaaDkMem
namespace Go.Proofs.Ytmcobkcnpnfobaa
open Go.RowKit
set_option linter.unusedSimpArgs false
set_option linter.unusedVariables false

/-- a whole value into the block that was made last -/
theorem wpList_store_new {P : Program} {w : World} {ops : Array Oper} {rest : List Oper} {o : Oper} {a : Act} {Q : Exit → Act → World → Prop} (hgd : o.guard = none) (ty : TypeId) (x y : Operand) (ho : o.op = .store ty x y)
    (W : World) (Z C : Array Value) (hw : w = W.alloc (.cells Z ty)) (hx : a.eval x = .pointer (some ⟨W.heap.size, 0, none⟩)) (hy : a.eval y = .agg C) (hi : (P.info? ty).map (·.size) = some C.size) (hZ : Z.size = C.size) (h1 : C.all (·.oneCell') = true)
    (h : wpList P ops Q rest (a.put o.dst undef) (W.alloc (.cells C ty))) : wpList P ops Q (o :: rest) a w :=
  wpList_plain hgd fun K hK => by
    subst hw
    have hr := run_storeVar_new (P := P) W ty Z C hi hZ h1
    unfold Oper.wp execOp
    simp only [ho, hx, hy, Instr.storeAt, Instr.sureAddr, Sem.run_bind, Sem.run_pure, Result.andThen_ok, hr]
    exact hK _ _ h

theorem range_new (W : World) (C : Array Value) (t : TypeId) : (W.alloc (.cells C t)).rangeAt W.heap.size 0 C.toList := fun j v hv => by
  rw [Nat.zero_add, cell_of_row _ _ _ _ _ _ (heap_alloc_last W _)]
  simpa using hv

/-- copy(p.data[:], data): the whole of the array that lies behind the first cell of the block made last -/
theorem wpList_copy_new {P : Program} {w : World} {ops : Array Oper} {rest : List Oper} {o : Oper} {a : Act} {Q : Exit → Act → World → Prop} (hgd : o.guard = none) (d s : Operand) (t : TypeId)
    (ho : o.op = .call { callee := .builtin .copy, args := #[d, s], argTypes := #[t, t] }) (e : TypeId) (hu : P.underlying t = some (.slice e)) (hsz : (P.info? e).map (·.size) = some 1)
    (W : World) (ty : TypeId) (c0 : Value) (zs : List Value) (n : Nat) (hzs : zs.length = n) (hw : w = W.alloc (.cells (c0 :: zs).toArray ty)) (hd : a.eval d = .slice (some ⟨W.heap.size, 1, none⟩) n n) (xv : Value) (us : List UInt8) (hs : a.eval s = xv) (hx : Has W xv us) (hn : us.length = n) (h0 : 0 < n)
    (h : wpList P ops Q rest (a.put o.dst (goInt n)) (W.alloc (.cells (c0 :: us.map bv).toArray ty))) : wpList P ops Q (o :: rest) a w := by
  have hx' : Has w xv us := by subst hw; exact hx.only ((Only.refl (fun _ => False) W).alloc _) (fun _ _ _ h => h)
  rcases hx' with ⟨_, rfl⟩ | ⟨ad, cap', rfl, hsp, _, _, _, hcell⟩
  · simp at hn; omega
  · have hg : w.heap[W.heap.size]? = some (.cells (c0 :: zs).toArray ty (0, 0)) := by subst hw; exact heap_alloc_last W _
    refine wpList_copy_own hgd d s t t ho _ hu hsz W.heap.size 1 n n ad _ _ hd hs _ ty hg (us.map bv) (by simp [hn, Nat.min_def]) ?_ (by simp; omega) (bvs_one us) ?_
    · intro j u hju
      have hj : j < us.length := by have := (List.getElem?_eq_some_iff.1 hju).1; simpa using this
      rw [addr_add ad (hsp (by omega)), hcell j hj]
      simpa [hj] using hju
    · subst hw
      have e1 : goInt (us.map bv).length = goInt n := by simp [hn]
      rw [e1, World.setRow_alloc_new]
      have e2 : ((c0 :: zs).toArray.toList.take 1 ++ ((us.map bv) ++ (c0 :: zs).toArray.toList.drop (1 + (us.map bv).length))) = c0 :: us.map bv := by
        rw [show (c0 :: zs).toArray.toList.drop (1 + (us.map bv).length) = [] from List.drop_eq_nil_of_le (by simp; omega)]
        simp
      rw [e2]
      exact h

end Go.Proofs.Ytmcobkcnpnfobaa
