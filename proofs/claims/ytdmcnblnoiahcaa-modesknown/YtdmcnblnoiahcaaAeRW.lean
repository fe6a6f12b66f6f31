/-
  locksmithref8: New: its words, plain; words in memory.
-/
import Derived.Test.YtdmcnblnoiahcaaAeRNewA
import Derived.Test.YtdmcnblnoiahcaaAeKeys
namespace Go.Proofs.Ytdmcnblnoiahcaa
open Go.RowKit
set_option linter.unusedSimpArgs false
set_option linter.unusedVariables false
namespace Ae

theorem Try.sizeW : (Try.prog.info? 86).map (·.size) = some 4 := by kernel_rfl
theorem Try.underW : Try.prog.underlying 86 = some (.array 4 5) := by kernel_rfl
theorem Try.underWs : Try.prog.underlying 80 = some (.slice 86) := by kernel_rfl
def zero4 : List UInt8 := List.replicate 4 0
theorem Try.infoW : (Try.prog.info? 86).map (fun i => (i.zero, i.size, i.bytes)) = some (some (.agg (zero4.map bv).toArray), 4, 4) := by kernel_rfl
theorem zeros4_eq : (#[Value.int IntKind.u8 0, Value.int IntKind.u8 0, Value.int IntKind.u8 0, Value.int IntKind.u8 0] : Array Value) = (zero4.map bv).toArray := rfl

def loadW4 (v : Value) : Sem Value := Instr.loadAt 86 v
theorem execOp_loadW4 (ρ : Operand → Value) (dst : Option Tmp) (x : Operand) (ty : TypeId) (pos : String) (af : Array Edge) (gd : Option (Nat × Bool)) :
    execOp ρ { dst := dst, op := .load 86 x, type := ty, pos := pos, after := af, guard := gd } = (do pure (.value (← loadW4 (ρ x)))) := rfl
theorem loadW4_run {w : World} {b o : Nat} {s : List UInt8} (h : w.rangeAt b o (s.map bv)) (hs : s.length = 4) : (loadW4 (.pointer (some ⟨b, o, none⟩))).run Try.prog w = .ok (.agg (s.map bv).toArray) w :=
  run_loadAt_mid (P := Try.prog) w b o 86 (s.map bv) _ h Try.underW rfl (by rw [Try.sizeW]; simp [hs])
theorem there4 {x : World} {b : Nat} {old new : List UInt8} (h : Arr x b 86 old) (ho : old.length = 4) (hn : new.length = 4) : x.there b 0 (new.map bv).toArray.size := by
  have h1 := h.there 4 ho.symm
  rw [List.size_toArray, List.length_map, hn]
  exact h1
theorem size4s {new : List UInt8} (hn : new.length = 4) : (Try.prog.info? 86).map (·.size) = some (new.map bv).toArray.size := by
  rw [List.size_toArray, List.length_map, hn]
  exact Try.sizeW
theorem restored4 (x : World) (b : Nat) (old new : List UInt8) (h : Arr x b 86 old) (hl : new.length = old.length) : ∃ wy, wy = x.setCells b 0 (new.map bv).toArray.toList ∧ Arr wy b 86 new ∧ Only (fun j => j = b) x wy :=
  ⟨_, rfl, h.stored new hl, Only.setCells (S := fun j => j = b) (fun _ => rfl) _ _ _ (Only.refl _ x)⟩
theorem fresh4 (x : World) : ∃ wy b, wy = x.alloc (.cells (zero4.map bv).toArray 86) ∧ b = x.heap.size ∧ Arr wy b 86 zero4 ∧ Only (fun _ => False) x wy :=
  ⟨_, _, rfl, rfl, Arr.new x 86 zero4 _ rfl, (Only.refl _ x).alloc _⟩

/-- [][4]byte{l} -/
theorem buildSlice_w (l : List UInt8) (hl : l.length = 4) (w : World) : (Instr.buildSlice 80 1 #[(0, .agg (l.map bv).toArray)]).run Try.prog w = .ok (.slice (some ⟨w.heap.size, 0, none⟩) 1 1) (w.alloc (.cells (l.map bv).toArray 86)) := by
  obtain ⟨x0, x1, x2, x3, rfl⟩ : ∃ x0 x1 x2 x3, l = [x0, x1, x2, x3] := by
    match l, hl with
    | [x0, x1, x2, x3], _ => exact ⟨_, _, _, _, rfl⟩
  kernel_rfl
theorem step_rowW {w : World} {ops : Array Oper} {o : Oper} {a : Act} {K : Act → World → Prop} {Q : Exit → Act → World → Prop} {E : Prop} (hgd : o.guard = none) (x : Operand)
    (ho : o.op = .buildSlice 80 1 #[(0, x)]) (l : List UInt8) (hl : l.length = 4) (hx : a.eval x = .agg (l.map bv).toArray)
    (h : K (a.put o.dst (.slice (some ⟨w.heap.size, 0, none⟩) 1 1)) (w.alloc (.cells (l.map bv).toArray 86))) : if Region.wanted o (yielded ops a.tmps) = true then Oper.wp Try.prog o a w K Q else E := by
  have hw : Region.wanted o (yielded ops a.tmps) = true := by simp [Region.wanted, hgd]
  rw [if_pos hw]
  unfold Oper.wp execOp
  simp only [ho, List.map_toArray, List.map_cons, List.map_nil, hx, Sem.run_bind, buildSlice_w l hl w, Result.andThen_ok, Sem.run_pure]
  exact h
theorem step_append_run' {P : Program} {w : World} {ops : Array Oper} {o : Oper} {a : Act} {K : Act → World → Prop} {Q : Exit → Act → World → Prop} {E : Prop} (hgd : o.guard = none) (s x : Operand) (t : TypeId)
    (ho : o.op = .call { callee := .builtin .append, args := #[s, x], argTypes := #[t, t] }) (v xv v' : Value) (w' : World) (hs : a.eval s = v) (hxv : a.eval x = xv)
    (hr : (Builtin.append_ #[t, t] o.type #[v, xv]).run P w = .ok v' w') (h : K (a.put o.dst v') w') : if Region.wanted o (yielded ops a.tmps) = true then Oper.wp P o a w K Q else E := by
  have hw : Region.wanted o (yielded ops a.tmps) = true := by simp [Region.wanted, hgd]
  rw [if_pos hw]
  unfold Oper.wp execOp
  simp only [ho, resolve, invoke, builtin, Sem.run_bind, Sem.run_pure, Result.andThen_ok, List.map_toArray, List.map_cons, List.map_nil, hs, hxv, hr]
  exact h
/-- one word more behind a row of words that is owned -/
theorem push4 (w : World) (base : Nat) (v : Value) (n : Nat) (xs l : List UInt8) (hl : l.length = 4) (own : w.ownsRow base 86 4 v n (xs.map bv)) (hn : n ≤ 100) (hb : base ≤ w.heap.size) :
    ∃ g cap w2, (Builtin.append_ #[80, 80] 80 #[v, .slice (some ⟨w.heap.size, 0, none⟩) 1 1]).run Try.prog (w.alloc (.cells (l.map bv).toArray 86)) = .ok (.slice (some ⟨g, 0, none⟩) (n + 1) cap) w2 ∧
      w2.ownsRow base 86 4 (.slice (some ⟨g, 0, none⟩) (n + 1) cap) (n + 1) ((xs ++ l).map bv) ∧ Only (fun j => v.ownBlock = some j) w w2 := by
  obtain ⟨i0, hi, hz0, hz1, hz2⟩ := info_parts Try.infoW
  have hArr := Arr.new w 86 l _ rfl
  obtain ⟨v', w2, hrun, own2, gr, _, _⟩ := run_append_own_at (P := Try.prog) (w.alloc (.cells (l.map bv).toArray 86)) base 80 80 86 i0 (.agg (zero4.map bv).toArray) 4 4 Try.underWs hi hz0 hz1 hz2 rfl (by decide) v n _ (own.alloc _)
    ⟨w.heap.size, 0, none⟩ 1 1 (l.map bv) (by simp [hl]) (fun j u hu => by rw [addr_add _ rfl, Nat.zero_add]; have := hArr.range j u hu; rwa [Nat.zero_add] at this) (fun u hu => by obtain ⟨y, _, rfl⟩ := List.mem_map.1 hu; rfl) (by unfold maxLen; omega) (by omega) (by simp; omega)
  obtain ⟨g, cap, rfl⟩ := ownsRow_succ own2
  rw [← List.map_append] at own2
  exact ⟨g, cap, w2, hrun, own2, ((Only.refl _ w).alloc _).grown gr (fun j hj hlt => hj)⟩

/-- the words behind i rounds, and the mark -/
def rw' (L : Nat) (key : List UInt8) (i : Nat) : List UInt8 × UInt8 := if i < L / 4 then (key.take (4 * i), 1) else expd L key (i - L / 4)
theorem rw_first (L : Nat) (key : List UInt8) (hk : key.length = L) (h4 : 4 * (L / 4) = L) (i : Nat) (hi : i < L / 4) : rw' L key (i + 1) = ((rw' L key i).1 ++ (key.drop (4 * i)).take 4, (rw' L key i).2) := by
  unfold rw'
  rw [if_pos hi]
  by_cases h : i + 1 < L / 4
  · rw [if_pos h]
    simp only []
    rw [show 4 * (i + 1) = 4 * i + 4 by omega, List.take_add]
  · rw [if_neg h, show i + 1 - L / 4 = 0 by omega]
    show (key, 1) = _
    congr 1
    rw [show 4 = 4 * (i + 1) - 4 * i by omega] 
    rw [show 4 * (i + 1) - 4 * i = 4 by omega, ← List.take_add, List.take_of_length_le (by omega)]
theorem rw_then (L : Nat) (key : List UInt8) (i : Nat) (hi : ¬ i < L / 4) : rw' L key (i + 1) = stepK L (rw' L key i) := by
  unfold rw'
  rw [if_neg hi, if_neg (by omega), show i + 1 - L / 4 = (i - L / 4) + 1 by omega]
  rfl
theorem rw_length (L : Nat) (key : List UInt8) (hk : key.length = L) (h4 : 4 * (L / 4) = L) (i : Nat) : (rw' L key i).1.length = 4 * i := by
  unfold rw'
  split
  · simp; omega
  · rw [expd_length L key hk]
    omega
/-- the word ahead -/
def prev (ws : List UInt8) : List UInt8 := [gt ws (ws.length - 4), gt ws (ws.length - 4 + 1), gt ws (ws.length - 4 + 2), gt ws (ws.length - 4 + 3)]
theorem prev_drop (ws : List UInt8) (h : 4 ≤ ws.length) : prev ws = ws.drop (ws.length - 4) := by
  apply List.ext_getElem?
  intro j
  rw [List.getElem?_drop]
  by_cases hj : j < 4
  · rw [gt_some ws (ws.length - 4 + j) (by omega)]
    rcases (show j = 0 ∨ j = 1 ∨ j = 2 ∨ j = 3 by omega) with rfl | rfl | rfl | rfl <;> rfl
  · rw [List.getElem?_eq_none (by simp [prev]; omega), List.getElem?_eq_none (by omega)]
theorem next_at (L : Nat) (ws W : List UInt8) (j : Nat) (hj : j < 4) : (next L ws W 4)[j]? = some (gt ws (ws.length - L + j) ^^^ gt W j) := by
  unfold next
  rw [List.getElem?_map, List.getElem?_range hj]
  rfl

theorem there_at {w : World} {b : Nat} {cs : Array Value} {t : TypeId} (h : w.heap[b]? = some (.cells cs t (0, 0))) (o n : Nat) (hn : o + n ≤ cs.size) : w.there b o n := by
  intro j hj
  refine ⟨?_, by simp [World.frozen?, h]⟩
  rw [cell_of_row w b (o + j) _ _ _ h]
  simp
  omega
theorem there_two {x : World} {b : Nat} {cs : List Value} {t : TypeId} (A : List Value) (h : x.heap[b]? = some (.cells cs.toArray t (0, 0))) (o : Nat) (ho : o + A.length ≤ cs.length) (p n : Nat) (hp : p + n ≤ cs.length) : (x.setCells b o A).there b p n := by
  have h1 := setCells_block A x o cs h
  rw [setMany_eq _ _ _ ho] at h1
  exact there_at h1 p n (by simp; omega)

/-- copy(w[:], four bytes that are read) -/
theorem copy4 {x : World} {b8 : Nat} {old X : List UInt8} (h : Arr x b8 86 old) (ho : old.length = 4) (hX : X.length = 4) (ad : Addr) (sc : Nat) (hsrc : ∀ j v, (X.map bv)[j]? = some v → x.cell? (ad.add j) = some v) :
    ∃ w', (Builtin.copy_ #[22, 22] 3 #[.slice (some ⟨b8, 0, none⟩) 4 4, .slice (some ad) 4 sc]).run Try.prog x = .ok (.int .i64 4) w' ∧ Arr w' b8 86 X ∧ Only (fun j => j = b8) x w' := by
  have hr := run_copy_row (P := Try.prog) x 22 22 3 5 b8 0 4 4 ad 4 sc (old.map bv).toArray 86 (X.map bv) Try.underlying22 Try.size5 h.out
    (by rw [List.length_map, hX]; rfl) hsrc (by simp [ho, hX]) (fun v hv => by obtain ⟨y, _, rfl⟩ := List.mem_map.1 hv; rfl)
  rw [List.length_map, hX] at hr
  refine ⟨_, hr, ?_, ⟨rfl, rfl, rfl, by simp [World.setRow], fun j _ hj => setRow_other x b8 j _ hj⟩⟩
  unfold Arr
  rw [setRow_heap x b8 _ _ _ _ h.out]
  simp [ho, hX]

/-- a Cipher that is being made: its first i words, in a row that is its own -/
def RIn (w6 : World) (base cb i : Nat) (ws A B : List UInt8) (wr : World) : Prop := ∃ ao cap, wr.heap[cb]? = some (.cells ([Value.slice ao i cap] ++ (A.map bv ++ B.map bv)).toArray 83 (0, 0)) ∧ wr.ownsRow base 86 4 (.slice ao i cap) i (ws.map bv) ∧ Only (fun j => j = cb) w6 wr

theorem word_rangeAt {wr : World} {base g cap k : Nat} {ws : List UInt8} (h : wr.ownsRow base 86 4 (.slice (some ⟨g, 0, none⟩) k cap) k (ws.map bv)) (hl : ws.length = 4 * k) (i : Nat) (hi : i < k) : wr.rangeAt g (i * 4) (((ws.drop (4 * i)).take 4).map bv) := by
  intro j v hv
  have hj : j < 4 := by have := (List.getElem?_eq_some_iff.1 hv).1; simp at this; omega
  have hc := h.cells (g := g) rfl (4 * i + j) v (by
    rw [List.getElem?_map] at hv ⊢
    rw [List.getElem?_take, if_pos hj, List.getElem?_drop] at hv
    exact hv)
  rw [addr_add _ rfl] at hc
  rw [show i * 4 + j = 0 + (4 * i + j) by omega]
  exact hc
theorem word_cell {wr : World} {base g cap k : Nat} {ws : List UInt8} (h : wr.ownsRow base 86 4 (.slice (some ⟨g, 0, none⟩) k cap) k (ws.map bv)) (hl : ws.length = 4 * k) (i j : Nat) (hi : i < k) (hj : j < 4) : wr.cell? ⟨g, i * 4 + j, none⟩ = some (.int .u8 ((gt ws (4 * i + j)).toNat : Int)) := by
  have hc := h.cells (g := g) rfl (4 * i + j) (bv (gt ws (4 * i + j))) (by rw [List.getElem?_map, gt_some ws _ (by omega)]; rfl)
  rw [addr_add _ rfl] at hc
  rw [show i * 4 + j = 0 + (4 * i + j) by omega]
  exact hc

end Ae
end Go.Proofs.Ytdmcnblnoiahcaa
