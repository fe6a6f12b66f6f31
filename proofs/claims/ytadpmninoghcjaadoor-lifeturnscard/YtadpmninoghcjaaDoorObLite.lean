/-
  What texts about objects share: the zero object's cells, a new object in a block, lists that are owned.
-/
import Derived.Test.YtadpmninoghcjaaDoorObMem
import Derived.Test.YtadpmninoghcjaaDoorStr
import Derived.Deep.AppendLies
namespace Go.Proofs.YtadpmninoghcjaaDoor
open Go.RowKit
set_option linter.unusedSimpArgs false
set_option linter.unusedVariables false
namespace Ob
theorem Tryd.rowObj : (Tryd.prog.underlying 32).map (·.isRow) = some true := by kernel_rfl
theorem Tryd.sizeObj : (Tryd.prog.info? 32).map (·.size) = some 37 := by kernel_rfl
theorem row_desc {t : TypeId} (h : (Tryd.prog.underlying t).map (·.isRow) = some true) : ∃ d, Tryd.prog.underlying t = some d ∧ d.isRow = true := by
  cases hd : Tryd.prog.underlying t with
  | none => rw [hd] at h; cases h
  | some d => rw [hd] at h; exact ⟨d, rfl, by simpa using h⟩
theorem range_at {w : World} {b o : Nat} {cs : List Value} (h : w.rangeAt b o cs) (i : Nat) (v : Value) (hv : cs[i]? = some v) : w.cell? ⟨b, o + i, none⟩ = some v := h i v hv
theorem mem_take_succ {α : Type} (xs : List α) (k : Nat) (hk : k < xs.length) (x : α) : x ∈ xs.take (k + 1) ↔ x ∈ xs.take k ∨ x = xs[k] := by
  rw [List.take_succ_eq_append_getElem hk, List.mem_append, List.mem_singleton]
def memB {α : Type} [DecidableEq α] (x : α) (xs : List α) : Bool := decide (x ∈ xs)
theorem memB_true {α : Type} [DecidableEq α] {x : α} {xs : List α} (h : x ∈ xs) : memB x xs = true := decide_eq_true h
theorem memB_false {α : Type} [DecidableEq α] {x : α} {xs : List α} (h : ¬ x ∈ xs) : memB x xs = false := decide_eq_false h
theorem memB_iff {α : Type} [DecidableEq α] {x : α} {xs : List α} : memB x xs = true ↔ x ∈ xs := by unfold memB; exact decide_eq_true_iff
theorem memB_not {α : Type} [DecidableEq α] {x : α} {xs : List α} : memB x xs = false ↔ ¬ x ∈ xs := by unfold memB; exact decide_eq_false_iff_not
/-- append of elements that are read somewhere onto a row that is owned -/
theorem app_hasF {P : Program} {α : Type} (w : World) (base : Nat) (t ty e : TypeId) (i : TypeInfo) (z : Value) (m bt : Nat) (f : α → List Value) (ht : P.underlying t = some (.slice e)) (hi : P.info? e = some i) (hz : i.zero = some z) (hsize : i.size = m) (hby : i.bytes = bt) (hzs : z.cells.size = m) (hm0 : 0 < m)
    (v : Value) (n : Nat) (xs : List Value) (hown : w.ownsRow base e m v n xs) (xv : Value) (ys : List α) (hy0 : 0 < ys.length) (hx : HasF w xv m f ys) (h1 : ∀ y ∈ ys, ∀ u ∈ f y, u.oneCell' = true) (hm : n + ys.length ≤ maxLen) (h63 : (n + ys.length) * bt ≤ 140737488355328) (hbase : base ≤ w.heap.size) :
    ∃ v' w', (Builtin.append_ #[t, t] ty #[v, xv]).run P w = .ok v' w' ∧ w'.ownsRow base e m v' (n + ys.length) (xs ++ ys.flatMap f) ∧ w.grownBy w' v.ownBlock ∧ (v'.ownBlock = v.ownBlock ∨ v'.ownBlock = some w.heap.size) := by
  obtain ⟨ao, cap, rfl, h2, h3, h4⟩ := hx.has
  obtain ⟨b, o, rfl, hb, hr⟩ := h4 hy0
  obtain ⟨v', w', hrun, g2, g3, _, g5⟩ := run_append_own_at (P := P) w base t ty e i z m bt ht hi hz hsize hby hzs hm0 v n xs hown ⟨b, o, none⟩ ys.length cap (ys.flatMap f) (flat_length f m ys hx.wide)
    (fun j u hu => by rw [addr_add _ rfl]; exact hr j u hu)
    (fun u hu => by obtain ⟨y, hy, hu2⟩ := List.mem_flatMap.1 hu; exact h1 y hy u hu2) hm h63 hbase
  exact ⟨v', w', hrun, g2, g3, g5⟩
theorem wpList_app {P : Program} {w : World} {ops : Array Oper} {rest : List Oper} {o : Oper} {a : Act} {Q : Exit → Act → World → Prop} (hgd : o.guard = none) (s x : Operand) (t : TypeId)
    (ho : o.op = .call { callee := .builtin .append, args := #[s, x], argTypes := #[t, t] }) (v xv v' : Value) (w' : World) (hs : a.eval s = v) (hx : a.eval x = xv)
    (hrun : (Builtin.append_ #[t, t] o.type #[v, xv]).run P w = .ok v' w') (h : wpList P ops Q rest (a.put o.dst v') w') : wpList P ops Q (o :: rest) a w :=
  wpList_plain hgd fun K hK => by
    unfold Oper.wp execOp
    simp only [ho, resolve, invoke, builtin, Sem.run_bind, Sem.run_pure, Result.andThen_ok, List.map_toArray, List.map_cons, List.map_nil, hs, hx, hrun]
    exact hK _ _ h
/-- a literal of one element -/
theorem hasF_one {α : Type} {w : World} {g : Nat} {t : TypeId} {m : Nat} {f : α → List Value} {x : α} (h : Bx w g t (f x)) (hm : (f x).length = m) : HasF w (.slice (some ⟨g, 0, none⟩) 1 1) m f [x] := by
  refine ⟨⟨_, 1, rfl, Nat.le_refl _, by unfold maxLen; omega, fun _ => ⟨g, 0, rfl, h.lt, ?_⟩⟩, fun y hy => by rw [List.mem_singleton.1 hy]; exact hm⟩
  have hr := h.range 0 (f x).length
  rw [List.drop_zero, List.take_of_length_le (Nat.le_refl _)] at hr
  simpa using hr
theorem hasF_own {α : Type} {w : World} {base e m n : Nat} {v : Value} {f : α → List Value} {xs : List α} (h : w.ownsRow base e m v n (xs.flatMap f)) (hf : ∀ x ∈ xs, (f x).length = m) (hn : n = xs.length) : HasF w v m f xs := by
  subst hn
  rcases h.2 with ⟨rfl, h0⟩ | ⟨g, cap, cur, rfl, hb, hg, hc, hm, hcs, ht⟩
  · refine ⟨⟨none, 0, by rw [h0], by omega, Nat.zero_le _, fun h1 => by omega⟩, hf⟩
  · refine ⟨⟨_, cap, rfl, hc, hm, fun _ => ⟨g, 0, rfl, lt_of_block hg, fun j u hu => ?_⟩⟩, hf⟩
    have := h.cells (g := g) rfl j u hu
    rwa [addr_add _ rfl] at this
theorem Tryd.infoGs : (Tryd.prog.info? 9).map (fun i => (i.zero, i.size, i.bytes)) = some (some (.string ⟨#[]⟩), 1, 16) := by kernel_rfl
theorem Tryd.infoGk : (Tryd.prog.info? 67).map (fun i => (i.zero, i.size, i.bytes)) = some (some (.agg #[.int .i64 0, .string ⟨#[]⟩]), 2, 24) := by kernel_rfl
theorem Tryd.infoGc : (Tryd.prog.info? 71).map (fun i => (i.zero, i.size, i.bytes)) = some (some (.agg #[.string ⟨#[]⟩, .string ⟨#[]⟩]), 2, 32) := by kernel_rfl
/-- the cells of an object that has nothing -/
def Zo : List Value := [.string ⟨#[]⟩, .int .i64 0, .int .i64 0, .int .i64 0, .int .i64 0, .slice none 0 0, .int .i64 0, .bool false, .int .i64 0, .bool false, .int .i64 0, .bool false, .int .i64 0, .bool false, .int .i64 0, .bool false, .int .i64 0, .bool false, .int .i64 0, .bool false, .int .i64 0, .bool false, .int .i64 0, .bool false, .int .i64 0, .bool false, .int .i64 0, .int .i64 0, .string ⟨#[]⟩, .slice none 0 0, .slice none 0 0, .slice none 0 0, .bool false, .int .i64 0, .int .i64 0, .int .i64 0, .bool false]
theorem Zo_len : Zo.length = 37 := rfl
theorem zo_eq : List.toArray (Value.string ⟨#[]⟩ :: Value.int IntKind.i64 0 :: Value.int IntKind.i64 0 :: Value.int IntKind.i64 0 :: Value.int IntKind.i64 0 :: Value.slice none 0 0 :: Value.int IntKind.i64 0 :: Value.bool false :: Value.int IntKind.i64 0 :: Value.bool false :: Value.int IntKind.i64 0 :: Value.bool false :: Value.int IntKind.i64 0 :: Value.bool false :: Value.int IntKind.i64 0 :: Value.bool false :: Value.int IntKind.i64 0 :: Value.bool false :: Value.int IntKind.i64 0 :: Value.bool false :: Value.int IntKind.i64 0 :: Value.bool false :: Value.int IntKind.i64 0 :: Value.bool false :: Value.int IntKind.i64 0 :: Value.bool false :: Value.int IntKind.i64 0 :: Value.int IntKind.i64 0 :: Value.string ⟨#[]⟩ :: Value.slice none 0 0 :: Value.slice none 0 0 :: Value.slice none 0 0 :: Value.bool false :: Value.int IntKind.i64 0 :: Value.int IntKind.i64 0 :: Value.int IntKind.i64 0 :: Value.bool false :: []) = Zo.toArray := rfl
/-- zeros by twos: where the dates lie -/
theorem zo_date (k : Nat) (hk : k < 10) : Zo[7 + k * 2]? = some (.bool false) ∧ Zo[7 + k * 2 + 1]? = some (.int .i64 0) := by
  match k, hk with
  | 0, _ => exact ⟨rfl, rfl⟩
  | 1, _ => exact ⟨rfl, rfl⟩
  | 2, _ => exact ⟨rfl, rfl⟩
  | 3, _ => exact ⟨rfl, rfl⟩
  | 4, _ => exact ⟨rfl, rfl⟩
  | 5, _ => exact ⟨rfl, rfl⟩
  | 6, _ => exact ⟨rfl, rfl⟩
  | 7, _ => exact ⟨rfl, rfl⟩
  | 8, _ => exact ⟨rfl, rfl⟩
  | 9, _ => exact ⟨rfl, rfl⟩
  | k + 10, h => exact absurd h (by omega)
theorem Tryd.rowObjM : (Tryd.prog.underlying 32).map (fun d => match d with | .struct _ | .array _ _ => true | _ => false) = some true := by kernel_rfl
theorem cells_one (o : Ob) (mv nv lv cv : Value) (h1 : mv.oneCell' = true) (h2 : nv.oneCell' = true) (h3 : lv.oneCell' = true) (h4 : cv.oneCell' = true) : ∀ u ∈ cells o mv nv lv cv, u.oneCell' = true := by
  intro u hu
  unfold cells at hu
  rcases List.mem_append.1 hu with hu | hu
  · unfold front at hu
    simp only [List.mem_cons, List.not_mem_nil, or_false] at hu
    rcases hu with rfl | rfl | rfl | rfl | rfl | rfl | rfl <;> first | rfl | assumption
  · rcases List.mem_append.1 hu with hu | hu
    · obtain ⟨d, _, hd⟩ := List.mem_flatMap.1 hu
      unfold dcells at hd
      simp only [List.mem_cons, List.not_mem_nil, or_false] at hd
      rcases hd with rfl | rfl <;> rfl
    · unfold back at hu
      simp only [List.mem_cons, List.not_mem_nil, or_false] at hu
      rcases hu with rfl | rfl | rfl | rfl | rfl | rfl | rfl | rfl | rfl | rfl <;> first | rfl | assumption
theorem setCells_blk {b : Nat} {t : TypeId} (vs : List Value) : ∀ (w : World) (o : Nat) (cs : List Value), Bx w b t cs → Bx (w.setCells b o vs) b t (setMany cs o vs) := by
  induction vs with
  | nil => intro w o cs h; exact h
  | cons v r ih => intro w o cs h; exact ih _ _ _ (h.set o v)
theorem setCells_bx {w : World} {b : Nat} {t : TypeId} {cs : List Value} (h : Bx w b t cs) (vs : List Value) (hl : vs.length = cs.length) : Bx (w.setCells b 0 vs) b t vs := by
  have := setCells_blk vs w 0 cs h
  rw [setMany_eq vs cs 0 (by omega), List.take_zero, List.nil_append, Nat.zero_add, List.drop_of_length_le (by omega), List.append_nil] at this
  exact this
theorem blk_own (ao : Option Addr) (n c : Nat) : blk (.slice ao n c) = Value.ownBlock (.slice ao n c) := by cases ao <;> rfl
/-- all four lie in blocks from 'base' on -/
def Fresh4 (base : Nat) (mv nv lv cv : Value) : Prop := ∀ j, (blk mv = some j ∨ blk nv = some j ∨ blk lv = some j ∨ blk cv = some j) → base ≤ j
theorem In.off {S : Nat → Prop} {w w' : World} {o : Ob} {mv nv lv cv : Value} (h : In w o mv nv lv cv) (ho : Only S w w') (hS : ∀ j, (blk mv = some j ∨ blk nv = some j ∨ blk lv = some j ∨ blk cv = some j) → ¬ S j) : In w' o mv nv lv cv :=
  ⟨h.mat.only ho (fun _ j hj => hS j (Or.inl hj)), h.names.only ho (fun _ j hj => hS j (Or.inr (Or.inl hj))), h.links.only ho (fun _ j hj => hS j (Or.inr (Or.inr (Or.inl hj)))), h.custom.only ho (fun _ j hj => hS j (Or.inr (Or.inr (Or.inr hj)))), h.ten, h.ints, h.dats, h.lks, h.strs⟩
theorem results_st {fn : Func} {p : Tmp} {ty : TypeId} (h : fn.results = #[.cell p ty]) (tmps : Array Value) (w : World) (g : Nat) (t : TypeId) (cs : Array Value) (fr : Nat × Nat)
    (hp : tmps.getD p undef = .pointer (some ⟨g, 0, none⟩)) (hg : w.heap[g]? = some (.cells cs t fr))
    (hu : (Tryd.prog.underlying ty).map (fun d => match d with | .struct _ | .array _ _ => true | _ => false) = some true) (hi : (Tryd.prog.info? ty).map (·.size) = some cs.size) :
    (results fn tmps).run Tryd.prog w = .ok (.agg cs) w := by
  cases hd : Tryd.prog.underlying ty with
  | none => rw [hd] at hu; cases hu
  | some d =>
    rw [hd] at hu
    cases d <;> first | exact results_cell_row h tmps w g t cs fr _ hp hg hd rfl hi | (simp at hu)
theorem results_st2 {fn : Func} {p u : Tmp} {ty : TypeId} (h : fn.results = #[.cell p ty, .tmp u]) (tmps : Array Value) (w : World) (g : Nat) (t : TypeId) (cs : Array Value)
    (hp : tmps.getD p undef = .pointer (some ⟨g, 0, none⟩)) (hg : w.heap[g]? = some (.cells cs t (0, 0)))
    (hu : (Tryd.prog.underlying ty).map (fun d => match d with | .struct _ | .array _ _ => true | _ => false) = some true) (hi : (Tryd.prog.info? ty).map (·.size) = some cs.size) :
    (results fn tmps).run Tryd.prog w = .ok (.tuple #[.agg cs, tmps.getD u undef]) w := by
  have hp' : tmps[p]?.getD undef = .pointer (some ⟨g, 0, none⟩) := by simpa using hp
  cases hd : Tryd.prog.underlying ty with
  | none => rw [hd] at hu; cases hu
  | some d =>
    rw [hd] at hu
    cases d <;> first | (simp [results, h, hp', asAddr, run_loadVar_row w g t ty cs (0, 0) _ hg hd rfl hi]; done) | (simp at hu)
theorem fresh_none (b : Nat) : Fresh4 b (.slice none 0 0) (.slice none 0 0) (.slice none 0 0) (.slice none 0 0) := by intro j hj; simp [blk] at hj
theorem in_zero (w : World) : In w zero (.slice none 0 0) (.slice none 0 0) (.slice none 0 0) (.slice none 0 0) := by
  have z : W64 0 := ⟨by decide, by decide⟩
  refine ⟨Or.inl ⟨rfl, rfl⟩, hasF_nil _ _ _, hasF_nil _ _ _, hasF_nil _ _ _, rfl, ⟨z, z, z, z, z, z, z, z, z⟩, fun d hd => ?_, (fun k hk => by cases hk), ⟨Nat.zero_le _, Nat.zero_le _, (fun s hs => by cases hs), (fun s hs => by cases hs), (fun s hs => by cases hs)⟩⟩
  have : d = (false, 0) := List.eq_of_mem_replicate hd
  rw [this]; exact z
theorem zo_cells : Zo = cells zero (.slice none 0 0) (.slice none 0 0) (.slice none 0 0) (.slice none 0 0) := rfl
theorem zo_one : Zo.toArray.all (·.oneCell') = true := by
  apply all_oneCell_toArray
  rw [zo_cells]
  exact cells_one _ _ _ _ _ rfl rfl rfl rfl
theorem bx_there {w : World} {b : Nat} {t : TypeId} {cs : List Value} (h : Bx w b t cs) (n : Nat) (hn : n = cs.length) : w.there b 0 n := by
  subst hn
  intro j hj
  rw [Nat.zero_add]
  refine ⟨?_, h.free j⟩
  rw [h.cell j _ (List.getElem?_eq_getElem hj)]
  rfl
/-- an object's value that is put into a variable -/
theorem made37 (x : World) (A : List Value) (hA : A.length = 37) : ∃ wy b, wy = (x.alloc (.cells Zo.toArray 32)).setCells x.heap.size 0 A.toArray.toList ∧ b = x.heap.size ∧ Bx wy b 32 A ∧ Only (fun _ => False) x wy ∧ (x.alloc (.cells Zo.toArray 32)).there x.heap.size 0 A.toArray.size := by
  refine ⟨_, _, rfl, rfl, ?_, Only.setCells (fun h => absurd h (by omega)) _ _ _ ((Only.refl _ x).alloc _), bx_there (Bx.new x 32 Zo) _ (by rw [List.size_toArray, hA]; rfl)⟩
  rw [List.toList_toArray]
  exact setCells_bx (Bx.new x 32 Zo) A (by rw [hA]; rfl)
end Ob
end Go.Proofs.YtadpmninoghcjaaDoor
