/-
  Dates and limits, held against one another.
-/
import Derived.Test.YtadpmninoghcjaaDoorObGrd
import Derived.Test.YtadpmninoghcjaaDoorHoMem
namespace Go.Proofs.YtadpmninoghcjaaDoor
open Go.RowKit
set_option linter.unusedSimpArgs false
set_option linter.unusedVariables false
namespace Ob.Cm
/-- a date's value -/
def dval (d : Bool × Int) : Value := .agg #[.bool d.1, .int .i64 d.2]
theorem Tryd.infoDate : (Tryd.prog.info? 24).map (fun i => (i.zero, i.size, i.bytes)) = some (some (.agg #[.bool false, .int .i64 0]), 2, 16) := by kernel_rfl
theorem Tryd.underDates : Tryd.prog.underlying 25 = some (.array 10 24) := by kernel_rfl
theorem Tryd.sizeDates : (Tryd.prog.info? 25).map (·.size) = some 20 := by kernel_rfl
theorem sizeD20 : (Tryd.prog.info? 25).map (·.size) = some 20 := Tryd.sizeDates
theorem Tryd.aggDate (w : World) : (isAgg 24).run Tryd.prog w = .ok true w := by kernel_rfl
theorem dates_ext (ds : List (Bool × Int)) (i : Nat) (d : Bool × Int) (hd : ds[i]? = some d) : (ds.flatMap dcells).toArray.extract (i * 2) (i * 2 + 2) = (dcells d).toArray := by
  have hi := (List.getElem?_eq_some_iff.1 hd).1
  have h0 := flat_at dcells 2 ds (fun _ _ => rfl) i 0 (by decide) d hd
  have h1 := flat_at dcells 2 ds (fun _ _ => rfl) i 1 (by decide) d hd
  have hl := dcells_len ds
  apply Array.ext'
  rw [Array.toList_extract]
  apply List.ext_getElem?
  intro j
  simp only [List.extract, List.getElem?_take, List.getElem?_drop]
  match j with
  | 0 => simpa using h0
  | 1 => simpa using h1
  | j + 2 =>
    rw [if_neg (by omega)]
    simp [dcells]
theorem int_beq (a b : Int) : (a == b) = decide (a = b) := by rw [Bool.eq_iff_iff]; simp
theorem bool_beq (a b : Bool) : (a == b) = decide (a = b) := by rw [Bool.eq_iff_iff]; simp
theorem map_two {α β : Type} {g : α → β} {l : List α} {x y : β} (h : l.map g = [x, y]) : ∃ a b, l = [a, b] ∧ g a = x ∧ g b = y := by
  match l, h with
  | [a, b], h => simp only [List.map_cons, List.map_nil, List.cons.injEq, and_true] at h; exact ⟨a, b, rfl, h.1, h.2⟩
  | [], h => simp at h
  | [_], h => simp at h
  | _ :: _ :: _ :: _, h => simp at h
theorem map_four {α β : Type} {g : α → β} {l : List α} {x y z u : β} (h : l.map g = [x, y, z, u]) : ∃ a b c d, l = [a, b, c, d] ∧ g a = x ∧ g b = y ∧ g c = z ∧ g d = u := by
  match l, h with
  | [a, b, c, d], h => simp only [List.map_cons, List.map_nil, List.cons.injEq, and_true] at h; exact ⟨a, b, c, d, rfl, h.1, h.2.1, h.2.2.1, h.2.2.2⟩
  | [], h => simp at h
  | [_], h => simp at h
  | [_, _], h => simp at h
  | [_, _, _], h => simp at h
  | _ :: _ :: _ :: _ :: _ :: _, h => simp at h
theorem date_eq (d e : Bool × Int) (w : World) : (Op.equalIn 9999 24 (dval d) (dval e)).run Tryd.prog w = .ok (decide (d = e)) w := by
  obtain ⟨b, n⟩ := d
  obtain ⟨c, m⟩ := e
  have hf : (Tryd.prog.fieldsOf 24).toList.map (fun f => (f.name == "_", f.type, f.offset)) = [(false, 4, 0), (false, 2, 1)] := by kernel_rfl
  have hu : Tryd.prog.underlying 24 = some (.struct (Tryd.prog.fieldsOf 24)) := by kernel_rfl
  unfold dval
  rw [run_equalIn_struct w 9998 24 _ _ hu (by kernel_rfl)]
  obtain ⟨f, g, hl, hf1, hf2⟩ := map_two hf
  rw [hl]
  clear hl hf
  · simp only [Prod.mk.injEq] at hf1 hf2
    obtain ⟨f1, f2, f3⟩ := hf1
    obtain ⟨g1, g2, g3⟩ := hf2
    have f1' : ¬ f.name = "_" := by intro e; rw [e] at f1; simp at f1
    have g1' : ¬ g.name = "_" := by intro e; rw [e] at g1; simp at g1
    have p1 : ∀ (x : Bool) (y : Int), (Go.part 4 #[Value.bool x, .int .i64 y] 0).run Tryd.prog w = .ok (.bool x) w := fun x y => by
      simp [Go.part, isAgg, run_underlying Tryd.underlying4]
    have p2 : ∀ (x : Bool) (y : Int), (Go.part 2 #[Value.bool x, .int .i64 y] 1).run Tryd.prog w = .ok (.int .i64 y) w := fun x y => by
      simp [Go.part, isAgg, run_underlying Tryd.underlying2]
    have q1 : (Op.equalIn 9998 4 (.bool b) (.bool c)).run Tryd.prog w = .ok (decide (b = c)) w := by rw [run_equalIn_bool' w 9997 4 b c Tryd.underlying4, bool_beq]
    have q2 : (Op.equalIn 9998 2 (.int .i64 n) (.int .i64 m)).run Tryd.prog w = .ok (decide (n = m)) w := by rw [run_equalIn_int w 9997 2 .i64 .i64 n m Tryd.underlying2, int_beq]
    have hde : decide ((b, n) = (c, m)) = (decide (b = c) && decide (n = m)) := by rw [Bool.eq_iff_iff]; simp
    rw [hde]
    generalize decide (b = c) = d1 at *
    generalize decide (n = m) = d2 at *
    simp only [Op.eqFields, f1', g1', ne_eq, not_false_eq_true, if_true, f2, f3, g2, g3, Sem.run_bind, p1, p2, Result.andThen_ok, q1]
    cases d1 <;> cases d2 <;> simp [p2, q2]
theorem dates_all (ds es : List (Bool × Int)) (h : ds.length = es.length) : ((List.range ds.length).all fun i => decide (ds[i]? = es[i]?)) = decide (ds = es) := by
  rw [Bool.eq_iff_iff, List.all_eq_true, decide_eq_true_eq]
  constructor
  · intro hh
    apply List.ext_getElem?
    intro i
    by_cases hi : i < ds.length
    · simpa using hh i (List.mem_range.2 hi)
    · rw [List.getElem?_eq_none (by omega), List.getElem?_eq_none (by omega)]
  · rintro rfl i _; simp
theorem run_equalIn_dates (ds es : List (Bool × Int)) (hx : ds.length = 10) (hy : es.length = 10) (w : World) :
    (Op.equalIn 10000 25 (.agg (ds.flatMap dcells).toArray) (.agg (es.flatMap dcells).toArray)).run Tryd.prog w = .ok (decide (ds = es)) w := by
  have hsz : ∀ w, (sizeOf 24).run Tryd.prog w = .ok 2 w := fun w => by
    obtain ⟨i0, hi0, hz0, hz1, hz2⟩ := info_parts Tryd.infoDate
    simp [sizeOf, typeInfo, hi0, hz1]
  have hpart : ∀ (ds : List (Bool × Int)) (i : Nat) (d : Bool × Int), ds[i]? = some d → (Go.part 24 (ds.flatMap dcells).toArray (i * 2)).run Tryd.prog w = .ok (dval d) w := fun ds i d hd => by
    unfold Go.part
    simp only [Sem.run_bind, Tryd.aggDate, Result.andThen_ok, if_true, hsz, Sem.run_pure]
    rw [dates_ext ds i d hd]
    rfl
  rw [← dates_all ds es (by omega), hx, List.range_eq_range', Op.equalIn]
  simp only [Sem.run_bind, run_underlying Tryd.underDates, Result.andThen_ok, hsz, Std.Legacy.Range.forIn_eq_forIn_range', Std.Legacy.Range.size, Nat.sub_zero, Nat.add_sub_cancel, Nat.div_one]
  have hl : ∀ i ∈ List.range' 0 10 1, i < 10 := fun i hi => by simpa using (List.mem_range'_1.1 hi).2
  generalize List.range' 0 10 1 = l at hl ⊢
  induction l with
  | nil => simp
  | cons i l ih =>
    have hi : i < 10 := hl i (by simp)
    obtain ⟨d, hd⟩ : ∃ d, ds[i]? = some d := ⟨_, List.getElem?_eq_getElem (by omega)⟩
    obtain ⟨e, he⟩ : ∃ d, es[i]? = some d := ⟨_, List.getElem?_eq_getElem (by omega)⟩
    simp only [List.forIn_cons, Sem.run_bind, hpart ds i d hd, hpart es i e he, date_eq d e w, Result.andThen_ok, List.all_cons, hd, he, Option.some.injEq]
    cases hb : decide (d = e)
    · simp
    · simp only [Bool.not_true, Bool.false_eq_true, if_false, Sem.run_pure, Result.andThen_ok, Bool.true_and]
      exact ih fun j hj => hl j (by simp [hj])
theorem eql_dates (ds es : List (Bool × Int)) (hx : ds.length = 10) (hy : es.length = 10) (w : World) :
    (binOp .eql 25 (.agg (ds.flatMap dcells).toArray) (.agg (es.flatMap dcells).toArray)).run Tryd.prog w = .ok (.bool (decide (ds = es))) w := by
  rw [run_eql_struct, run_equalIn_dates ds es hx hy w]
  rfl
theorem lim_eq (a b : Ob) (w : World) : (binOp .eql 30 (.agg #[.bool a.lh, .int .i64 a.lt, .int .i64 a.lc, .int .i64 a.lu]) (.agg #[.bool b.lh, .int .i64 b.lt, .int .i64 b.lc, .int .i64 b.lu])).run Tryd.prog w =
    .ok (.bool (decide (a.lh = b.lh) && decide (a.lt = b.lt) && decide (a.lc = b.lc) && decide (a.lu = b.lu))) w := by
  generalize a.lh = h1
  generalize a.lt = t1
  generalize a.lc = c1
  generalize a.lu = u1
  generalize b.lh = h2
  generalize b.lt = t2
  generalize b.lc = c2
  generalize b.lu = u2
  have hf : (Tryd.prog.fieldsOf 30).toList.map (fun f => (f.name == "_", f.type, f.offset)) = [(false, 4, 0), (false, 2, 1), (false, 2, 2), (false, 3, 3)] := by kernel_rfl
  have hu : Tryd.prog.underlying 30 = some (.struct (Tryd.prog.fieldsOf 30)) := by kernel_rfl
  rw [run_eql_struct, run_equalIn_struct w 9999 30 _ _ hu (by kernel_rfl)]
  obtain ⟨f, g, h, i, hl, hf1, hf2, hf3, hf4⟩ := map_four hf
  rw [hl]
  clear hl hf
  · simp only [Prod.mk.injEq] at hf1 hf2 hf3 hf4
    obtain ⟨f1, f2, f3⟩ := hf1
    obtain ⟨g1, g2, g3⟩ := hf2
    obtain ⟨k1, k2, k3⟩ := hf3
    obtain ⟨i1, i2, i3⟩ := hf4
    have f1' : ¬ f.name = "_" := by intro e; rw [e] at f1; simp at f1
    have g1' : ¬ g.name = "_" := by intro e; rw [e] at g1; simp at g1
    have k1' : ¬ h.name = "_" := by intro e; rw [e] at k1; simp at k1
    have i1' : ¬ i.name = "_" := by intro e; rw [e] at i1; simp at i1
    have p0 : ∀ (x : Bool) (y z u : Int), (Go.part 4 #[Value.bool x, .int .i64 y, .int .i64 z, .int .i64 u] 0).run Tryd.prog w = .ok (.bool x) w := fun x y z u => by
      simp [Go.part, isAgg, run_underlying Tryd.underlying4]
    have p1 : ∀ (x : Bool) (y z u : Int), (Go.part 2 #[Value.bool x, .int .i64 y, .int .i64 z, .int .i64 u] 1).run Tryd.prog w = .ok (.int .i64 y) w := fun x y z u => by
      simp [Go.part, isAgg, run_underlying Tryd.underlying2]
    have p2 : ∀ (x : Bool) (y z u : Int), (Go.part 2 #[Value.bool x, .int .i64 y, .int .i64 z, .int .i64 u] 2).run Tryd.prog w = .ok (.int .i64 z) w := fun x y z u => by
      simp [Go.part, isAgg, run_underlying Tryd.underlying2]
    have p3 : ∀ (x : Bool) (y z u : Int), (Go.part 3 #[Value.bool x, .int .i64 y, .int .i64 z, .int .i64 u] 3).run Tryd.prog w = .ok (.int .i64 u) w := fun x y z u => by
      simp [Go.part, isAgg, run_underlying Tryd.underlying3]
    have q0 : (Op.equalIn 9999 4 (.bool h1) (.bool h2)).run Tryd.prog w = .ok (decide (h1 = h2)) w := by rw [run_equalIn_bool' w 9998 4 h1 h2 Tryd.underlying4, bool_beq]
    have q1 : (Op.equalIn 9999 2 (.int .i64 t1) (.int .i64 t2)).run Tryd.prog w = .ok (decide (t1 = t2)) w := by rw [run_equalIn_int w 9998 2 .i64 .i64 t1 t2 Tryd.underlying2, int_beq]
    have q2 : (Op.equalIn 9999 2 (.int .i64 c1) (.int .i64 c2)).run Tryd.prog w = .ok (decide (c1 = c2)) w := by rw [run_equalIn_int w 9998 2 .i64 .i64 c1 c2 Tryd.underlying2, int_beq]
    have q3 : (Op.equalIn 9999 3 (.int .i64 u1) (.int .i64 u2)).run Tryd.prog w = .ok (decide (u1 = u2)) w := by rw [run_equalIn_int w 9998 3 .i64 .i64 u1 u2 Tryd.underlying3, int_beq]
    generalize decide (h1 = h2) = d0 at *
    generalize decide (t1 = t2) = d1 at *
    generalize decide (c1 = c2) = d2 at *
    generalize decide (u1 = u2) = d3 at *
    simp only [Op.eqFields, f1', g1', k1', i1', ne_eq, not_false_eq_true, if_true, f2, f3, g2, g3, k2, k3, i2, i3, Sem.run_bind, p0, Result.andThen_ok, q0]
    cases d0 <;> cases d1 <;> cases d2 <;> cases d3 <;> simp [p1, p2, p3, q1, q2, q3]
theorem Tryd.sizeLimits : (Tryd.prog.info? 30).map (·.size) = some 4 := by kernel_rfl
theorem neq_dates (ds : List (Bool × Int)) (hx : ds.length = 10) (w : World) :
    (binOp .neq 25 (.agg (ds.flatMap dcells).toArray) (.agg (ds.flatMap dcells).toArray)).run Tryd.prog w = .ok (.bool false) w := by
  rw [run_neq_struct, run_equalIn_dates ds ds hx hx w]
  simp
theorem neq_lim (a : Ob) (w : World) : (binOp .neq 30 (.agg #[.bool a.lh, .int .i64 a.lt, .int .i64 a.lc, .int .i64 a.lu]) (.agg #[.bool a.lh, .int .i64 a.lt, .int .i64 a.lc, .int .i64 a.lu])).run Tryd.prog w = .ok (.bool false) w := by
  have h := lim_eq a a w
  rw [run_eql_struct] at h
  rw [run_neq_struct]
  simp only [decide_true, Bool.and_self] at h
  revert h
  generalize (Op.equalIn 10000 30 (.agg #[.bool a.lh, .int .i64 a.lt, .int .i64 a.lc, .int .i64 a.lu]) (.agg #[.bool a.lh, .int .i64 a.lt, .int .i64 a.lc, .int .i64 a.lu])).run Tryd.prog w = R
  intro h
  cases R with
  | ok b w' =>
    simp only [Result.andThen_ok, Result.ok.injEq, Value.bool.injEq] at h
    simp only [Result.andThen_ok, h.1, h.2]
    rfl
  | _ => simp [Result.andThen] at h
end Ob.Cm
end Go.Proofs.YtadpmninoghcjaaDoor
