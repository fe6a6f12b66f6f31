/-
  object.Same.
-/
import Derived.Test.YtlcnckmbimmpjaaDoorObRead
namespace Go.Proofs.YtlcnckmbimmpjaaDoor
open Go.RowKit
set_option linter.unusedSimpArgs false
set_option linter.unusedVariables false
namespace Ob

theorem wpList_guarded {P : Program} {w : World} {ops : Array Oper} {rest : List Oper} {o : Oper} {a : Act} {Q : Exit → Act → World → Prop} (hw : Region.wanted o (yielded ops a.tmps) = true)
    (h : ∀ K : Act → World → Prop, (∀ a w, wpList P ops Q rest a w → K a w) → o.wp P a w K Q) : wpList P ops Q (o :: rest) a w :=
  wpList_step fun K hK => by rw [if_pos hw]; exact h K hK
theorem wpList_load_g {P : Program} {ops : Array Oper} {rest : List Oper} {op : Oper} {a : Act} {w : World} {Q : Exit → Act → World → Prop} (hw : Region.wanted op (yielded ops a.tmps) = true) (ty : TypeId) (x : Operand) (ho : op.op = .load ty x)
    (b o : Nat) (hx : a.eval x = .pointer (some ⟨b, o, none⟩)) (cs : List Value) (d : TypeDesc) (hc : w.rangeAt b o cs)
    (hu : P.underlying ty = some d) (hd : d.isRow = true) (hi : (P.info? ty).map (·.size) = some cs.length)
    (h : wpList P ops Q rest (a.put op.dst (.agg cs.toArray)) w) : wpList P ops Q (op :: rest) a w :=
  wpList_guarded hw fun _ hK => wp_load_mid ty x ho b o hx cs d hc hu hd hi (hK _ _ h)
theorem wpList_eql_g {P : Program} {ops : Array Oper} {rest : List Oper} {o : Oper} {a : Act} {w : World} {Q : Exit → Act → World → Prop} (hw : Region.wanted o (yielded ops a.tmps) = true) (t t2 : TypeId) (x y : Operand) (ho : o.op = .binOp .eql t x y t2) (vx vy v : Value) (hx : a.eval x = vx) (hy : a.eval y = vy)
    (hr : (binOp .eql t vx vy).run P w = .ok v w) (hg : (eqGuard .eql t x y vx vy).run P w = .ok () w)
    (h : wpList P ops Q rest (a.put o.dst v) w) : wpList P ops Q (o :: rest) a w :=
  wpList_guarded hw fun K hK => by
    unfold Oper.wp execOp
    simp only [ho, hx, hy]
    simp [hr, hg, Result.andThen]
    exact hK _ _ h

theorem int_beq (a b : Int) : (a == b) = decide (a = b) := by rw [Bool.eq_iff_iff]; simp
theorem bool_beq (a b : Bool) : (a == b) = decide (a = b) := by rw [Bool.eq_iff_iff]; simp
theorem map_two {α β : Type} {g : α → β} {l : List α} {x y : β} (h : l.map g = [x, y]) : ∃ a b, l = [a, b] ∧ g a = x ∧ g b = y := by
  match l, h with
  | [a, b], h => simp only [List.map_cons, List.map_nil, List.cons.injEq, and_true] at h; exact ⟨a, b, rfl, h.1, h.2⟩
  | [], h => simp at h
  | [_], h => simp at h
  | _ :: _ :: _ :: _, h => simp at h
theorem map_four {α β : Type} {g : α → β} {l : List α} {x y z u : β} (h : l.map g = [x, y, z, u]) : ∃ a b c d, l = [a, b, c, d] ∧ g a = x ∧ g b = y ∧ g c = z ∧ g d = u := by
  match l, h with
  | [a, b, c, d], h => simp only [List.map_cons, List.map_nil, List.cons.injEq, and_true] at h; exact ⟨a, b, c, d, rfl, h.1, h.2.1, h.2.2.1, h.2.2.2⟩
  | [], h => simp at h
  | [_], h => simp at h
  | [_, _], h => simp at h
  | [_, _, _], h => simp at h
  | _ :: _ :: _ :: _ :: _ :: _, h => simp at h

theorem date_eq (d e : Bool × Int) (w : World) : (Op.equalIn 9999 27 (dval d) (dval e)).run Tryd.prog w = .ok (decide (d = e)) w := by
  obtain ⟨b, n⟩ := d
  obtain ⟨c, m⟩ := e
  have hf : (Tryd.prog.fieldsOf 27).toList.map (fun f => (f.name == "_", f.type, f.offset)) = [(false, 4, 0), (false, 2, 1)] := by kernel_rfl
  have hu : Tryd.prog.underlying 27 = some (.struct (Tryd.prog.fieldsOf 27)) := by kernel_rfl
  unfold dval
  rw [run_equalIn_struct w 9998 27 _ _ hu (by kernel_rfl)]
  obtain ⟨f, g, hl, hf1, hf2⟩ := map_two hf
  rw [hl]
  clear hl hf
  · simp only [Prod.mk.injEq] at hf1 hf2
    obtain ⟨f1, f2, f3⟩ := hf1
    obtain ⟨g1, g2, g3⟩ := hf2
    have f1' : ¬ f.name = "_" := by intro e; rw [e] at f1; simp at f1
    have g1' : ¬ g.name = "_" := by intro e; rw [e] at g1; simp at g1
    have p1 : ∀ (x : Bool) (y : Int), (Go.part 4 #[Value.bool x, .int .i64 y] 0).run Tryd.prog w = .ok (.bool x) w := fun x y => by
      simp [Go.part, isAgg, run_underlying Tryd.underlying4]
    have p2 : ∀ (x : Bool) (y : Int), (Go.part 2 #[Value.bool x, .int .i64 y] 1).run Tryd.prog w = .ok (.int .i64 y) w := fun x y => by
      simp [Go.part, isAgg, run_underlying Tryd.underlying2]
    have q1 : (Op.equalIn 9998 4 (.bool b) (.bool c)).run Tryd.prog w = .ok (decide (b = c)) w := by rw [run_equalIn_bool' w 9997 4 b c Tryd.underlying4, bool_beq]
    have q2 : (Op.equalIn 9998 2 (.int .i64 n) (.int .i64 m)).run Tryd.prog w = .ok (decide (n = m)) w := by rw [run_equalIn_int w 9997 2 .i64 .i64 n m Tryd.underlying2, int_beq]
    have hde : decide ((b, n) = (c, m)) = (decide (b = c) && decide (n = m)) := by rw [Bool.eq_iff_iff]; simp
    rw [hde]
    generalize decide (b = c) = d1 at *
    generalize decide (n = m) = d2 at *
    simp only [Op.eqFields, f1', g1', ne_eq, not_false_eq_true, if_true, f2, f3, g2, g3, Sem.run_bind, p1, p2, Result.andThen_ok, q1]
    cases d1 <;> cases d2 <;> simp [p2, q2]

theorem dates_all (ds es : List (Bool × Int)) (h : ds.length = es.length) : ((List.range ds.length).all fun i => decide (ds[i]? = es[i]?)) = decide (ds = es) := by
  rw [Bool.eq_iff_iff, List.all_eq_true, decide_eq_true_eq]
  constructor
  · intro hh
    apply List.ext_getElem?
    intro i
    by_cases hi : i < ds.length
    · simpa using hh i (List.mem_range.2 hi)
    · rw [List.getElem?_eq_none (by omega), List.getElem?_eq_none (by omega)]
  · rintro rfl i _; simp

theorem run_equalIn_dates (ds es : List (Bool × Int)) (hx : ds.length = 10) (hy : es.length = 10) (w : World) :
    (Op.equalIn 10000 28 (.agg (ds.flatMap dcells).toArray) (.agg (es.flatMap dcells).toArray)).run Tryd.prog w = .ok (decide (ds = es)) w := by
  have hsz : ∀ w, (sizeOf 27).run Tryd.prog w = .ok 2 w := fun w => by
    obtain ⟨i0, hi0, hz0, hz1, hz2⟩ := info_parts Tryd.infoDate
    simp [sizeOf, typeInfo, hi0, hz1]
  have hpart : ∀ (ds : List (Bool × Int)) (i : Nat) (d : Bool × Int), ds[i]? = some d → (Go.part 27 (ds.flatMap dcells).toArray (i * 2)).run Tryd.prog w = .ok (dval d) w := fun ds i d hd => by
    unfold Go.part
    simp only [Sem.run_bind, Tryd.aggDate, Result.andThen_ok, if_true, hsz, Sem.run_pure]
    rw [dates_ext ds i d hd]
    rfl
  rw [← dates_all ds es (by omega), hx, List.range_eq_range', Op.equalIn]
  simp only [Sem.run_bind, run_underlying Tryd.underDates, Result.andThen_ok, hsz, Std.Legacy.Range.forIn_eq_forIn_range', Std.Legacy.Range.size, Nat.sub_zero, Nat.add_sub_cancel, Nat.div_one]
  have hl : ∀ i ∈ List.range' 0 10 1, i < 10 := fun i hi => by simpa using (List.mem_range'_1.1 hi).2
  generalize List.range' 0 10 1 = l at hl ⊢
  induction l with
  | nil => simp
  | cons i l ih =>
    have hi : i < 10 := hl i (by simp)
    obtain ⟨d, hd⟩ : ∃ d, ds[i]? = some d := ⟨_, List.getElem?_eq_getElem (by omega)⟩
    obtain ⟨e, he⟩ : ∃ d, es[i]? = some d := ⟨_, List.getElem?_eq_getElem (by omega)⟩
    simp only [List.forIn_cons, Sem.run_bind, hpart ds i d hd, hpart es i e he, date_eq d e w, Result.andThen_ok, List.all_cons, hd, he, Option.some.injEq]
    cases hb : decide (d = e)
    · simp
    · simp only [Bool.not_true, Bool.false_eq_true, if_false, Sem.run_pure, Result.andThen_ok, Bool.true_and]
      exact ih fun j hj => hl j (by simp [hj])

theorem eql_dates (ds es : List (Bool × Int)) (hx : ds.length = 10) (hy : es.length = 10) (w : World) :
    (binOp .eql 28 (.agg (ds.flatMap dcells).toArray) (.agg (es.flatMap dcells).toArray)).run Tryd.prog w = .ok (.bool (decide (ds = es))) w := by
  rw [run_eql_struct, run_equalIn_dates ds es hx hy w]
  rfl

theorem eq_take {α : Type} [DecidableEq α] (xs ys : List α) (k : Nat) (hk : k < xs.length) (hl : xs.length = ys.length) (h : xs.take k = ys.take k) : xs.take (k + 1) = ys.take (k + 1) ↔ xs[k] = ys[k]'(by omega) := by
  rw [List.take_succ_eq_append_getElem hk, List.take_succ_eq_append_getElem (show k < ys.length by omega), h]
  rw [List.append_cancel_left_eq, List.cons.injEq]
  simp only [and_true]
def eqB {α : Type} [DecidableEq α] (xs ys : List α) : Bool := decide (xs = ys)
theorem eqB_true {α : Type} [DecidableEq α] {xs ys : List α} (h : xs = ys) : eqB xs ys = true := decide_eq_true h
theorem eqB_false {α : Type} [DecidableEq α] {xs ys : List α} (h : ¬ xs = ys) : eqB xs ys = false := decide_eq_false h

set_option maxRecDepth 100000 in
set_option maxHeartbeats 1000000 in
theorem equal_s (xs ys : List (List UInt8)) (v u : Value) (w : World) (h : HasF w v 1 scells xs) (h2 : HasF w u 1 scells ys) :
    Calls Tryd.prog 45 #[v, u] w fun e w' => e = .returned (.bool (eqB xs ys)) ∧ Only (fun _ => False) w w' := by
  obtain ⟨ao, cap, rfl, hlc, hm⟩ := h.shape
  obtain ⟨ao2, cap2, rfl, hlc2, hm2⟩ := h2.shape
  by_cases hlen : xs.length = ys.length
  case neg =>
    have hl : ((xs.length : Int) == (ys.length : Int)) = false := by rw [beq_eq_false_iff_ne]; omega
    have hl2 : ((xs.length : Int) != (ys.length : Int)) = true := by simp; omega
    have HF : Hid (eqB xs ys = false) := eqB_false (fun e => hlen (by rw [e]))
    clear hlen h h2 hm hm2 hlc hlc2
    generalize xs.length = n1 at *
    generalize ys.length = n2 at *
    go_enter Tryd.func45, Tryd.ntmps45
    go_wp2
    go_ret
    exact ⟨by rw [unhide HF]; first | done | rfl, Only.refl _ _⟩
  case pos =>
  rw [← hlen] at h2 hlc2 ⊢
  obtain ⟨n, hn⟩ : ∃ n, n = xs.length := ⟨_, rfl⟩
  rw [← hn] at h h2 hlc hlc2 ⊢
  have HN := hide hn
  have HLE := hide hlen
  have HK := hide h
  have HK2 := hide h2
  have hnz : (n : Int) < 9223372036854775808 := by unfold maxLen at hm; omega
  clear h h2 hn hm hm2 hlen
  go_enter Tryd.func45, Tryd.ntmps45
  go_wp2
  go_loopw [13] (fun i wr => ∃ k : Nat, k ≤ n ∧ i = .int .i64 k ∧ Hid (xs.take k = ys.take k) ∧ Hid (Only (fun _ => False) w wr)) (fun i _ => n - (intOf i).toNat)
  case atStart => exact ⟨0, Nat.zero_le _, rfl, by show _ = _; simp, Only.refl _ _⟩
  case round =>
    rename World => wr
    obtain ⟨k, hk, rfl, hall, ho⟩ := hrel
    by_cases hlt : k < n
    case neg =>
      obtain rfl : k = n := by omega
      have HT : Hid (eqB xs ys = true) := eqB_true (by
        have := unhide hall
        rw [List.take_of_length_le (by have := unhide HN; omega), List.take_of_length_le (by have := unhide HN; have := unhide HLE; omega)] at this
        exact this)
      go_wp2
      go_ret
      exact ⟨by rw [unhide HT]; first | done | rfl, unhide ho⟩
    case pos =>
    have hku : k < xs.length := by have := unhide HN; omega
    have hku2 : k < ys.length := by have := unhide HLE; omega
    obtain ⟨b, o, rfl, hb, hat⟩ := (unhide HK).at (by omega)
    obtain ⟨b2, o2, rfl, hb2, hat2⟩ := (unhide HK2).at (by omega)
    obtain ⟨x, hy⟩ : ∃ x, x = xs[k] := ⟨_, rfl⟩
    obtain ⟨y, hz⟩ : ∃ x, x = ys[k] := ⟨_, rfl⟩
    have r := hat k x (by rw [List.getElem?_eq_getElem hku, hy])
    have r2 := hat2 k y (by rw [List.getElem?_eq_getElem hku2, hz])
    have hst := eq_take xs ys k hku (unhide HLE) (unhide hall)
    rw [← hy, ← hz] at hst
    have hkz : (k : Int) < (n : Int) := by omega
    clear hb hb2 hat hat2
    have c0 := (unhide ho).cell (r 0 (.string (str x)) rfl) (fun e => e)
    have d0 := (unhide ho).cell (r2 0 (.string (str y)) rfl) (fun e => e)
    rw [Nat.mul_one, Nat.add_zero] at c0 d0
    have hb2 := str_beq x y
    clear r r2
    have hyz : ¬ x = y → Hid (eqB xs ys = false) := fun hne => eqB_false (fun e => hne (by rw [hy, hz]; simp only [e]))
    have HST := hide hst
    clear hst hy hz
    generalize str x = X at *
    generalize str y = Y at *
    by_cases he : x = y
    · have HE : Hid (xs.take (k + 1) = ys.take (k + 1)) := (unhide HST).2 he
      clear hyz HST
      rw [decide_eq_true he] at hb2
      clear he
      go_wp2_with fail
      go_quiet (fail)
      go_wp2
      go_roundw
      case rel => exact ⟨k + 1, by omega, by go_num, HE, (unhide ho).drewN _⟩
      case measure => simp [intOf]; omega
    · have HN1 := hyz he
      have HE := HST
      clear hyz HST
      rw [decide_eq_false he] at hb2
      clear he HE
      go_wp2_with fail
      go_quiet (fail)
      go_wp2
      go_ret
      exact ⟨by rw [unhide HN1]; first | done | rfl, (unhide ho).drewN _⟩

set_option maxRecDepth 100000 in
set_option maxHeartbeats 1000000 in
theorem equal_k (xs ys : List (Int × List UInt8)) (v u : Value) (w : World) (h : HasF w v 2 kcells xs) (h2 : HasF w u 2 kcells ys) :
    Calls Tryd.prog 46 #[v, u] w fun e w' => e = .returned (.bool (eqB xs ys)) ∧ Only (fun _ => False) w w' := by
  obtain ⟨ao, cap, rfl, hlc, hm⟩ := h.shape
  obtain ⟨ao2, cap2, rfl, hlc2, hm2⟩ := h2.shape
  by_cases hlen : xs.length = ys.length
  case neg =>
    have hl : ((xs.length : Int) == (ys.length : Int)) = false := by rw [beq_eq_false_iff_ne]; omega
    have hl2 : ((xs.length : Int) != (ys.length : Int)) = true := by simp; omega
    have HF : Hid (eqB xs ys = false) := eqB_false (fun e => hlen (by rw [e]))
    clear hlen h h2 hm hm2 hlc hlc2
    generalize xs.length = n1 at *
    generalize ys.length = n2 at *
    go_enter Tryd.func46, Tryd.ntmps46
    go_wp2
    go_ret
    exact ⟨by rw [unhide HF]; first | done | rfl, Only.refl _ _⟩
  case pos =>
  rw [← hlen] at h2 hlc2 ⊢
  obtain ⟨n, hn⟩ : ∃ n, n = xs.length := ⟨_, rfl⟩
  rw [← hn] at h h2 hlc hlc2 ⊢
  have HN := hide hn
  have HLE := hide hlen
  have HK := hide h
  have HK2 := hide h2
  have hnz : (n : Int) < 9223372036854775808 := by unfold maxLen at hm; omega
  clear h h2 hn hm hm2 hlen
  go_enter Tryd.func46, Tryd.ntmps46
  go_wp2
  go_loopw [13] (fun i wr => ∃ k : Nat, k ≤ n ∧ i = .int .i64 k ∧ Hid (xs.take k = ys.take k) ∧ Hid (Only (fun _ => False) w wr)) (fun i _ => n - (intOf i).toNat)
  case atStart => exact ⟨0, Nat.zero_le _, rfl, by show _ = _; simp, Only.refl _ _⟩
  case round =>
    rename World => wr
    obtain ⟨k, hk, rfl, hall, ho⟩ := hrel
    by_cases hlt : k < n
    case neg =>
      obtain rfl : k = n := by omega
      have HT : Hid (eqB xs ys = true) := eqB_true (by
        have := unhide hall
        rw [List.take_of_length_le (by have := unhide HN; omega), List.take_of_length_le (by have := unhide HN; have := unhide HLE; omega)] at this
        exact this)
      go_wp2
      go_ret
      exact ⟨by rw [unhide HT]; first | done | rfl, unhide ho⟩
    case pos =>
    have hku : k < xs.length := by have := unhide HN; omega
    have hku2 : k < ys.length := by have := unhide HLE; omega
    obtain ⟨b, o, rfl, hb, hat⟩ := (unhide HK).at (by omega)
    obtain ⟨b2, o2, rfl, hb2, hat2⟩ := (unhide HK2).at (by omega)
    obtain ⟨x, hy⟩ : ∃ x, x = xs[k] := ⟨_, rfl⟩
    obtain ⟨y, hz⟩ : ∃ x, x = ys[k] := ⟨_, rfl⟩
    have r := hat k x (by rw [List.getElem?_eq_getElem hku, hy])
    have r2 := hat2 k y (by rw [List.getElem?_eq_getElem hku2, hz])
    have hst := eq_take xs ys k hku (unhide HLE) (unhide hall)
    rw [← hy, ← hz] at hst
    have hkz : (k : Int) < (n : Int) := by omega
    clear hb hb2 hat hat2
    obtain ⟨p, hp⟩ : ∃ p, p = o + k * 2 := ⟨_, rfl⟩
    obtain ⟨p2, hp2⟩ : ∃ p, p = o2 + k * 2 := ⟨_, rfl⟩
    rw [← hp] at r
    rw [← hp2] at r2
    have c0 := (unhide ho).cell (r 0 (.int .i64 x.1) rfl) (fun e => e)
    have c1 := (unhide ho).cell (r 1 (.string (str x.2)) rfl) (fun e => e)
    have d0 := (unhide ho).cell (r2 0 (.int .i64 y.1) rfl) (fun e => e)
    have d1 := (unhide ho).cell (r2 1 (.string (str y.2)) rfl) (fun e => e)
    rw [Nat.add_zero] at c0 d0
    rw [hp] at c0 c1
    rw [hp2] at d0 d1
    have hb2 := str_beq x.2 y.2
    clear r r2
    have hyz : ¬ x = y → Hid (eqB xs ys = false) := fun hne => eqB_false (fun e => hne (by rw [hy, hz]; simp only [e]))
    have HST := hide hst
    clear hst hy hz
    obtain ⟨x1, x2⟩ := x
    obtain ⟨y1, y2⟩ := y
    simp only at c0 c1 d0 d1 hb2
    generalize str x2 = X at *
    generalize str y2 = Z at *
    by_cases he : (x1, x2) = (y1, y2)
    · have HE : Hid (xs.take (k + 1) = ys.take (k + 1)) := (unhide HST).2 he
      clear hyz HST
      have he1 : x1 = y1 := (Prod.mk.inj he).1
      have he2 : x2 = y2 := (Prod.mk.inj he).2
      rw [decide_eq_true he2] at hb2
      have hi : (x1 == y1) = true := by simp [he1]
      clear he he1 he2
      go_wp2_with fail
      go_quiet (fail)
      go_wp2
      go_roundw
      case rel => exact ⟨k + 1, by omega, by go_num, HE, (unhide ho).drewN _⟩
      case measure => simp [intOf]; omega
    · have HN1 := hyz he
      have HE := HST
      clear hyz HST
      have hcase : ¬ (x1 = y1 ∧ x2 = y2) := fun e => he (by rw [e.1, e.2])
      clear he HE
      by_cases h1 : x1 = y1
      · have hi : (x1 == y1) = true := by simp [h1]
        rw [decide_eq_false (fun e => hcase ⟨h1, e⟩)] at hb2
        clear hcase h1
        go_wp2_with fail
        go_quiet (fail)
        go_wp2
        go_ret
        exact ⟨by rw [unhide HN1]; first | done | rfl, (unhide ho).drewN _⟩
      · have hi : (x1 == y1) = false := by simpa using h1
        generalize hbb : (X.toList == Z.toList) = B2 at *
        clear hcase h1 hb2
        cases B2
        all_goals
          go_wp2_with fail
          go_quiet (fail)
          go_wp2
          go_ret
          exact ⟨by rw [unhide HN1]; first | done | rfl, (unhide ho).drewN _⟩

set_option maxRecDepth 100000 in
set_option maxHeartbeats 1000000 in
theorem equal_c (xs ys : List (List UInt8 × List UInt8)) (v u : Value) (w : World) (h : HasF w v 2 ccells xs) (h2 : HasF w u 2 ccells ys) :
    Calls Tryd.prog 47 #[v, u] w fun e w' => e = .returned (.bool (eqB xs ys)) ∧ Only (fun _ => False) w w' := by
  obtain ⟨ao, cap, rfl, hlc, hm⟩ := h.shape
  obtain ⟨ao2, cap2, rfl, hlc2, hm2⟩ := h2.shape
  by_cases hlen : xs.length = ys.length
  case neg =>
    have hl : ((xs.length : Int) == (ys.length : Int)) = false := by rw [beq_eq_false_iff_ne]; omega
    have hl2 : ((xs.length : Int) != (ys.length : Int)) = true := by simp; omega
    have HF : Hid (eqB xs ys = false) := eqB_false (fun e => hlen (by rw [e]))
    clear hlen h h2 hm hm2 hlc hlc2
    generalize xs.length = n1 at *
    generalize ys.length = n2 at *
    go_enter Tryd.func47, Tryd.ntmps47
    go_wp2
    go_ret
    exact ⟨by rw [unhide HF]; first | done | rfl, Only.refl _ _⟩
  case pos =>
  rw [← hlen] at h2 hlc2 ⊢
  obtain ⟨n, hn⟩ : ∃ n, n = xs.length := ⟨_, rfl⟩
  rw [← hn] at h h2 hlc hlc2 ⊢
  have HN := hide hn
  have HLE := hide hlen
  have HK := hide h
  have HK2 := hide h2
  have hnz : (n : Int) < 9223372036854775808 := by unfold maxLen at hm; omega
  clear h h2 hn hm hm2 hlen
  go_enter Tryd.func47, Tryd.ntmps47
  go_wp2
  go_loopw [13] (fun i wr => ∃ k : Nat, k ≤ n ∧ i = .int .i64 k ∧ Hid (xs.take k = ys.take k) ∧ Hid (Only (fun _ => False) w wr)) (fun i _ => n - (intOf i).toNat)
  case atStart => exact ⟨0, Nat.zero_le _, rfl, by show _ = _; simp, Only.refl _ _⟩
  case round =>
    rename World => wr
    obtain ⟨k, hk, rfl, hall, ho⟩ := hrel
    by_cases hlt : k < n
    case neg =>
      obtain rfl : k = n := by omega
      have HT : Hid (eqB xs ys = true) := eqB_true (by
        have := unhide hall
        rw [List.take_of_length_le (by have := unhide HN; omega), List.take_of_length_le (by have := unhide HN; have := unhide HLE; omega)] at this
        exact this)
      go_wp2
      go_ret
      exact ⟨by rw [unhide HT]; first | done | rfl, unhide ho⟩
    case pos =>
    have hku : k < xs.length := by have := unhide HN; omega
    have hku2 : k < ys.length := by have := unhide HLE; omega
    obtain ⟨b, o, rfl, hb, hat⟩ := (unhide HK).at (by omega)
    obtain ⟨b2, o2, rfl, hb2, hat2⟩ := (unhide HK2).at (by omega)
    obtain ⟨x, hy⟩ : ∃ x, x = xs[k] := ⟨_, rfl⟩
    obtain ⟨y, hz⟩ : ∃ x, x = ys[k] := ⟨_, rfl⟩
    have r := hat k x (by rw [List.getElem?_eq_getElem hku, hy])
    have r2 := hat2 k y (by rw [List.getElem?_eq_getElem hku2, hz])
    have hst := eq_take xs ys k hku (unhide HLE) (unhide hall)
    rw [← hy, ← hz] at hst
    have hkz : (k : Int) < (n : Int) := by omega
    clear hb hb2 hat hat2
    obtain ⟨p, hp⟩ : ∃ p, p = o + k * 2 := ⟨_, rfl⟩
    obtain ⟨p2, hp2⟩ : ∃ p, p = o2 + k * 2 := ⟨_, rfl⟩
    rw [← hp] at r
    rw [← hp2] at r2
    have c0 := (unhide ho).cell (r 0 (.string (str x.1)) rfl) (fun e => e)
    have c1 := (unhide ho).cell (r 1 (.string (str x.2)) rfl) (fun e => e)
    have d0 := (unhide ho).cell (r2 0 (.string (str y.1)) rfl) (fun e => e)
    have d1 := (unhide ho).cell (r2 1 (.string (str y.2)) rfl) (fun e => e)
    rw [Nat.add_zero] at c0 d0
    rw [hp] at c0 c1
    rw [hp2] at d0 d1
    have hb2 := str_beq x.2 y.2
    have hb1 := str_beq x.1 y.1
    clear r r2
    have hyz : ¬ x = y → Hid (eqB xs ys = false) := fun hne => eqB_false (fun e => hne (by rw [hy, hz]; simp only [e]))
    have HST := hide hst
    clear hst hy hz
    obtain ⟨x1, x2⟩ := x
    obtain ⟨y1, y2⟩ := y
    simp only at c0 c1 d0 d1 hb2 hb1
    generalize str x2 = X at *
    generalize str y2 = Z at *
    generalize str x1 = X1 at *
    generalize str y1 = Z1 at *
    by_cases he : (x1, x2) = (y1, y2)
    · have HE : Hid (xs.take (k + 1) = ys.take (k + 1)) := (unhide HST).2 he
      clear hyz HST
      have he1 : x1 = y1 := (Prod.mk.inj he).1
      have he2 : x2 = y2 := (Prod.mk.inj he).2
      rw [decide_eq_true he2] at hb2
      rw [decide_eq_true he1] at hb1
      clear he he1 he2
      go_wp2_with fail
      go_quiet (fail)
      go_wp2
      go_roundw
      case rel => exact ⟨k + 1, by omega, by go_num, HE, (unhide ho).drewN _⟩
      case measure => simp [intOf]; omega
    · have HN1 := hyz he
      have HE := HST
      clear hyz HST
      have hcase : ¬ (x1 = y1 ∧ x2 = y2) := fun e => he (by rw [e.1, e.2])
      clear he HE
      by_cases h1 : x1 = y1
      · rw [decide_eq_true h1] at hb1
        rw [decide_eq_false (fun e => hcase ⟨h1, e⟩)] at hb2
        clear hcase h1
        go_wp2_with fail
        go_quiet (fail)
        go_wp2
        go_ret
        exact ⟨by rw [unhide HN1]; first | done | rfl, (unhide ho).drewN _⟩
      · rw [decide_eq_false h1] at hb1
        generalize hbb : (X.toList == Z.toList) = B2 at *
        clear hcase h1 hb2
        cases B2
        all_goals
          go_wp2_with fail
          go_quiet (fail)
          go_wp2
          go_ret
          exact ⟨by rw [unhide HN1]; first | done | rfl, (unhide ho).drewN _⟩

/-- the parts one by one -/
def sameL (a b : Ob) : List Bool := [decide (a.id = b.id), decide (a.typ = b.typ), decide (a.alg = b.alg), decide (a.len = b.len), decide (a.mask = b.mask), decide (a.mat = b.mat), decide (a.state = b.state), decide (a.dates = b.dates), decide (a.reason = b.reason), decide (a.msg = b.msg), eqB a.names b.names, eqB a.links b.links, eqB a.custom b.custom, decide (a.lh = b.lh), decide (a.lt = b.lt), decide (a.lc = b.lc), decide (a.lu = b.lu), decide (a.arch = b.arch)]
def sameB (a b : Ob) : Bool := decide (a = b)
theorem sameB_all (a b : Ob) : sameB a b = (sameL a b).all _root_.id := by
  obtain ⟨⟩ := a
  obtain ⟨⟩ := b
  unfold sameB sameL eqB
  simp [Ob.mk.injEq, Bool.decide_and, Bool.and_assoc]


theorem lim_eq (a b : Ob) (w : World) : (binOp .eql 33 (.agg #[.bool a.lh, .int .i64 a.lt, .int .i64 a.lc, .int .i64 a.lu]) (.agg #[.bool b.lh, .int .i64 b.lt, .int .i64 b.lc, .int .i64 b.lu])).run Tryd.prog w =
    .ok (.bool (decide (a.lh = b.lh) && decide (a.lt = b.lt) && decide (a.lc = b.lc) && decide (a.lu = b.lu))) w := by
  generalize a.lh = h1
  generalize a.lt = t1
  generalize a.lc = c1
  generalize a.lu = u1
  generalize b.lh = h2
  generalize b.lt = t2
  generalize b.lc = c2
  generalize b.lu = u2
  have hf : (Tryd.prog.fieldsOf 33).toList.map (fun f => (f.name == "_", f.type, f.offset)) = [(false, 4, 0), (false, 2, 1), (false, 2, 2), (false, 3, 3)] := by kernel_rfl
  have hu : Tryd.prog.underlying 33 = some (.struct (Tryd.prog.fieldsOf 33)) := by kernel_rfl
  rw [run_eql_struct, run_equalIn_struct w 9999 33 _ _ hu (by kernel_rfl)]
  obtain ⟨f, g, h, i, hl, hf1, hf2, hf3, hf4⟩ := map_four hf
  rw [hl]
  clear hl hf
  · simp only [Prod.mk.injEq] at hf1 hf2 hf3 hf4
    obtain ⟨f1, f2, f3⟩ := hf1
    obtain ⟨g1, g2, g3⟩ := hf2
    obtain ⟨k1, k2, k3⟩ := hf3
    obtain ⟨i1, i2, i3⟩ := hf4
    have f1' : ¬ f.name = "_" := by intro e; rw [e] at f1; simp at f1
    have g1' : ¬ g.name = "_" := by intro e; rw [e] at g1; simp at g1
    have k1' : ¬ h.name = "_" := by intro e; rw [e] at k1; simp at k1
    have i1' : ¬ i.name = "_" := by intro e; rw [e] at i1; simp at i1
    have p0 : ∀ (x : Bool) (y z u : Int), (Go.part 4 #[Value.bool x, .int .i64 y, .int .i64 z, .int .i64 u] 0).run Tryd.prog w = .ok (.bool x) w := fun x y z u => by
      simp [Go.part, isAgg, run_underlying Tryd.underlying4]
    have p1 : ∀ (x : Bool) (y z u : Int), (Go.part 2 #[Value.bool x, .int .i64 y, .int .i64 z, .int .i64 u] 1).run Tryd.prog w = .ok (.int .i64 y) w := fun x y z u => by
      simp [Go.part, isAgg, run_underlying Tryd.underlying2]
    have p2 : ∀ (x : Bool) (y z u : Int), (Go.part 2 #[Value.bool x, .int .i64 y, .int .i64 z, .int .i64 u] 2).run Tryd.prog w = .ok (.int .i64 z) w := fun x y z u => by
      simp [Go.part, isAgg, run_underlying Tryd.underlying2]
    have p3 : ∀ (x : Bool) (y z u : Int), (Go.part 3 #[Value.bool x, .int .i64 y, .int .i64 z, .int .i64 u] 3).run Tryd.prog w = .ok (.int .i64 u) w := fun x y z u => by
      simp [Go.part, isAgg, run_underlying Tryd.underlying3]
    have q0 : (Op.equalIn 9999 4 (.bool h1) (.bool h2)).run Tryd.prog w = .ok (decide (h1 = h2)) w := by rw [run_equalIn_bool' w 9998 4 h1 h2 Tryd.underlying4, bool_beq]
    have q1 : (Op.equalIn 9999 2 (.int .i64 t1) (.int .i64 t2)).run Tryd.prog w = .ok (decide (t1 = t2)) w := by rw [run_equalIn_int w 9998 2 .i64 .i64 t1 t2 Tryd.underlying2, int_beq]
    have q2 : (Op.equalIn 9999 2 (.int .i64 c1) (.int .i64 c2)).run Tryd.prog w = .ok (decide (c1 = c2)) w := by rw [run_equalIn_int w 9998 2 .i64 .i64 c1 c2 Tryd.underlying2, int_beq]
    have q3 : (Op.equalIn 9999 3 (.int .i64 u1) (.int .i64 u2)).run Tryd.prog w = .ok (decide (u1 = u2)) w := by rw [run_equalIn_int w 9998 3 .i64 .i64 u1 u2 Tryd.underlying3, int_beq]
    generalize decide (h1 = h2) = d0 at *
    generalize decide (t1 = t2) = d1 at *
    generalize decide (c1 = c2) = d2 at *
    generalize decide (u1 = u2) = d3 at *
    simp only [Op.eqFields, f1', g1', k1', i1', ne_eq, not_false_eq_true, if_true, f2, f3, g2, g3, k2, k3, i2, i3, Sem.run_bind, p0, Result.andThen_ok, q0]
    cases d0 <;> cases d1 <;> cases d2 <;> cases d3 <;> simp [p1, p2, p3, q1, q2, q3]

end Ob
end Go.Proofs.YtlcnckmbimmpjaaDoor
