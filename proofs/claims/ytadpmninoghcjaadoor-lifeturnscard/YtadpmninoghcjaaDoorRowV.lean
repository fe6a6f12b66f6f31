/-
  Rows of one-cell values that are owned: append onto them; slices of slices of bytes.
-/
import Derived.Test.YtadpmninoghcjaaDoorRow
namespace Go.Proofs.YtadpmninoghcjaaDoor
open Go.RowKit
set_option linter.unusedSimpArgs false
set_option linter.unusedVariables false

theorem run_append_hasV {P : Program} (w : World) (base : Nat) (t ty e : TypeId) (i : TypeInfo) (z : Value) (bt : Nat) (ht : P.underlying t = some (.slice e)) (hi : P.info? e = some i) (hz : i.zero = some z) (hsize : i.size = 1) (hby : i.bytes = bt) (hzs : z.cells.size = 1)
    (v : Value) (n : Nat) (xs : List Value) (hown : w.ownsRow base e 1 v n xs) (xv : Value) (vs : List Value) (hx : HasV w xv vs) (h1 : ∀ u ∈ vs, u.oneCell' = true) (hm : n + vs.length ≤ maxLen) (h63 : (n + vs.length) * bt ≤ 140737488355328) (hbase : base ≤ w.heap.size) :
    ∃ ao cap w', (Builtin.append_ #[t, t] ty #[v, xv]).run P w = .ok (.slice ao (n + vs.length) cap) w' ∧ w'.ownsRow base e 1 (.slice ao (n + vs.length) cap) (n + vs.length) (xs ++ vs) ∧ w.grownBy w' v.ownBlock ∧
      (Value.ownBlock (.slice ao (n + vs.length) cap) = v.ownBlock ∨ Value.ownBlock (.slice ao (n + vs.length) cap) = some w.heap.size) := by
  rcases hx with ⟨rfl, rfl⟩ | ⟨a, cap, rfl, hsp, _, _, _, hc⟩
  · obtain ⟨ao, cap, rfl⟩ := ownsRow_shape hown
    exact ⟨ao, cap, w, run_append_owned_none (P := P) w base t ty e i 1 ht hi _ n xs hown, by simpa using hown, ⟨rfl, rfl, rfl, Nat.le_refl _, fun _ _ _ => rfl⟩, Or.inl rfl⟩
  · obtain ⟨v', w', hr, h2, h3, _, h5⟩ := run_append_own_at (P := P) w base t ty e i z 1 bt ht hi hz hsize hby hzs (by decide) v n xs hown a vs.length cap vs (by simp)
      (fun j u hu => by
        have hj : j < vs.length := (List.getElem?_eq_some_iff.1 hu).1
        rw [addr_add a (hsp (by omega)), hc j hj]
        simpa [hj] using hu)
      h1 hm h63 hbase
    obtain ⟨ao, cap', rfl⟩ := ownsRow_shape h2
    exact ⟨ao, cap', w', hr, h2, h3, h5⟩

theorem wp_append_hasV {P : Program} {w : World} {o : Oper} {a : Act} {K : Act → World → Prop} {Q : Exit → Act → World → Prop} (s x : Operand) (t : TypeId)
    (ho : o.op = .call { callee := .builtin .append, args := #[s, x], argTypes := #[t, t] })
    (base : Nat) (e : TypeId) (i : TypeInfo) (z : Value) (bt : Nat) (ht : P.underlying t = some (.slice e)) (hi : P.info? e = some i) (hz : i.zero = some z) (hsize : i.size = 1) (hby : i.bytes = bt) (hzs : z.cells.size = 1)
    (v : Value) (n : Nat) (xs : List Value) (hs : a.eval s = v) (hown : w.ownsRow base e 1 v n xs) (xv : Value) (vs : List Value) (hxv : a.eval x = xv) (hx : HasV w xv vs) (h1 : ∀ u ∈ vs, u.oneCell' = true) (hm : n + vs.length ≤ maxLen) (h63 : (n + vs.length) * bt ≤ 140737488355328) (hbase : base ≤ w.heap.size)
    (h : ∀ ao cap w', w'.ownsRow base e 1 (.slice ao (n + vs.length) cap) (n + vs.length) (xs ++ vs) → w.grownBy w' v.ownBlock →
      (Value.ownBlock (.slice ao (n + vs.length) cap) = v.ownBlock ∨ Value.ownBlock (.slice ao (n + vs.length) cap) = some w.heap.size) → K (a.put o.dst (.slice ao (n + vs.length) cap)) w') : o.wp P a w K Q := by
  obtain ⟨ao, cap, w', hr, h2, h3, h4⟩ := run_append_hasV (P := P) w base t o.type e i z bt ht hi hz hsize hby hzs v n xs hown xv vs hx h1 hm h63 hbase
  unfold Oper.wp execOp
  simp only [ho, resolve, invoke, builtin, Sem.run_bind, Sem.run_pure, Result.andThen_ok, List.map_toArray, List.map_cons, List.map_nil, hs, hxv, hr]
  exact h ao cap w' h2 h3 h4

theorem wpList_append_hasV {P : Program} {w : World} {ops : Array Oper} {rest : List Oper} {o : Oper} {a : Act} {Q : Exit → Act → World → Prop} (hgd : o.guard = none) (s x : Operand) (t : TypeId)
    (ho : o.op = .call { callee := .builtin .append, args := #[s, x], argTypes := #[t, t] })
    (base : Nat) (e : TypeId) (i : TypeInfo) (z : Value) (bt : Nat) (ht : P.underlying t = some (.slice e)) (hi : P.info? e = some i) (hz : i.zero = some z) (hsize : i.size = 1) (hby : i.bytes = bt) (hzs : z.cells.size = 1)
    (v : Value) (n : Nat) (xs : List Value) (hs : a.eval s = v) (hown : w.ownsRow base e 1 v n xs) (xv : Value) (vs : List Value) (hxv : a.eval x = xv) (hx : HasV w xv vs) (h1 : ∀ u ∈ vs, u.oneCell' = true) (hm : n + vs.length ≤ maxLen) (h63 : (n + vs.length) * bt ≤ 140737488355328) (hbase : base ≤ w.heap.size)
    (h : ∀ ao cap w', w'.ownsRow base e 1 (.slice ao (n + vs.length) cap) (n + vs.length) (xs ++ vs) → w.grownBy w' v.ownBlock →
      (Value.ownBlock (.slice ao (n + vs.length) cap) = v.ownBlock ∨ Value.ownBlock (.slice ao (n + vs.length) cap) = some w.heap.size) → wpList P ops Q rest (a.put o.dst (.slice ao (n + vs.length) cap)) w') : wpList P ops Q (o :: rest) a w :=
  wpList_plain hgd fun _ hK => wp_append_hasV s x t ho base e i z bt ht hi hz hsize hby hzs v n xs hs hown xv vs hxv hx h1 hm h63 hbase fun ao cap w' h2 h3 h4 => hK _ _ (h ao cap w' h2 h3 h4)

theorem step_append_hasV {P : Program} {w : World} {ops : Array Oper} {o : Oper} {a : Act} {K : Act → World → Prop} {Q : Exit → Act → World → Prop} {E : Prop} (hgd : o.guard = none) (s x : Operand) (t : TypeId)
    (ho : o.op = .call { callee := .builtin .append, args := #[s, x], argTypes := #[t, t] })
    (base : Nat) (e : TypeId) (i : TypeInfo) (z : Value) (bt : Nat) (ht : P.underlying t = some (.slice e)) (hi : P.info? e = some i) (hz : i.zero = some z) (hsize : i.size = 1) (hby : i.bytes = bt) (hzs : z.cells.size = 1)
    (v : Value) (n : Nat) (xs : List Value) (hs : a.eval s = v) (hown : w.ownsRow base e 1 v n xs) (xv : Value) (vs : List Value) (hxv : a.eval x = xv) (hx : HasV w xv vs) (h1 : ∀ u ∈ vs, u.oneCell' = true) (hm : n + vs.length ≤ maxLen) (h63 : (n + vs.length) * bt ≤ 140737488355328) (hbase : base ≤ w.heap.size)
    (h : ∀ ao cap w', w'.ownsRow base e 1 (.slice ao (n + vs.length) cap) (n + vs.length) (xs ++ vs) → w.grownBy w' v.ownBlock →
      (Value.ownBlock (.slice ao (n + vs.length) cap) = v.ownBlock ∨ Value.ownBlock (.slice ao (n + vs.length) cap) = some w.heap.size) → K (a.put o.dst (.slice ao (n + vs.length) cap)) w') :
    if Region.wanted o (yielded ops a.tmps) = true then Oper.wp P o a w K Q else E := by
  have hw : Region.wanted o (yielded ops a.tmps) = true := by simp [Region.wanted, hgd]
  rw [if_pos hw]
  exact wp_append_hasV s x t ho base e i z bt ht hi hz hsize hby hzs v n xs hs hown xv vs hxv hx h1 hm h63 hbase h

theorem Tryd.info22 : (Tryd.prog.info? 22).map (fun i => (i.zero, i.size, i.bytes)) = some (some (.slice none 0 0), 1, 24) := by kernel_rfl

/-- each of the values holds its bytes; what is not empty lies in blocks such as P tells -/
def Each (P : Nat → Prop) (w : World) : List Value → List (List UInt8) → Prop
  | [], [] => True
  | v :: vs, u :: us => Has w v u ∧ (u ≠ [] → ∀ k, blk v = some k → P k) ∧ Each P w vs us
  | _, _ => False

theorem Each.length {P : Nat → Prop} {w : World} : ∀ {vs : List Value} {us : List (List UInt8)}, Each P w vs us → vs.length = us.length
  | [], [], _ => rfl
  | v :: vs, u :: us, h => by simp [Each.length h.2.2]
  | [], _ :: _, h => h.elim
  | _ :: _, [], h => h.elim

theorem Each.only {P S : Nat → Prop} {w w' : World} (ho : Only S w w') (hS : ∀ k, k < w.heap.size → P k → ¬ S k) : ∀ {vs : List Value} {us : List (List UInt8)}, Each P w vs us → Each P w' vs us
  | [], [], _ => trivial
  | v :: vs, u :: us, h => ⟨h.1.only ho (fun hne k hk => hS k (h.1.blk_lt hne k hk) (h.2.1 hne k hk)), h.2.1, Each.only ho hS h.2.2⟩
  | [], _ :: _, h => h.elim
  | _ :: _, [], h => h.elim

theorem Each.mono {P Q : Nat → Prop} {w : World} (hQ : ∀ k, k < w.heap.size → P k → Q k) : ∀ {vs : List Value} {us : List (List UInt8)}, Each P w vs us → Each Q w vs us
  | [], [], _ => trivial
  | v :: vs, u :: us, h => ⟨h.1, fun hne k hk => hQ k (h.1.blk_lt hne k hk) (h.2.1 hne k hk), Each.mono hQ h.2.2⟩
  | [], _ :: _, h => h.elim
  | _ :: _, [], h => h.elim

theorem Each.append {P : Nat → Prop} {w : World} : ∀ {vs ws : List Value} {us xs : List (List UInt8)}, Each P w vs us → Each P w ws xs → Each P w (vs ++ ws) (us ++ xs)
  | [], _, [], _, _, k => k
  | v :: vs, _, u :: us, _, h, k => ⟨h.1, h.2.1, Each.append h.2.2 k⟩
  | [], _, _ :: _, _, h, _ => h.elim
  | _ :: _, _, [], _, h, _ => h.elim

theorem Each.at {P : Nat → Prop} {w : World} : ∀ {vs : List Value} {us : List (List UInt8)}, Each P w vs us → ∀ i (hi : i < us.length), ∃ v, vs[i]? = some v ∧ Has w v us[i] ∧ (us[i] ≠ [] → ∀ k, blk v = some k → P k)
  | [], [], _, i, hi => by simp at hi
  | v :: vs, u :: us, h, 0, _ => ⟨v, rfl, h.1, h.2.1⟩
  | v :: vs, u :: us, h, i + 1, hi => by
    obtain ⟨x, hx, h2⟩ := Each.at h.2.2 i (by simpa using hi)
    exact ⟨x, by simpa using hx, by simpa using h2⟩
  | [], _ :: _, h, _, _ => h.elim
  | _ :: _, [], h, _, _ => h.elim

theorem Has.one {w : World} {v : Value} {bs : List UInt8} (h : Has w v bs) : v.oneCell' = true := by
  rcases h with ⟨rfl, _⟩ | ⟨a, cap, rfl, _⟩ <;> rfl

theorem Each.ones {P : Nat → Prop} {w : World} : ∀ {vs : List Value} {us : List (List UInt8)}, Each P w vs us → ∀ u ∈ vs, u.oneCell' = true
  | [], [], _, u, hu => by cases hu
  | v :: vs, x :: us, h, u, hu => by
    rcases List.mem_cons.1 hu with rfl | hu
    · exact h.1.one
    · exact Each.ones h.2.2 u hu
  | [], _ :: _, h, _, _ => h.elim
  | _ :: _, [], h, _, _ => h.elim

/-- the slice value v holds slices of just these bytes; its own block, too, is such as P tells -/
structure HasU (P : Nat → Prop) (w : World) (v : Value) (us : List (List UInt8)) : Prop where
  has : ∃ vs, HasV w v vs ∧ Each P w vs us ∧ (vs ≠ [] → ∀ k, blk v = some k → P k)

theorem HasU.only {P S : Nat → Prop} {w w' : World} {v : Value} {us : List (List UInt8)} (h : HasU P w v us) (ho : Only S w w') (hS : ∀ k, k < w.heap.size → P k → ¬ S k) : HasU P w' v us := by
  obtain ⟨vs, hv, he, hb⟩ := h.has
  exact ⟨vs, hv.only ho (fun hne k hk => hS k (hv.blk_lt hne k hk) (hb hne k hk)), he.only ho hS, hb⟩
theorem HasU.mono {P Q : Nat → Prop} {w : World} {v : Value} {us : List (List UInt8)} (h : HasU P w v us) (hQ : ∀ k, k < w.heap.size → P k → Q k) : HasU Q w v us := by
  obtain ⟨vs, hv, he, hb⟩ := h.has
  exact ⟨vs, hv, he.mono hQ, fun hne k hk => hQ k (hv.blk_lt hne k hk) (hb hne k hk)⟩
theorem HasU.shape {P : Nat → Prop} {w : World} {v : Value} {us : List (List UInt8)} (h : HasU P w v us) : ∃ ao cap, v = .slice ao us.length cap ∧ us.length ≤ cap ∧ cap ≤ maxLen := by
  obtain ⟨vs, hv, he, hb⟩ := h.has
  rw [← he.length]
  exact hv.shape
theorem hasU_nil (P : Nat → Prop) (w : World) : HasU P w (.slice none 0 0) [] := ⟨[], Or.inl ⟨rfl, rfl⟩, trivial, fun h => absurd rfl h⟩
theorem HasU.at {P : Nat → Prop} {w : World} {ao : Option Addr} {len cap : Nat} {us : List (List UInt8)} (h : HasU P w (.slice ao len cap) us) (i : Nat) (hi : i < us.length) :
    ∃ bb off x, ao = some ⟨bb, off, none⟩ ∧ w.cell? ⟨bb, off + i, none⟩ = some x ∧ Has w x us[i] ∧ (us[i] ≠ [] → ∀ k, blk x = some k → P k) := by
  obtain ⟨vs, hv, he, hb⟩ := h.has
  have hl := he.length
  obtain ⟨ao', cap', hsh, _, _⟩ := hv.shape
  simp only [Value.slice.injEq] at hsh
  obtain ⟨bb, off, rfl, hlen, hc⟩ := hv.at (by omega)
  obtain ⟨x, hx, h2, h3⟩ := he.at i hi
  refine ⟨bb, off, x, rfl, ?_, h2, h3⟩
  have hiv : i < vs.length := by omega
  rw [hc i hiv]
  rw [List.getElem?_eq_getElem hiv] at hx
  exact hx

/-- an owned row of slices of bytes -/
structure OwnsU (base : Nat) (w : World) (v : Value) (us : List (List UInt8)) : Prop where
  own : ∃ vs, w.ownsRow base 22 1 v us.length vs ∧ Each (fun k => base ≤ k ∧ v.ownBlock ≠ some k) w vs us

theorem OwnsU.hasU {base : Nat} {w : World} {v : Value} {us : List (List UInt8)} (h : OwnsU base w v us) : HasU (fun k => base ≤ k) w v us := by
  obtain ⟨vs, ho, he⟩ := h.own
  have hv := HasV.ofOwns ho
  refine ⟨vs, hv, he.mono (fun _ _ h => h.1), fun hne k hk => ?_⟩
  rcases ho.2 with ⟨rfl, _⟩ | ⟨g, cap, cur, rfl, hb, _⟩
  · cases hk
  · simp only [blk, Option.map_some, Option.some.injEq] at hk
    omega
theorem ownsU_nil (base : Nat) (w : World) : OwnsU base w (.slice none 0 0) [] := ⟨[], World.ownsRow_nil _ _ _ _, trivial⟩
theorem OwnsU.base {b b' : Nat} {w : World} {v : Value} {us : List (List UInt8)} (h : OwnsU b w v us) (hb : b' ≤ b) : OwnsU b' w v us := by
  obtain ⟨vs, ho, he⟩ := h.own
  exact ⟨vs, ownsRow_base ho hb, he.mono (fun k _ hk => ⟨Nat.le_trans hb hk.1, hk.2⟩)⟩
theorem OwnsU.later {base : Nat} {w w' : World} {v : Value} {us : List (List UInt8)} {S : Nat → Prop} (h : OwnsU base w v us) (ho : Only S w w') (hS : ∀ k, base ≤ k → ¬ S k) : OwnsU base w' v us := by
  obtain ⟨vs, hv, he⟩ := h.own
  exact ⟨vs, ho.owns hv (fun k hk => hS k (hv.lt k hk).1), he.only ho (fun k _ hk => hS k hk.1)⟩
theorem OwnsU.same {base : Nat} {w w' : World} {v : Value} {us : List (List UInt8)} (h : OwnsU base w v us) (ho : Only (fun _ => False) w w') : OwnsU base w' v us := h.later ho (fun _ _ h => h)

/-- more units behind those that are there: what an append leaves -/
theorem OwnsU.pushes {base : Nat} {w w1 w6 : World} {v v6 : Value} {us xs : List (List UInt8)} {vs ys : List Value} (hvs : w.ownsRow base 22 1 v us.length vs) (hev : Each (fun k => base ≤ k ∧ v.ownBlock ≠ some k) w vs us)
    (hx : Each (fun k => base ≤ k ∧ v.ownBlock ≠ some k) w ys xs) (ho : Only (fun _ => False) w w1) (own6 : w6.ownsRow base 22 1 v6 (us.length + xs.length) (vs ++ ys)) (gr6 : w1.grownBy w6 v.ownBlock)
    (at6 : v6.ownBlock = v.ownBlock ∨ v6.ownBlock = some w1.heap.size) : OwnsU base w6 v6 (us ++ xs) ∧ Only (fun k => v.ownBlock = some k) w w6 := by
  have o6 : Only (fun k => v.ownBlock = some k) w w6 := (ho.mono (fun _ _ e => e.elim)).grown gr6 (fun k hk _ => hk)
  have hs := ho.size
  have hq : ∀ {vs us}, Each (fun k => base ≤ k ∧ v.ownBlock ≠ some k) w vs us → Each (fun k => base ≤ k ∧ v6.ownBlock ≠ some k) w6 vs us := fun h => by
    have h1 := h.mono (Q := fun k => (base ≤ k ∧ v6.ownBlock ≠ some k) ∧ v.ownBlock ≠ some k) (fun k hk hp => ⟨⟨hp.1, fun e => by
      rcases at6 with e6 | e6
      · exact hp.2 (e6 ▸ e)
      · rw [e6] at e; cases e; omega⟩, hp.2⟩)
    exact (h1.only o6 (fun k _ hp e => hp.2 e)).mono (fun _ _ h => h.1)
  exact ⟨⟨vs ++ ys, by rw [List.length_append]; exact own6, (hq hev).append (hq hx)⟩, o6⟩

end Go.Proofs.YtadpmninoghcjaaDoor
