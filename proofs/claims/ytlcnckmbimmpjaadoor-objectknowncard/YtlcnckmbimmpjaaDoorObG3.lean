/-
  object: lists of parts that are taken.
-/
import Derived.Test.YtlcnckmbimmpjaaDoorObG2
import Derived.Deep.AppendLies
namespace Go.Proofs.YtlcnckmbimmpjaaDoor
open Go.RowKit
set_option linter.unusedSimpArgs false
set_option linter.unusedVariables false
namespace Ob

theorem many_snoc {α : Type} (f : Rs → α × Rs) (k : Nat) : ∀ s, rMany f (k + 1) s = ((rMany f k s).1 ++ [(f (rMany f k s).2).1], (f (rMany f k s).2).2) := by
  induction k with
  | zero => intro s; simp [rMany]
  | succ k ih =>
    intro s
    have h := ih (f s).2
    have e1 : (rMany f (k + 1 + 1) s).1 = (f s).1 :: (rMany f (k + 1) (f s).2).1 := rfl
    have e2 : (rMany f (k + 1 + 1) s).2 = (rMany f (k + 1) (f s).2).2 := rfl
    rw [Prod.ext_iff, e1, e2, h]
    simp [rMany]
theorem many_le {α : Type} (f : Rs → α × Rs) (hf : ∀ s, (f s).2.2.length ≤ s.2.length) (k : Nat) : ∀ s, (rMany f k s).2.2.length ≤ s.2.length := by
  induction k with
  | zero => intro s; exact Nat.le_refl _
  | succ k ih => intro s; exact Nat.le_trans (ih (f s).2) (hf s)
theorem rLink_le (s : Rs) : (rLink s).2.2.length ≤ s.2.length := Nat.le_trans (rS_le _) (rU_le 1 s)
theorem rCust_le (s : Rs) : (rCust s).2.2.length ≤ s.2.length := Nat.le_trans (rS_le _) (rS_le s)
theorem rDate_le (s : Rs) : (rDate s).2.2.length ≤ s.2.length := by
  unfold rDate
  split
  · exact Nat.le_trans (rU_le 8 _) (rFlag_le s)
  · exact rFlag_le s

/-- append of elements that are read somewhere onto a row that is owned -/
theorem app_hasF {P : Program} {α : Type} (w : World) (base : Nat) (t ty e : TypeId) (i : TypeInfo) (z : Value) (m bt : Nat) (f : α → List Value) (ht : P.underlying t = some (.slice e)) (hi : P.info? e = some i) (hz : i.zero = some z) (hsize : i.size = m) (hby : i.bytes = bt) (hzs : z.cells.size = m) (hm0 : 0 < m)
    (v : Value) (n : Nat) (xs : List Value) (hown : w.ownsRow base e m v n xs) (xv : Value) (ys : List α) (hy0 : 0 < ys.length) (hx : HasF w xv m f ys) (h1 : ∀ y ∈ ys, ∀ u ∈ f y, u.oneCell' = true) (hm : n + ys.length ≤ maxLen) (h63 : (n + ys.length) * bt ≤ 140737488355328) (hbase : base ≤ w.heap.size) :
    ∃ v' w', (Builtin.append_ #[t, t] ty #[v, xv]).run P w = .ok v' w' ∧ w'.ownsRow base e m v' (n + ys.length) (xs ++ ys.flatMap f) ∧ w.grownBy w' v.ownBlock ∧ (v'.ownBlock = v.ownBlock ∨ v'.ownBlock = some w.heap.size) := by
  obtain ⟨ao, cap, rfl, h2, h3, h4⟩ := hx.has
  obtain ⟨b, o, rfl, hb, hr⟩ := h4 hy0
  obtain ⟨v', w', hrun, g2, g3, _, g5⟩ := run_append_own_at (P := P) w base t ty e i z m bt ht hi hz hsize hby hzs hm0 v n xs hown ⟨b, o, none⟩ ys.length cap (ys.flatMap f) (flat_length f m ys hx.wide)
    (fun j u hu => by rw [addr_add _ rfl]; exact hr j u hu)
    (fun u hu => by obtain ⟨y, hy, hu2⟩ := List.mem_flatMap.1 hu; exact h1 y hy u hu2) hm h63 hbase
  exact ⟨v', w', hrun, g2, g3, g5⟩

theorem wpList_app {P : Program} {w : World} {ops : Array Oper} {rest : List Oper} {o : Oper} {a : Act} {Q : Exit → Act → World → Prop} (hgd : o.guard = none) (s x : Operand) (t : TypeId)
    (ho : o.op = .call { callee := .builtin .append, args := #[s, x], argTypes := #[t, t] }) (v xv v' : Value) (w' : World) (hs : a.eval s = v) (hx : a.eval x = xv)
    (hrun : (Builtin.append_ #[t, t] o.type #[v, xv]).run P w = .ok v' w') (h : wpList P ops Q rest (a.put o.dst v') w') : wpList P ops Q (o :: rest) a w :=
  wpList_plain hgd fun K hK => by
    unfold Oper.wp execOp
    simp only [ho, resolve, invoke, builtin, Sem.run_bind, Sem.run_pure, Result.andThen_ok, List.map_toArray, List.map_cons, List.map_nil, hs, hx, hrun]
    exact hK _ _ h

/-- a literal of one element -/
theorem hasF_one {α : Type} {w : World} {g : Nat} {t : TypeId} {m : Nat} {f : α → List Value} {x : α} (h : Bx w g t (f x)) (hm : (f x).length = m) : HasF w (.slice (some ⟨g, 0, none⟩) 1 1) m f [x] := by
  refine ⟨⟨_, 1, rfl, Nat.le_refl _, by unfold maxLen; omega, fun _ => ⟨g, 0, rfl, h.lt, ?_⟩⟩, fun y hy => by rw [List.mem_singleton.1 hy]; exact hm⟩
  have hr := h.range 0 (f x).length
  rw [List.drop_zero, List.take_of_length_le (Nat.le_refl _)] at hr
  simpa using hr
theorem hasF_own {α : Type} {w : World} {base e m n : Nat} {v : Value} {f : α → List Value} {xs : List α} (h : w.ownsRow base e m v n (xs.flatMap f)) (hf : ∀ x ∈ xs, (f x).length = m) (hn : n = xs.length) : HasF w v m f xs := by
  subst hn
  rcases h.2 with ⟨rfl, h0⟩ | ⟨g, cap, cur, rfl, hb, hg, hc, hm, hcs, ht⟩
  · refine ⟨⟨none, 0, by rw [h0], by omega, Nat.zero_le _, fun h1 => by omega⟩, hf⟩
  · refine ⟨⟨_, cap, rfl, hc, hm, fun _ => ⟨g, 0, rfl, lt_of_block hg, fun j u hu => ?_⟩⟩, hf⟩
    have := h.cells (g := g) rfl j u hu
    rwa [addr_add _ rfl] at this

theorem To.grown {w x x' : World} {b : Nat} {v v' : Value} {s : Rs} {row : Option Nat} (q : To w b v x v' s) (hg : x.grownBy x' row) (hb : b < w.heap.size) (hv : ∀ j, blk v = some j → j < w.heap.size) (hr : ∀ k, row = some k → w.heap.size ≤ k) : To w b v x' v' s := by
  have o : Only (fun j => row = some j) x x' := (Only.refl _ x).grown hg (fun k hk _ => hk)
  exact ⟨q.now.only o (fun e => by have := hr b e; omega) (fun j hj e => by have := hr j e; have := hv j (q.vblk j hj); omega), q.only.trans o (fun j hj e => by have := hr j e; omega), q.vblk⟩
theorem To.alloc {w x : World} {b : Nat} {v v' : Value} {s : Rs} (h : b < w.heap.size) (q : To w b v x v' s) (o : Obj) : To w b v (x.alloc o) v' s := To.same h q ((Only.refl _ x).alloc o)

theorem Tryd.infoGs : (Tryd.prog.info? 9).map (fun i => (i.zero, i.size, i.bytes)) = some (some (.string ⟨#[]⟩), 1, 16) := by kernel_rfl

set_option maxRecDepth 100000 in
set_option maxHeartbeats 1000000 in
theorem take_s {b : Nat} {v : Value} {s : Rs} {w : World} (h : At w b v s) (hv : ∀ j, blk v = some j → j < w.heap.size) (hr : s.2.length ≤ 140737488355328) :
    Calls Tryd.prog 73 #[rv b, .func (.func 68) #[rv b] #[]] w fun e w' => ∃ u, e = .returned u ∧ w'.ownsRow w.heap.size 9 1 u (rAll rS s).1.length ((rAll rS s).1.flatMap scells) ∧ ∃ v', To w b v w' v' (rAll rS s).2 := by
  obtain ⟨i0, hi0, hz0, hz1, hz2⟩ := info_parts Tryd.infoGs
  unfold rv
  obtain ⟨w1, k1, e1, ek1, hb1, o1, hs1⟩ := boxed w #[.pointer (some ⟨b, 0, none⟩)] 66
  have p0 := hb1.cell 0 _ rfl
  have H1 := hide (gu1 (h.same o1) hr)
  have O1 := hide o1
  have hbl := h.lt
  have HF : Hid (rAll rS s = rMany rS (rU 1 s).1 (rU 1 s).2) := rfl
  have hn := rU1_lt s
  have hr2 := Nat.le_trans (rU_le 1 s) hr
  have HBL := hide hbl
  have HV := hide hv
  rw [unhide HF]
  clear hb1 o1 hs1 hr h hbl hv HF
  generalize (rU 1 s).2 = s1 at *
  generalize (rU 1 s).1 = n at *
  have HR := hide (fun k => Nat.le_trans (many_le rS rS_le k s1) hr2)
  have hnz : (n : Int) < 256 := by omega
  go_enter Tryd.func73, Tryd.ntmps73
  go_upto_region 2 with fail
  rw [← e1, ← ek1]
  clear e1 ek1
  go_wp2_with fail
  refine (unhide H1).mono ?_
  rintro e x1 ⟨rfl, v1, q1⟩
  have Q1 := hide (To.back (unhide O1) q1)
  clear q1 p0 H1
  go_wp2
  go_loopw [5, 9] (fun u i wr => ∃ k : Nat, k ≤ n ∧ i = .int .i64 k ∧ Hid (wr.ownsRow w.heap.size 9 1 u k ((rMany rS k s1).1.flatMap scells)) ∧ Hid (∃ v2, To w b v wr v2 (rMany rS k s1).2)) (fun _ i _ => n - (intOf i).toNat)
  case atStart => exact ⟨0, Nat.zero_le _, rfl, World.ownsRow_nil _ _ _ _, ⟨v1, unhide Q1⟩⟩
  case round =>
    rename World => wr
    obtain ⟨k, hk, rfl, hown, hq0⟩ := hrel
    obtain ⟨v2, hq1⟩ := unhide hq0
    have hq := hide hq1
    clear hq0 hq1
    by_cases hlt : k < n
    case neg =>
      obtain rfl : k = n := by omega
      go_wp2
      go_ret
      exact ⟨_, rfl, by rw [many_len]; exact unhide hown, v2, unhide hq⟩
    case pos =>
    have HC := hide (rtext_any (unhide hq).now (unhide HR k))
    have HS : Hid (rMany rS (k + 1) s1 = ((rMany rS k s1).1 ++ [(rS (rMany rS k s1).2).1], (rS (rMany rS k s1).2).2)) := many_snoc rS k s1
    have hkz : (k : Int) < (n : Int) := by omega
    have hml : (rMany rS k s1).1.length = k := many_len _ _ _
    have HML := hide hml
    clear hml
    unfold rv at HC
    generalize (rMany rS k s1).1 = L at *
    generalize (rMany rS k s1).2 = s2 at *
    obtain ⟨y, hy⟩ : ∃ y, y = (rS s2).1 := ⟨_, rfl⟩
    obtain ⟨s3, hs3⟩ : ∃ y, y = (rS s2).2 := ⟨_, rfl⟩
    rw [← hy, ← hs3] at HC HS
    clear hy hs3
    go_wp2_with fail
    refine (unhide HC).mono ?_
    rintro e x2 ⟨rfl, v3, q3⟩
    have q4 := (unhide hq).trans q3
    have hbl := unhide HBL
    have o2 : x2.ownsRow w.heap.size 9 1 u5 k (L.flatMap scells) := q3.only.owns (unhide hown) (fun j hj e => by have := ((unhide hown).lt j hj).1; omega)
    obtain ⟨x4, g, e4, eg, hg, o4, hs4⟩ := boxed x2 #[.string (str y)] 9
    have o2' : x4.ownsRow w.heap.size 9 1 u5 k (L.flatMap scells) := o4.owns o2 (fun _ _ e => e)
    have hF : HasF x4 (.slice (some ⟨g, 0, none⟩) 1 1) 1 scells [y] := hasF_one (f := scells) (x := y) hg rfl
    have hsz := q4.only.size
    have hsz4 := o4.size
    have hone : ∀ z ∈ [y], ∀ u ∈ scells z, u.oneCell' = true := by intro y hy u hu; unfold scells at hu; simp at hu; rw [hu]; rfl
    obtain ⟨u', x5, hrun, own5, gr5, at5⟩ := app_hasF (P := Tryd.prog) x4 w.heap.size 29 29 9 i0 _ 1 16 scells Tryd.underlying29 hi0 hz0 hz1 hz2 rfl (by decide) u5 k (L.flatMap scells) o2' _ [y] (by simp) hF hone (by rw [List.length_singleton]; unfold maxLen; omega) (by rw [List.length_singleton]; omega) (by omega)
    have Q5 := hide (To.grown (To.same hbl q4 o4) gr5 hbl (unhide HV) (fun j hj => ((unhide hown).lt j hj).1))
    have OWN5 := hide own5
    have HRUN := hide hrun
    clear q3 q4 o2 o2' hF hg o4 hs4 own5 gr5 at5 hrun hone hsz hsz4 hown hq HC
    have HE4 := hide e4
    have HEG := hide eg
    clear e4 eg hbl
    go_wp2_with (first
      | (at_builtin; rw [← unhide HE4, ← unhide HEG]; refine wpList_app rfl (.tmp 11) (.tmp 14) 29 rfl u5 (.slice (some ⟨g, 0, none⟩) 1 1) u' x5 rfl rfl (unhide HRUN) ?_))
    go_roundw
    case rel =>
      refine ⟨k + 1, by omega, by go_num, ?_, v3, ?_⟩
      · show _
        rw [unhide HS, List.flatMap_append]
        exact unhide OWN5
      · rw [unhide HS]
        exact unhide Q5
    case measure => simp [intOf]; omega

theorem Tryd.infoGk : (Tryd.prog.info? 51).map (fun i => (i.zero, i.size, i.bytes)) = some (some (.agg #[.int .i64 0, .string ⟨#[]⟩]), 2, 24) := by kernel_rfl

set_option maxRecDepth 100000 in
set_option maxHeartbeats 1000000 in
theorem take_k {b : Nat} {v : Value} {s : Rs} {w : World} (h : At w b v s) (hv : ∀ j, blk v = some j → j < w.heap.size) (hr : s.2.length ≤ 140737488355328) :
    Calls Tryd.prog 74 #[rv b, .func (.func 75) #[rv b] #[]] w fun e w' => ∃ u, e = .returned u ∧ w'.ownsRow w.heap.size 51 2 u (rAll rLink s).1.length ((rAll rLink s).1.flatMap kcells) ∧ ∃ v', To w b v w' v' (rAll rLink s).2 := by
  obtain ⟨i0, hi0, hz0, hz1, hz2⟩ := info_parts Tryd.infoGk
  unfold rv
  obtain ⟨w1, k1, e1, ek1, hb1, o1, hs1⟩ := boxed w #[.pointer (some ⟨b, 0, none⟩)] 66
  have p0 := hb1.cell 0 _ rfl
  have H1 := hide (gu1 (h.same o1) hr)
  have O1 := hide o1
  have hbl := h.lt
  have HF : Hid (rAll rLink s = rMany rLink (rU 1 s).1 (rU 1 s).2) := rfl
  have hn := rU1_lt s
  have hr2 := Nat.le_trans (rU_le 1 s) hr
  have HBL := hide hbl
  have HV := hide hv
  rw [unhide HF]
  clear hb1 o1 hs1 hr h hbl hv HF
  generalize (rU 1 s).2 = s1 at *
  generalize (rU 1 s).1 = n at *
  have HR := hide (fun k => Nat.le_trans (many_le rLink rLink_le k s1) hr2)
  have hnz : (n : Int) < 256 := by omega
  go_enter Tryd.func74, Tryd.ntmps74
  go_upto_region 2 with fail
  rw [← e1, ← ek1]
  clear e1 ek1
  go_wp2_with fail
  refine (unhide H1).mono ?_
  rintro e x1 ⟨rfl, v1, q1⟩
  have Q1 := hide (To.back (unhide O1) q1)
  clear q1 p0 H1
  go_wp2
  go_loopw [5, 9] (fun u i wr => ∃ k : Nat, k ≤ n ∧ i = .int .i64 k ∧ Hid (wr.ownsRow w.heap.size 51 2 u k ((rMany rLink k s1).1.flatMap kcells)) ∧ Hid (∃ v2, To w b v wr v2 (rMany rLink k s1).2)) (fun _ i _ => n - (intOf i).toNat)
  case atStart => exact ⟨0, Nat.zero_le _, rfl, World.ownsRow_nil _ _ _ _, ⟨v1, unhide Q1⟩⟩
  case round =>
    rename World => wr
    obtain ⟨k, hk, rfl, hown, hq0⟩ := hrel
    obtain ⟨v2, hq1⟩ := unhide hq0
    have hq := hide hq1
    clear hq0 hq1
    by_cases hlt : k < n
    case neg =>
      obtain rfl : k = n := by omega
      go_wp2
      go_ret
      exact ⟨_, rfl, by rw [many_len]; exact unhide hown, v2, unhide hq⟩
    case pos =>
    have HC := hide (rlink_any (unhide hq).now (fun j hj => by have := unhide HV j ((unhide hq).vblk j hj); have := (unhide hq).only.size; omega) (unhide HR k))
    have HS : Hid (rMany rLink (k + 1) s1 = ((rMany rLink k s1).1 ++ [(rLink (rMany rLink k s1).2).1], (rLink (rMany rLink k s1).2).2)) := many_snoc rLink k s1
    have hkz : (k : Int) < (n : Int) := by omega
    have hml : (rMany rLink k s1).1.length = k := many_len _ _ _
    have HML := hide hml
    clear hml
    unfold rv at HC
    generalize (rMany rLink k s1).1 = L at *
    generalize (rMany rLink k s1).2 = s2 at *
    obtain ⟨y, hy⟩ : ∃ y, y = (rLink s2).1 := ⟨_, rfl⟩
    obtain ⟨s3, hs3⟩ : ∃ y, y = (rLink s2).2 := ⟨_, rfl⟩
    rw [← hy, ← hs3] at HC HS
    clear hy hs3
    go_wp2_with fail
    refine (unhide HC).mono ?_
    rintro e x2 ⟨rfl, v3, q3⟩
    have q4 := (unhide hq).trans q3
    have hbl := unhide HBL
    have o2 : x2.ownsRow w.heap.size 51 2 u5 k (L.flatMap kcells) := q3.only.owns (unhide hown) (fun j hj e => by have := ((unhide hown).lt j hj).1; omega)
    obtain ⟨x4, g, e4, eg, hg, o4, hs4⟩ := boxed x2 #[.int .i64 y.1, .string (str y.2)] 51
    have o2' : x4.ownsRow w.heap.size 51 2 u5 k (L.flatMap kcells) := o4.owns o2 (fun _ _ e => e)
    have hF : HasF x4 (.slice (some ⟨g, 0, none⟩) 1 1) 2 kcells [y] := hasF_one (f := kcells) (x := y) hg rfl
    have hsz := q4.only.size
    have hsz4 := o4.size
    have hone : ∀ z ∈ [y], ∀ u ∈ kcells z, u.oneCell' = true := by intro y hy u hu; unfold kcells at hu; simp at hu; rcases hu with rfl | rfl <;> rfl
    obtain ⟨u', x5, hrun, own5, gr5, at5⟩ := app_hasF (P := Tryd.prog) x4 w.heap.size 30 30 51 i0 _ 2 24 kcells Tryd.underlying30 hi0 hz0 hz1 hz2 rfl (by decide) u5 k (L.flatMap kcells) o2' _ [y] (by simp) hF hone (by rw [List.length_singleton]; unfold maxLen; omega) (by rw [List.length_singleton]; omega) (by omega)
    have Q5 := hide (To.grown (To.same hbl q4 o4) gr5 hbl (unhide HV) (fun j hj => ((unhide hown).lt j hj).1))
    have OWN5 := hide own5
    have HRUN := hide hrun
    clear q3 q4 o2 o2' hF hg o4 hs4 own5 gr5 at5 hrun hone hsz hsz4 hown hq HC
    have HE4 := hide e4
    have HEG := hide eg
    clear e4 eg hbl
    go_wp2_with (first
      | (at_builtin; rw [← unhide HE4, ← unhide HEG]; refine wpList_app rfl (.tmp 11) (.tmp 14) 30 rfl u5 (.slice (some ⟨g, 0, none⟩) 1 1) u' x5 rfl rfl (unhide HRUN) ?_))
    go_roundw
    case rel =>
      refine ⟨k + 1, by omega, by go_num, ?_, v3, ?_⟩
      · show _
        rw [unhide HS, List.flatMap_append]
        exact unhide OWN5
      · rw [unhide HS]
        exact unhide Q5
    case measure => simp [intOf]; omega

theorem Tryd.infoGc : (Tryd.prog.info? 53).map (fun i => (i.zero, i.size, i.bytes)) = some (some (.agg #[.string ⟨#[]⟩, .string ⟨#[]⟩]), 2, 32) := by kernel_rfl

set_option maxRecDepth 100000 in
set_option maxHeartbeats 1000000 in
theorem take_c {b : Nat} {v : Value} {s : Rs} {w : World} (h : At w b v s) (hv : ∀ j, blk v = some j → j < w.heap.size) (hr : s.2.length ≤ 140737488355328) :
    Calls Tryd.prog 76 #[rv b, .func (.func 77) #[rv b] #[]] w fun e w' => ∃ u, e = .returned u ∧ w'.ownsRow w.heap.size 53 2 u (rAll rCust s).1.length ((rAll rCust s).1.flatMap ccells) ∧ ∃ v', To w b v w' v' (rAll rCust s).2 := by
  obtain ⟨i0, hi0, hz0, hz1, hz2⟩ := info_parts Tryd.infoGc
  unfold rv
  obtain ⟨w1, k1, e1, ek1, hb1, o1, hs1⟩ := boxed w #[.pointer (some ⟨b, 0, none⟩)] 66
  have p0 := hb1.cell 0 _ rfl
  have H1 := hide (gu1 (h.same o1) hr)
  have O1 := hide o1
  have hbl := h.lt
  have HF : Hid (rAll rCust s = rMany rCust (rU 1 s).1 (rU 1 s).2) := rfl
  have hn := rU1_lt s
  have hr2 := Nat.le_trans (rU_le 1 s) hr
  have HBL := hide hbl
  have HV := hide hv
  rw [unhide HF]
  clear hb1 o1 hs1 hr h hbl hv HF
  generalize (rU 1 s).2 = s1 at *
  generalize (rU 1 s).1 = n at *
  have HR := hide (fun k => Nat.le_trans (many_le rCust rCust_le k s1) hr2)
  have hnz : (n : Int) < 256 := by omega
  go_enter Tryd.func76, Tryd.ntmps76
  go_upto_region 2 with fail
  rw [← e1, ← ek1]
  clear e1 ek1
  go_wp2_with fail
  refine (unhide H1).mono ?_
  rintro e x1 ⟨rfl, v1, q1⟩
  have Q1 := hide (To.back (unhide O1) q1)
  clear q1 p0 H1
  go_wp2
  go_loopw [5, 9] (fun u i wr => ∃ k : Nat, k ≤ n ∧ i = .int .i64 k ∧ Hid (wr.ownsRow w.heap.size 53 2 u k ((rMany rCust k s1).1.flatMap ccells)) ∧ Hid (∃ v2, To w b v wr v2 (rMany rCust k s1).2)) (fun _ i _ => n - (intOf i).toNat)
  case atStart => exact ⟨0, Nat.zero_le _, rfl, World.ownsRow_nil _ _ _ _, ⟨v1, unhide Q1⟩⟩
  case round =>
    rename World => wr
    obtain ⟨k, hk, rfl, hown, hq0⟩ := hrel
    obtain ⟨v2, hq1⟩ := unhide hq0
    have hq := hide hq1
    clear hq0 hq1
    by_cases hlt : k < n
    case neg =>
      obtain rfl : k = n := by omega
      go_wp2
      go_ret
      exact ⟨_, rfl, by rw [many_len]; exact unhide hown, v2, unhide hq⟩
    case pos =>
    have HC := hide (rcustom_any (unhide hq).now (fun j hj => by have := unhide HV j ((unhide hq).vblk j hj); have := (unhide hq).only.size; omega) (unhide HR k))
    have HS : Hid (rMany rCust (k + 1) s1 = ((rMany rCust k s1).1 ++ [(rCust (rMany rCust k s1).2).1], (rCust (rMany rCust k s1).2).2)) := many_snoc rCust k s1
    have hkz : (k : Int) < (n : Int) := by omega
    have hml : (rMany rCust k s1).1.length = k := many_len _ _ _
    have HML := hide hml
    clear hml
    unfold rv at HC
    generalize (rMany rCust k s1).1 = L at *
    generalize (rMany rCust k s1).2 = s2 at *
    obtain ⟨y, hy⟩ : ∃ y, y = (rCust s2).1 := ⟨_, rfl⟩
    obtain ⟨s3, hs3⟩ : ∃ y, y = (rCust s2).2 := ⟨_, rfl⟩
    rw [← hy, ← hs3] at HC HS
    clear hy hs3
    go_wp2_with fail
    refine (unhide HC).mono ?_
    rintro e x2 ⟨rfl, v3, q3⟩
    have q4 := (unhide hq).trans q3
    have hbl := unhide HBL
    have o2 : x2.ownsRow w.heap.size 53 2 u5 k (L.flatMap ccells) := q3.only.owns (unhide hown) (fun j hj e => by have := ((unhide hown).lt j hj).1; omega)
    obtain ⟨x4, g, e4, eg, hg, o4, hs4⟩ := boxed x2 #[.string (str y.1), .string (str y.2)] 53
    have o2' : x4.ownsRow w.heap.size 53 2 u5 k (L.flatMap ccells) := o4.owns o2 (fun _ _ e => e)
    have hF : HasF x4 (.slice (some ⟨g, 0, none⟩) 1 1) 2 ccells [y] := hasF_one (f := ccells) (x := y) hg rfl
    have hsz := q4.only.size
    have hsz4 := o4.size
    have hone : ∀ z ∈ [y], ∀ u ∈ ccells z, u.oneCell' = true := by intro y hy u hu; unfold ccells at hu; simp at hu; rcases hu with rfl | rfl <;> rfl
    obtain ⟨u', x5, hrun, own5, gr5, at5⟩ := app_hasF (P := Tryd.prog) x4 w.heap.size 31 31 53 i0 _ 2 32 ccells Tryd.underlying31 hi0 hz0 hz1 hz2 rfl (by decide) u5 k (L.flatMap ccells) o2' _ [y] (by simp) hF hone (by rw [List.length_singleton]; unfold maxLen; omega) (by rw [List.length_singleton]; omega) (by omega)
    have Q5 := hide (To.grown (To.same hbl q4 o4) gr5 hbl (unhide HV) (fun j hj => ((unhide hown).lt j hj).1))
    have OWN5 := hide own5
    have HRUN := hide hrun
    clear q3 q4 o2 o2' hF hg o4 hs4 own5 gr5 at5 hrun hone hsz hsz4 hown hq HC
    have HE4 := hide e4
    have HEG := hide eg
    clear e4 eg hbl
    go_wp2_with (first
      | (at_builtin; rw [← unhide HE4, ← unhide HEG]; refine wpList_app rfl (.tmp 11) (.tmp 14) 31 rfl u5 (.slice (some ⟨g, 0, none⟩) 1 1) u' x5 rfl rfl (unhide HRUN) ?_))
    go_roundw
    case rel =>
      refine ⟨k + 1, by omega, by go_num, ?_, v3, ?_⟩
      · show _
        rw [unhide HS, List.flatMap_append]
        exact unhide OWN5
      · rw [unhide HS]
        exact unhide Q5
    case measure => simp [intOf]; omega
end Ob
end Go.Proofs.YtlcnckmbimmpjaaDoor
