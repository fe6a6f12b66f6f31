/-
  life.passages, life.on, Due.
-/
import Derived.Test.YtadpmninoghcjaaDoorLfCopy
import Derived.Test.YtadpmninoghcjaaDoorLfEdge
namespace Go.Proofs.YtadpmninoghcjaaDoor
open Go.RowKit
set_option linter.unusedSimpArgs false
set_option linter.unusedVariables false
namespace Ob

theorem Tryd.infoPas : (Tryd.prog.info? 3).map (fun i => (i.zero, i.size, i.bytes)) = some (some (.int .i64 0), 1, 8) := by kernel_rfl
theorem Tryd.rowPas : (Tryd.prog.underlying 53).map (fun d => match d with | .struct _ | .array _ _ => true | _ => false) = some true := by kernel_rfl
theorem Tryd.sizePas : (Tryd.prog.info? 53).map (·.size) = some 6 := by kernel_rfl
theorem Tryd.rowOn : (Tryd.prog.underlying 24).map (fun d => match d with | .struct _ | .array _ _ => true | _ => false) = some true := by kernel_rfl
theorem Tryd.sizeOn : (Tryd.prog.info? 24).map (·.size) = some 2 := by kernel_rfl
set_option maxRecDepth 100000 in
theorem on_any (t : Int) (w : World) :
    Calls Tryd.prog 35 #[.int .i64 t] w fun e w' => e = .returned (.agg #[.bool true, .int .i64 t]) ∧ Only (fun _ => False) w w' := by
  go_enter Tryd.func35, Tryd.ntmps35
  go_wp2
  refine bodyPost_ret (results_st rfl _ _ w.heap.size 24 _ (0, 0) rfl (Bx.new w 24 [.bool true, .int .i64 t]) Tryd.rowOn Tryd.sizeOn) rfl ?_
  exact ⟨rfl, (Only.refl _ w).alloc _⟩
set_option maxRecDepth 100000 in
theorem passages_any (w : World) :
    Calls Tryd.prog 25 #[] w fun e w' => e = .returned (.agg #[.int .i64 1, .int .i64 1, .int .i64 2, .int .i64 2, .int .i64 4, .int .i64 3]) ∧ Only (fun _ => False) w w' := by
  go_enter Tryd.func25, Tryd.ntmps25
  go_wp2
  refine bodyPost_ret (results_st rfl _ _ w.heap.size 53 _ (0, 0) rfl (Bx.new w 53 [.int .i64 1, .int .i64 1, .int .i64 2, .int .i64 2, .int .i64 4, .int .i64 3]) Tryd.rowPas Tryd.sizePas) rfl ?_
  exact ⟨rfl, (Only.refl _ w).alloc _⟩

def icells (n : Int) : List Value := [.int .i64 n]
theorem appI {x : World} {v : Value} {L : List Int} {base : Nat} (hown : x.ownsRow base 3 1 v L.length (L.flatMap icells)) (hb : base ≤ x.heap.size) (hL : L.length ≤ 1000) (n : Int) :
    ∃ x4 g uo uc x5, x4 = x.alloc (.cells #[.int .i64 n] 3) ∧ g = x.heap.size ∧ (Builtin.append_ #[58, 58] 58 #[v, .slice (some ⟨g, 0, none⟩) 1 1]).run Tryd.prog x4 = .ok (.slice uo (L.length + 1) uc) x5 ∧
      x5.ownsRow base 3 1 (.slice uo (L.length + 1) uc) (L ++ [n]).length ((L ++ [n]).flatMap icells) ∧ Only (fun j => blk v = some j) x x5 ∧ (blk (.slice uo (L.length + 1) uc) = blk v ∨ ∀ j, blk (.slice uo (L.length + 1) uc) = some j → x.heap.size ≤ j) := by
  obtain ⟨i0, hi0, hz0, hz1, hz2⟩ := info_parts Tryd.infoPas
  obtain ⟨x4, g, e4, eg, hg, o4, hs4⟩ := boxed x #[.int .i64 n] 3
  have hF : HasF x4 (.slice (some ⟨g, 0, none⟩) 1 1) 1 icells [n] := hasF_one (f := icells) (x := n) hg rfl
  have hone : ∀ z ∈ [n], ∀ u ∈ icells z, u.oneCell' = true := by
    intro y hy u hu
    unfold icells at hu
    simp only [List.mem_cons, List.not_mem_nil, or_false] at hu
    rw [hu]
    rfl
  obtain ⟨u', x5, hrun, own5, gr5, at5⟩ := app_hasF (P := Tryd.prog) x4 base 58 58 3 i0 _ 1 8 icells Tryd.underlying58 hi0 hz0 hz1 hz2 rfl (by decide) v L.length (L.flatMap icells) (o4.owns hown (fun _ _ e => e)) _ [n] (by simp) hF hone (by rw [List.length_singleton]; unfold maxLen; omega) (by rw [List.length_singleton]; omega) (by have := o4.size; omega)
  obtain ⟨uo, uc, eu⟩ := ownsRow_shape own5
  have eV := own_blk hown
  have eU := own_blk own5
  rw [eV] at gr5
  rw [eV, eU] at at5
  rw [List.length_singleton] at eu
  subst eu
  refine ⟨x4, g, uo, uc, x5, e4, eg, hrun, ?_, ?_, ?_⟩
  · rw [List.flatMap_append, List.length_append, List.length_singleton]; exact own5
  · exact (o4.mono (T := fun j => blk v = some j) (fun _ _ e => e.elim)).trans ((Only.refl (fun j => blk v = some j) x4).grown gr5 (fun k hk _ => hk)) (fun _ _ e => e)
  · rcases at5 with e | e
    · exact Or.inl e
    · exact Or.inr (fun j hj => by rw [e] at hj; simp only [Option.some.injEq] at hj; have := o4.size; omega)

def stK (o : Ob) (t : Int) : Nat → Int
  | 0 => o.state
  | 1 => st1 o t
  | _ => st2 o t
def dueK (o : Ob) (t : Int) : Nat → List Int
  | 0 => []
  | 1 => if go1 o t then [2] else []
  | _ => due o t
theorem dueK_len (o : Ob) (t : Int) (k : Nat) : (dueK o t k).length ≤ 2 := by
  unfold dueK
  split
  · simp
  · split <;> simp
  · unfold due; split <;> split <;> simp

set_option maxRecDepth 100000 in
set_option maxHeartbeats 4000000 in
theorem due_any (o : Ob) (mv nv lv cv : Value) (t : Int) (w : World) (hd : o.dates.length = 10) :
    Calls Tryd.prog 27 #[val o mv nv lv cv, .int .i64 t] w fun e w' => ∃ v, e = .returned v ∧ w'.ownsRow w.heap.size 3 1 v (due o t).length ((due o t).flatMap icells) ∧ Only (fun _ => False) w w' := by
  obtain ⟨w1, k1, e1, ek1, hb1, o1, hs1⟩ := boxed w (cells o mv nv lv cv).toArray 32
  rw [List.toList_toArray] at hb1
  have HB := hide hb1
  have O1 := hide o1
  have HE1 := hide e1
  have HEK1 := hide ek1
  have HD := hide hd
  have HP := hide (passages_any w1)
  have hk1 : w.heap.size ≤ k1 := by omega
  unfold val
  obtain ⟨A, hA⟩ : ∃ A, A = cells o mv nv lv cv := ⟨_, rfl⟩
  have HA := hide hA
  rw [← hA] at HE1 HB ⊢
  clear hA hb1 o1 e1 ek1 hs1 hd
  go_enter Tryd.func27, Tryd.ntmps27
  go_upto_region 2 with fail
  rw [← unhide HEK1, ← unhide HE1]
  go_wp2_with fail
  refine (unhide HP).mono ?_
  rintro e w2 ⟨rfl, o2⟩
  have O2 := hide ((unhide O1).trans o2 (fun _ _ e => e))
  have HB2 := hide ((unhide HB).same o2)
  have HK2 : Hid (k1 < w2.heap.size) := (unhide HB2).lt
  clear HB O1 HE1 HEK1 HP o2
  go_wp2
  go_loopw [5, 10] (fun v i wr => ∃ k : Nat, k ≤ 2 ∧ i = .int .i64 k ∧ Hid (wr.ownsRow w2.heap.size 3 1 v (dueK o t k).length ((dueK o t k).flatMap icells)) ∧ Hid (Bx wr k1 32 (cells { o with state := stK o t k } mv nv lv cv)) ∧ Hid (Only (fun _ => False) w wr) ∧ Hid (w2.heap.size ≤ wr.heap.size)) (fun _ i _ => 2 - (intOf i).toNat)
  case atStart => exact ⟨0, Nat.zero_le _, rfl, World.ownsRow_nil _ _ _ _, by show Bx _ _ _ _; rw [← show A = cells { o with state := stK o t 0 } mv nv lv cv from unhide HA]; exact unhide HB2, unhide O2, Nat.le_refl _⟩
  case round =>
    rename World => wr
    obtain ⟨k, hk, rfl, HV, HC, OR, HSZ⟩ := hrel
    have hk2 : k = 0 ∨ k = 1 ∨ k = 2 := by omega
    clear HB2 O2
    rcases hk2 with rfl | rfl | rfl
    · obtain ⟨S, hS⟩ : ∃ S, S = stK o t 0 := ⟨_, rfl⟩
      obtain ⟨b, hb⟩ : ∃ b, b = (dget o 1).1 := ⟨_, rfl⟩
      obtain ⟨d, hdd⟩ : ∃ d, d = (dget o 1).2 := ⟨_, rfl⟩
      have HG : Hid (go1 o t = (decide (S = 1) && (b && decide (d ≤ t)))) := by rw [hS, hb, hdd]; rfl
      have c6 := (unhide HC).cell 6 (.int .i64 (stK o t 0)) (cells_front _ _ _ _ _ 6 (by decide))
      have hdt := get_date { o with state := stK o t 0 } mv nv lv cv (unhide HD) 1 (by decide)
      have ca := (unhide HC).cell 9 (.bool (dget o 1).1) hdt.1
      have cb := (unhide HC).cell 10 (.int .i64 (dget o 1).2) hdt.2
      have f6 := (unhide HC).free 6
      rw [← hS] at c6
      rw [← hb] at ca
      rw [← hdd] at cb
      clear hb hdd hdt
      have hix : ∀ W, (Instr.index 53 (.agg #[.int .i64 1, .int .i64 1, .int .i64 2, .int .i64 2, .int .i64 4, .int .i64 3]) (.int .i64 0)).run Tryd.prog W = .ok (.agg #[.int .i64 1, .int .i64 1, .int .i64 2]) W := fun W => by kernel_rfl
      have hkl := (unhide HC).lt
      by_cases hs : S = 1
      · rw [hs] at c6
        have HSS := hide hs
        have HS2 := hide hS
        clear hs hS
        cases b with
        | false =>
          rw [Bool.false_and, Bool.and_false] at HG
          have HN : Hid (dueK o t 1 = dueK o t 0) := by show _ = _; simp [dueK, unhide HG]
          have HM : Hid (stK o t 1 = stK o t 0) := by show _ = _; simp [stK, st1, unhide HG]
          clear HG
          go_wp2
          go_roundw
          case rel => exact ⟨1, by omega, by go_num, by rw [unhide HN]; exact (((Only.refl _ wr).alloc _).alloc _).owns (unhide HV) (fun _ _ e => e), by rw [unhide HM]; exact (unhide HC).same (((Only.refl _ wr).alloc _).alloc _), (unhide OR).trans (((Only.refl _ wr).alloc _).alloc _) (fun _ _ e => e), Nat.le_trans (unhide HSZ) ((((Only.refl _ wr).alloc _).alloc _) : Only (fun _ => False) wr _).size⟩
          case measure => simp [intOf]
        | true =>
          by_cases hle : d ≤ t
          · have HG : Hid (go1 o t = true) := by have h1 := unhide HG; rw [decide_eq_true (unhide HSS), decide_eq_true hle] at h1; exact h1
            have HN : Hid (dueK o t 1 = dueK o t 0 ++ [2]) := by show _ = _; simp [dueK, unhide HG]
            have HM : Hid (stK o t 1 = 2) := by show _ = _; simp [stK, st1, unhide HG]
            clear HG
            go_upto_region 8 with fail
            have QA : Only (fun j => j = k1) wr (((wr.setCell ⟨k1, 6, none⟩ (.int .i64 2)).alloc (.cells #[.int .i64 1, .int .i64 1, .int .i64 2] 52)).alloc (.cells #[.bool true, .int .i64 d] 24)) := ((((Only.refl (fun j => j = k1) wr).here _ _).alloc _).alloc _)
            have BA : Bx (((wr.setCell ⟨k1, 6, none⟩ (.int .i64 2)).alloc (.cells #[.int .i64 1, .int .i64 1, .int .i64 2] 52)).alloc (.cells #[.bool true, .int .i64 d] 24)) k1 32 (cells { o with state := 2 } mv nv lv cv) := by rw [← set_state { o with state := stK o t 0 } mv nv lv cv (unhide HD) 2]; exact (((unhide HC).set 6 _).alloc _).alloc _
            have VA := QA.owns (unhide HV) (fun j hj e => by have h1 := (own_lt (unhide HV) j (by rw [← own_blk (unhide HV)]; exact hj)).1; have h2 := unhide HK2; omega)
            have hz : (wr.setCell ⟨k1, 6, none⟩ (.int .i64 2)).heap.size = wr.heap.size := by simp [World.setCell]
            have cp := ((Bx.new (wr.setCell ⟨k1, 6, none⟩ (.int .i64 2)) 52 [.int .i64 1, .int .i64 1, .int .i64 2]).alloc (.cells #[.bool true, .int .i64 d] 24)).cell 2 _ rfl
            rw [hz] at cp
            clear hz
            generalize (((wr.setCell ⟨k1, 6, none⟩ (.int .i64 2)).alloc (.cells #[.int .i64 1, .int .i64 1, .int .i64 2] 52)).alloc (.cells #[.bool true, .int .i64 d] 24)) = wA at *
            obtain ⟨x4, g, uo, uc, x5, e4, eg, hrun, own5, q5, -⟩ := appI VA (Nat.le_trans (unhide HSZ) QA.size) (by have := dueK_len o t 0; omega) 2
            have hbk : ∀ j, blk u5 = some j → w2.heap.size ≤ j := fun j hj => (own_lt VA j hj).1
            have HV5 := hide own5
            have HC5 := hide (BA.only q5 (fun e => by have h1 := hbk k1 e; have h2 := unhide HK2; omega))
            have HO5 := hide (((unhide OR).trans QA (fun j hj e => by omega)).trans (T := fun j => blk u5 = some j) q5 (fun j hj e => by have h1 := hbk j e; have h2 := unhide HK2; omega))
            have HZ5 : Hid (w2.heap.size ≤ x5.heap.size) := by have h1 := unhide HSZ; have h2 := QA.size; have h3 := q5.size; show _ ≤ _; omega
            have HE4 := hide e4
            have HEG := hide eg
            have HRUN := hide hrun
            have hkA := BA.lt
            clear e4 eg hrun own5 q5 QA BA VA hbk c6 ca cb f6 hkl
            go_wp2_with (first | (at_builtin; rw [← unhide HE4, ← unhide HEG]; refine wpList_app rfl (.tmp 36) (.tmp 39) 58 rfl u5 (.slice (some ⟨g, 0, none⟩) 1 1) _ x5 rfl rfl (unhide HRUN) ?_))
            go_roundw
            case rel => exact ⟨1, by omega, by go_num, by rw [unhide HN]; exact unhide HV5, by rw [unhide HM]; exact unhide HC5, unhide HO5, unhide HZ5⟩
            case measure => simp [intOf]
          · have HG : Hid (go1 o t = false) := by have h1 := unhide HG; rw [decide_eq_false hle, Bool.and_false, Bool.and_false] at h1; exact h1
            have HN : Hid (dueK o t 1 = dueK o t 0) := by show _ = _; simp [dueK, unhide HG]
            have HM : Hid (stK o t 1 = stK o t 0) := by show _ = _; simp [stK, st1, unhide HG]
            clear HG
            go_wp2
            go_roundw
            case rel => exact ⟨1, by omega, by go_num, by rw [unhide HN]; exact (((Only.refl _ wr).alloc _).alloc _).owns (unhide HV) (fun _ _ e => e), by rw [unhide HM]; exact (unhide HC).same (((Only.refl _ wr).alloc _).alloc _), (unhide OR).trans (((Only.refl _ wr).alloc _).alloc _) (fun _ _ e => e), Nat.le_trans (unhide HSZ) ((((Only.refl _ wr).alloc _).alloc _) : Only (fun _ => False) wr _).size⟩
            case measure => simp [intOf]
      · have HG : Hid (go1 o t = false) := by have h1 := unhide HG; rw [decide_eq_false hs, Bool.false_and] at h1; exact h1
        clear hS
        have HN : Hid (dueK o t 1 = dueK o t 0) := by show _ = _; simp [dueK, unhide HG]
        have HM : Hid (stK o t 1 = stK o t 0) := by show _ = _; simp [stK, st1, unhide HG]
        clear HG
        go_wp2
        go_roundw
        case rel => exact ⟨1, by omega, by go_num, by rw [unhide HN]; exact (((Only.refl _ wr).alloc _).alloc _).owns (unhide HV) (fun _ _ e => e), by rw [unhide HM]; exact (unhide HC).same (((Only.refl _ wr).alloc _).alloc _), (unhide OR).trans (((Only.refl _ wr).alloc _).alloc _) (fun _ _ e => e), Nat.le_trans (unhide HSZ) ((((Only.refl _ wr).alloc _).alloc _) : Only (fun _ => False) wr _).size⟩
        case measure => simp [intOf]
    · obtain ⟨S, hS⟩ : ∃ S, S = stK o t 1 := ⟨_, rfl⟩
      obtain ⟨b, hb⟩ : ∃ b, b = (dget o 4).1 := ⟨_, rfl⟩
      obtain ⟨d, hdd⟩ : ∃ d, d = (dget o 4).2 := ⟨_, rfl⟩
      have HG : Hid (go2 o t = (decide (S = 2) && (b && decide (d ≤ t)))) := by rw [hS, hb, hdd]; rfl
      have c6 := (unhide HC).cell 6 (.int .i64 (stK o t 1)) (cells_front _ _ _ _ _ 6 (by decide))
      have hdt := get_date { o with state := stK o t 1 } mv nv lv cv (unhide HD) 4 (by decide)
      have ca := (unhide HC).cell 15 (.bool (dget o 4).1) hdt.1
      have cb := (unhide HC).cell 16 (.int .i64 (dget o 4).2) hdt.2
      have f6 := (unhide HC).free 6
      rw [← hS] at c6
      rw [← hb] at ca
      rw [← hdd] at cb
      clear hb hdd hdt
      have hix : ∀ W, (Instr.index 53 (.agg #[.int .i64 1, .int .i64 1, .int .i64 2, .int .i64 2, .int .i64 4, .int .i64 3]) (.int .i64 1)).run Tryd.prog W = .ok (.agg #[.int .i64 2, .int .i64 4, .int .i64 3]) W := fun W => by kernel_rfl
      have hkl := (unhide HC).lt
      by_cases hs : S = 2
      · rw [hs] at c6
        have HSS := hide hs
        have HS2 := hide hS
        clear hs hS
        cases b with
        | false =>
          rw [Bool.false_and, Bool.and_false] at HG
          have HN : Hid (dueK o t 2 = dueK o t 1) := by show _ = _; simp [dueK, due, unhide HG]
          have HM : Hid (stK o t 2 = stK o t 1) := by show _ = _; simp [stK, st2, unhide HG]
          clear HG
          go_wp2
          go_roundw
          case rel => exact ⟨2, by omega, by go_num, by rw [unhide HN]; exact (((Only.refl _ wr).alloc _).alloc _).owns (unhide HV) (fun _ _ e => e), by rw [unhide HM]; exact (unhide HC).same (((Only.refl _ wr).alloc _).alloc _), (unhide OR).trans (((Only.refl _ wr).alloc _).alloc _) (fun _ _ e => e), Nat.le_trans (unhide HSZ) ((((Only.refl _ wr).alloc _).alloc _) : Only (fun _ => False) wr _).size⟩
          case measure => simp [intOf]
        | true =>
          by_cases hle : d ≤ t
          · have HG : Hid (go2 o t = true) := by have h1 := unhide HG; rw [decide_eq_true (unhide HSS), decide_eq_true hle] at h1; exact h1
            have HN : Hid (dueK o t 2 = dueK o t 1 ++ [3]) := by show _ = _; simp [dueK, due, unhide HG]
            have HM : Hid (stK o t 2 = 3) := by show _ = _; simp [stK, st2, unhide HG]
            clear HG
            go_upto_region 8 with fail
            have QA : Only (fun j => j = k1) wr (((wr.setCell ⟨k1, 6, none⟩ (.int .i64 3)).alloc (.cells #[.int .i64 2, .int .i64 4, .int .i64 3] 52)).alloc (.cells #[.bool true, .int .i64 d] 24)) := ((((Only.refl (fun j => j = k1) wr).here _ _).alloc _).alloc _)
            have BA : Bx (((wr.setCell ⟨k1, 6, none⟩ (.int .i64 3)).alloc (.cells #[.int .i64 2, .int .i64 4, .int .i64 3] 52)).alloc (.cells #[.bool true, .int .i64 d] 24)) k1 32 (cells { o with state := 3 } mv nv lv cv) := by rw [← set_state { o with state := stK o t 1 } mv nv lv cv (unhide HD) 3]; exact (((unhide HC).set 6 _).alloc _).alloc _
            have VA := QA.owns (unhide HV) (fun j hj e => by have h1 := (own_lt (unhide HV) j (by rw [← own_blk (unhide HV)]; exact hj)).1; have h2 := unhide HK2; omega)
            have hz : (wr.setCell ⟨k1, 6, none⟩ (.int .i64 3)).heap.size = wr.heap.size := by simp [World.setCell]
            have cp := ((Bx.new (wr.setCell ⟨k1, 6, none⟩ (.int .i64 3)) 52 [.int .i64 2, .int .i64 4, .int .i64 3]).alloc (.cells #[.bool true, .int .i64 d] 24)).cell 2 _ rfl
            rw [hz] at cp
            clear hz
            generalize (((wr.setCell ⟨k1, 6, none⟩ (.int .i64 3)).alloc (.cells #[.int .i64 2, .int .i64 4, .int .i64 3] 52)).alloc (.cells #[.bool true, .int .i64 d] 24)) = wA at *
            obtain ⟨x4, g, uo, uc, x5, e4, eg, hrun, own5, q5, -⟩ := appI VA (Nat.le_trans (unhide HSZ) QA.size) (by have := dueK_len o t 1; omega) 3
            have hbk : ∀ j, blk u5 = some j → w2.heap.size ≤ j := fun j hj => (own_lt VA j hj).1
            have HV5 := hide own5
            have HC5 := hide (BA.only q5 (fun e => by have h1 := hbk k1 e; have h2 := unhide HK2; omega))
            have HO5 := hide (((unhide OR).trans QA (fun j hj e => by omega)).trans (T := fun j => blk u5 = some j) q5 (fun j hj e => by have h1 := hbk j e; have h2 := unhide HK2; omega))
            have HZ5 : Hid (w2.heap.size ≤ x5.heap.size) := by have h1 := unhide HSZ; have h2 := QA.size; have h3 := q5.size; show _ ≤ _; omega
            have HE4 := hide e4
            have HEG := hide eg
            have HRUN := hide hrun
            have hkA := BA.lt
            clear e4 eg hrun own5 q5 QA BA VA hbk c6 ca cb f6 hkl
            go_wp2_with (first | (at_builtin; rw [← unhide HE4, ← unhide HEG]; refine wpList_app rfl (.tmp 36) (.tmp 39) 58 rfl u5 (.slice (some ⟨g, 0, none⟩) 1 1) _ x5 rfl rfl (unhide HRUN) ?_))
            go_roundw
            case rel => exact ⟨2, by omega, by go_num, by rw [unhide HN]; exact unhide HV5, by rw [unhide HM]; exact unhide HC5, unhide HO5, unhide HZ5⟩
            case measure => simp [intOf]
          · have HG : Hid (go2 o t = false) := by have h1 := unhide HG; rw [decide_eq_false hle, Bool.and_false, Bool.and_false] at h1; exact h1
            have HN : Hid (dueK o t 2 = dueK o t 1) := by show _ = _; simp [dueK, due, unhide HG]
            have HM : Hid (stK o t 2 = stK o t 1) := by show _ = _; simp [stK, st2, unhide HG]
            clear HG
            go_wp2
            go_roundw
            case rel => exact ⟨2, by omega, by go_num, by rw [unhide HN]; exact (((Only.refl _ wr).alloc _).alloc _).owns (unhide HV) (fun _ _ e => e), by rw [unhide HM]; exact (unhide HC).same (((Only.refl _ wr).alloc _).alloc _), (unhide OR).trans (((Only.refl _ wr).alloc _).alloc _) (fun _ _ e => e), Nat.le_trans (unhide HSZ) ((((Only.refl _ wr).alloc _).alloc _) : Only (fun _ => False) wr _).size⟩
            case measure => simp [intOf]
      · have HG : Hid (go2 o t = false) := by have h1 := unhide HG; rw [decide_eq_false hs, Bool.false_and] at h1; exact h1
        clear hS
        have HN : Hid (dueK o t 2 = dueK o t 1) := by show _ = _; simp [dueK, due, unhide HG]
        have HM : Hid (stK o t 2 = stK o t 1) := by show _ = _; simp [stK, st2, unhide HG]
        clear HG
        go_wp2
        go_roundw
        case rel => exact ⟨2, by omega, by go_num, by rw [unhide HN]; exact (((Only.refl _ wr).alloc _).alloc _).owns (unhide HV) (fun _ _ e => e), by rw [unhide HM]; exact (unhide HC).same (((Only.refl _ wr).alloc _).alloc _), (unhide OR).trans (((Only.refl _ wr).alloc _).alloc _) (fun _ _ e => e), Nat.le_trans (unhide HSZ) ((((Only.refl _ wr).alloc _).alloc _) : Only (fun _ => False) wr _).size⟩
        case measure => simp [intOf]
    · go_wp2
      go_ret
      exact ⟨_, rfl, ownsRow_base (unhide HV) (by have := unhide HK2; omega), unhide OR⟩
end Ob
end Go.Proofs.YtadpmninoghcjaaDoor
