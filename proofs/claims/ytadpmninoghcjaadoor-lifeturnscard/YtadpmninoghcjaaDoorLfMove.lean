/-
  life.Move, Next.
-/
import Derived.Test.YtadpmninoghcjaaDoorLfTime
namespace Go.Proofs.YtadpmninoghcjaaDoor
open Go.RowKit
set_option linter.unusedSimpArgs false
set_option linter.unusedVariables false
namespace Ob

set_option maxRecDepth 100000 in
set_option maxHeartbeats 4000000 in
theorem next_any (o : Ob) (mv nv lv cv : Value) (w : World) (hd : o.dates.length = 10) :
    Calls Tryd.prog 8 #[val o mv nv lv cv] w fun e w' => e = .returned (.tuple #[.int .i64 (nxt o).1, .bool (nxt o).2]) ∧ Only (fun _ => False) w w' := by
  obtain ⟨w1, k1, e1, ek1, hb1, o1, hs1⟩ := boxed w (cells o mv nv lv cv).toArray 32
  rw [List.toList_toArray] at hb1
  have HB := hide hb1
  have O1 := hide o1
  have HE1 := hide e1
  have HEK1 := hide ek1
  have HD := hide hd
  have HP := hide (passages_any w1)
  unfold val
  obtain ⟨A, hA⟩ : ∃ A, A = cells o mv nv lv cv := ⟨_, rfl⟩
  have HA := hide hA
  rw [← hA] at HE1 HB ⊢
  clear hA hb1 o1 e1 ek1 hs1 hd
  go_enter Tryd.func8, Tryd.ntmps8
  go_upto_region 1 with fail
  rw [← unhide HEK1, ← unhide HE1]
  go_wp2_with fail
  refine (unhide HP).mono ?_
  rintro e w2 ⟨rfl, o2⟩
  have O2 := hide ((unhide O1).trans o2 (fun _ _ e => e))
  have HB2 := hide ((unhide HB).same o2)
  clear HB O1 HE1 HEK1 HP o2
  have HN1 : Hid (nxt o = if decide (o.state = 1) && (dget o 1).1 then ((dget o 1).2, true) else if decide (o.state = 2) && (dget o 4).1 then ((dget o 4).2, true) else (0, false)) := rfl
  go_wp2
  go_loopw [8] (fun i wr => ∃ k : Nat, k ≤ 2 ∧ i = .int .i64 k ∧ Hid (Only (fun _ => False) w2 wr) ∧ Hid (1 ≤ k → (decide (o.state = 1) && (dget o 1).1) = false) ∧ Hid (2 ≤ k → (decide (o.state = 2) && (dget o 4).1) = false)) (fun i _ => 2 - (intOf i).toNat)
  case atStart => exact ⟨0, Nat.zero_le _, rfl, Only.refl _ _, fun h => absurd h (by omega), fun h => absurd h (by omega)⟩
  case round =>
    rename World => wr
    obtain ⟨k, hk, rfl, OR, HF1, HF2⟩ := hrel
    have hk2 : k = 0 ∨ k = 1 ∨ k = 2 := by omega
    have HC := hide ((unhide HB2).same (unhide OR))
    have OW := hide ((unhide O2).trans (unhide OR) (fun _ _ e => e))
    have c6 := (unhide HC).cell 6 (.int .i64 o.state) (by rw [unhide HA]; exact cells_front _ _ _ _ _ 6 (by decide))
    have d1 := get_date o mv nv lv cv (unhide HD) 1 (by decide)
    have d4 := get_date o mv nv lv cv (unhide HD) 4 (by decide)
    have a1 := (unhide HC).cell 9 (.bool (dget o 1).1) (by rw [unhide HA]; exact d1.1)
    have b1 := (unhide HC).cell 10 (.int .i64 (dget o 1).2) (by rw [unhide HA]; exact d1.2)
    have a4 := (unhide HC).cell 15 (.bool (dget o 4).1) (by rw [unhide HA]; exact d4.1)
    have b4 := (unhide HC).cell 16 (.int .i64 (dget o 4).2) (by rw [unhide HA]; exact d4.2)
    have hkl := (unhide HC).lt
    clear d1 d4
    rcases hk2 with rfl | rfl | rfl
    · have HG : Hid ((decide (o.state = 1) && (dget o 1).1) = (decide (o.state = 1) && (dget o 1).1)) := rfl
      have hix : ∀ W, (Instr.index 53 (.agg #[.int .i64 1, .int .i64 1, .int .i64 2, .int .i64 2, .int .i64 4, .int .i64 3]) (.int .i64 0)).run Tryd.prog W = .ok (.agg #[.int .i64 1, .int .i64 1, .int .i64 2]) W := fun W => by kernel_rfl
      clear a4 b4
      obtain ⟨S, hS⟩ : ∃ S, S = o.state := ⟨_, rfl⟩
      obtain ⟨p, hp⟩ : ∃ p, p = (dget o 1).1 := ⟨_, rfl⟩
      obtain ⟨d, hdd⟩ : ∃ d, d = (dget o 1).2 := ⟨_, rfl⟩
      rw [← hS] at c6
      rw [← hp] at a1
      rw [← hdd] at b1
      have HSS := hide hS
      have HPP := hide hp
      have HDD := hide hdd
      clear hS hp hdd
      by_cases hs : S = 1
      · have HST := hide hs
        rw [hs] at c6
        clear hs
        cases p with
        | true =>
          have HE : Hid (nxt o = (d, true)) := by
            show _ = _
            rw [unhide HN1, ← unhide HPP, ← unhide HSS, unhide HST, ← unhide HDD]; rfl
          go_wp2
          refine bodyPost_ret (results_tmp2 rfl _ _ _) rfl ?_
          exact ⟨by rw [unhide HE]; rfl, (((unhide OW).alloc _).alloc _)⟩
        | false =>
          have HF : Hid ((decide (o.state = 1) && (dget o 1).1) = false) := by show _ = _; rw [← unhide HPP, Bool.and_false]
          go_wp2
          go_roundw
          case rel => exact ⟨1, by omega, by go_num, (((unhide OR).alloc _).alloc _), fun _ => unhide HF, fun h => absurd h (by omega)⟩
          case measure => simp [intOf]
      · have HF : Hid ((decide (o.state = 1) && (dget o 1).1) = false) := by show _ = _; rw [← unhide HSS, decide_eq_false hs, Bool.false_and]
        go_wp2
        go_roundw
        case rel => exact ⟨1, by omega, by go_num, (((unhide OR).alloc _).alloc _), fun _ => unhide HF, fun h => absurd h (by omega)⟩
        case measure => simp [intOf]
    · have HG : Hid ((decide (o.state = 2) && (dget o 4).1) = (decide (o.state = 2) && (dget o 4).1)) := rfl
      have hix : ∀ W, (Instr.index 53 (.agg #[.int .i64 1, .int .i64 1, .int .i64 2, .int .i64 2, .int .i64 4, .int .i64 3]) (.int .i64 1)).run Tryd.prog W = .ok (.agg #[.int .i64 2, .int .i64 4, .int .i64 3]) W := fun W => by kernel_rfl
      clear a1 b1
      obtain ⟨S, hS⟩ : ∃ S, S = o.state := ⟨_, rfl⟩
      obtain ⟨p, hp⟩ : ∃ p, p = (dget o 4).1 := ⟨_, rfl⟩
      obtain ⟨d, hdd⟩ : ∃ d, d = (dget o 4).2 := ⟨_, rfl⟩
      rw [← hS] at c6
      rw [← hp] at a4
      rw [← hdd] at b4
      have HSS := hide hS
      have HPP := hide hp
      have HDD := hide hdd
      clear hS hp hdd
      by_cases hs : S = 2
      · have HST := hide hs
        rw [hs] at c6
        clear hs
        cases p with
        | true =>
          have HE : Hid (nxt o = (d, true)) := by
            show _ = _
            rw [unhide HN1, unhide HF1 (by decide), ← unhide HPP, ← unhide HSS, unhide HST, ← unhide HDD]; rfl
          go_wp2
          refine bodyPost_ret (results_tmp2 rfl _ _ _) rfl ?_
          exact ⟨by rw [unhide HE]; rfl, (((unhide OW).alloc _).alloc _)⟩
        | false =>
          have HF : Hid ((decide (o.state = 2) && (dget o 4).1) = false) := by show _ = _; rw [← unhide HPP, Bool.and_false]
          go_wp2
          go_roundw
          case rel => exact ⟨2, by omega, by go_num, (((unhide OR).alloc _).alloc _), fun _ => unhide HF1 (by decide), fun _ => unhide HF⟩
          case measure => simp [intOf]
      · have HF : Hid ((decide (o.state = 2) && (dget o 4).1) = false) := by show _ = _; rw [← unhide HSS, decide_eq_false hs, Bool.false_and]
        go_wp2
        go_roundw
        case rel => exact ⟨2, by omega, by go_num, (((unhide OR).alloc _).alloc _), fun _ => unhide HF1 (by decide), fun _ => unhide HF⟩
        case measure => simp [intOf]
    · clear c6 a1 b1 a4 b4
      have HE : Hid (nxt o = (0, false)) := by show _ = _; rw [unhide HN1, unhide HF1 (by decide), unhide HF2 (by decide)]; rfl
      go_wp2
      refine bodyPost_ret (results_tmp2 rfl _ _ _) rfl ?_
      exact ⟨by rw [unhide HE]; rfl, unhide OW⟩

def mvK (o : Ob) (t : Int) (L : List Int) : Nat → Ob
  | 0 => o
  | k + 1 => dput { o with state := L.getD k 0 } 9 (true, t)
theorem mvK_step (o : Ob) (t : Int) (L : List Int) (k : Nat) (n : Int) (h : L.getD k 0 = n) : ({ mvK o t L k with state := n, dates := (mvK o t L k).dates.set 9 (true, t) } : Ob) = mvK o t L (k + 1) := by
  cases k with
  | zero => simp only [mvK, dput, h]
  | succ k => simp only [mvK, dput, h, List.set_set]
theorem mvK_end (o : Ob) (t : Int) : mvK o t (due o t) (due o t).length = move o t := by
  unfold move due
  rcases st2_cases o t with ⟨h1, h2, h3⟩ | ⟨h1, h2, h0, h3⟩ | ⟨h1, h2, h0, h3⟩ | ⟨h1, h2, h0, h3⟩ <;> simp [h1, h2, h3, mvK]
theorem mvK_same (o : Ob) (t : Int) (L : List Int) (k : Nat) : (mvK o t L k).mat = o.mat ∧ (mvK o t L k).names = o.names ∧ (mvK o t L k).links = o.links ∧ (mvK o t L k).custom = o.custom ∧ (mvK o t L k).dates.length = o.dates.length := by
  cases k <;> simp [mvK, dput]
theorem in_move {w : World} {o : Ob} {mv nv lv cv : Value} (h : In w o mv nv lv cv) (t : Int) (ht : W64 t) : In w (move o t) mv nv lv cv := by
  unfold move
  split
  · refine ⟨h.mat, h.names, h.links, h.custom, by show (o.dates.set _ _).length = 10; rw [List.length_set]; exact h.ten, ?_, fun d hd => ?_, h.lks, h.strs⟩
    · have hs : W64 (st2 o t) := by
        rcases st2_cases o t with ⟨h1, h2, h3⟩ | ⟨h1, h2, h3, h4⟩ | ⟨h1, h2, h3, h4⟩ | ⟨h1, h2, h3, h4⟩
        · rw [h3]; exact h.ints.2.2.2.2.1
        · rw [h4]; exact ⟨by decide, by decide⟩
        · rw [h4]; exact ⟨by decide, by decide⟩
        · rw [h4]; exact ⟨by decide, by decide⟩
      exact ⟨h.ints.1, h.ints.2.1, h.ints.2.2.1, h.ints.2.2.2.1, hs, h.ints.2.2.2.2.2⟩
    · rcases List.mem_or_eq_of_mem_set hd with hd | rfl
      · exact h.dats d hd
      · exact ht
  · exact h
theorem cell_state (o : Ob) (mv nv lv cv : Value) : (cells o mv nv lv cv)[6]? = some (.int .i64 o.state) := cells_front o mv nv lv cv 6 (by decide)

set_option maxRecDepth 100000 in
set_option maxHeartbeats 4000000 in
theorem move_any (o : Ob) (mv nv lv cv : Value) (t : Int) (w : World) (I : In w o mv nv lv cv) (S : Small o) (ht : W64 t) :
    Calls Tryd.prog 23 #[val o mv nv lv cv, .int .i64 t] w fun e w' => ∃ mv' nv' lv' cv', e = .returned (val (move o t) mv' nv' lv' cv') ∧ In w' (move o t) mv' nv' lv' cv' ∧ Fresh4 w.heap.size mv' nv' lv' cv' ∧ Only (fun _ => False) w w' := by
  have hd := I.ten
  obtain ⟨w1, k1, e1, ek1, hb1, o1, hs1⟩ := boxed w (cells o mv nv lv cv).toArray 32
  obtain ⟨w2, k2, e2, ek2, hb2, o2, hs2⟩ := boxed w1 Zo.toArray 32
  have OW := hide (o1.trans o2 (fun _ _ e => e))
  rw [List.toList_toArray] at hb1
  have HB := hide (hb1.same o2)
  have HZ : Hid (Bx w2 k2 32 Zo) := hb2
  have hk1 : w.heap.size ≤ k1 := by omega
  have hk2 : k1 < k2 := by omega
  have hk2s : k2 < w2.heap.size := by omega
  have HII := hide I
  have HS := hide S
  have HD := hide hd
  have HE1 := hide e1
  have HEK1 := hide ek1
  have HE2 := hide e2
  have HK12 : Hid (k1 + 1 = k2) := by show _ = _; omega
  have HCP := hide (copy_any o mv nv lv cv w2 (I.same (unhide OW)) S)
  have HT := hide ht
  unfold val at HCP ⊢
  obtain ⟨A, hA⟩ : ∃ A, A = cells o mv nv lv cv := ⟨_, rfl⟩
  have HA := hide hA
  have hln : A.length = 37 := by rw [hA]; exact cells_len _ _ _ _ _ hd
  rw [← hA] at HE1 HB HCP ⊢
  have hrg := (unhide HB).range 0 37
  rw [List.drop_zero, List.take_of_length_le (by omega)] at hrg
  obtain ⟨dsc, hdu, hdr⟩ := row_desc Tryd.rowObj
  have hsz : (Tryd.prog.info? 32).map (·.size) = some A.length := by rw [hln]; exact Tryd.sizeObj
  have HRG := hide hrg
  have HSZ := hide hsz
  have HLN := hide hln
  clear hA hb1 hb2 o1 o2 hs1 hs2 I S hd e1 ek1 e2 ek2 hrg hsz hln ht
  go_enter Tryd.func23, Tryd.ntmps23
  go_upto_region 1 with fail
  rw [zo_eq, ← unhide HE1, ← unhide HEK1, ← unhide HE2, unhide HK12]
  clear HE1 HEK1 HE2
  go_wp2_with (refine wpList_load_mid rfl 32 (.tmp 2) rfl k1 0 rfl A dsc (unhide HRG) hdu hdr (unhide HSZ) ?_)
  refine (unhide HCP).mono ?_
  rintro e w3 ⟨mv', nv', lv', cv', rfl, hin, hfr, o3⟩
  have hfr1 : ∀ j, (blk mv' = some j ∨ blk nv' = some j ∨ blk lv' = some j ∨ blk cv' = some j) → k2 < j := fun j hj => by have := hfr j hj; omega
  have hln3 := cells_len o mv' nv' lv' cv' (unhide HD)
  obtain ⟨hth, hfb, hin4, hof⟩ := fin37 hin (fun j hj e => by have := hfr1 j hj; omega) ((unhide HB).same o3) (unhide HLN)
  have hone := hin.one
  obtain ⟨B, hB⟩ : ∃ B, B = cells o mv' nv' lv' cv' := ⟨_, rfl⟩
  rw [← hB] at hth hfb hin4 hof hone hln3
  have hrg4 := hfb.range 0 37
  rw [List.drop_zero, List.take_of_length_le (by omega)] at hrg4
  have hsz4 : (Tryd.prog.info? 32).map (·.size) = some B.length := by rw [hln3]; exact Tryd.sizeObj
  have HDU := hide (due_any o mv' nv' lv' cv' t (w3.setCells k1 0 B) (unhide HD))
  unfold val at HDU
  rw [← hB] at HDU
  have Q4 : Hid (Only (fun j => j = k1) w (w3.setCells k1 0 B)) := (((unhide OW).trans o3 (fun _ _ e => e)).mono (T := fun j => j = k1) (fun _ _ e => e.elim)).trans hof (fun _ _ e => e)
  have HZ4 : Hid (Bx (w3.setCells k1 0 B) k2 32 Zo) := ((unhide HZ).same o3).only hof (by show ¬ k2 = k1; omega)
  have HTH := hide hth
  have HONE := hide hone
  have HFB := hide hfb
  have HIN4 := hide hin4
  have HFR1 := hide hfr1
  have HRG4 := hide hrg4
  have HSZ4 := hide hsz4
  have HBB := hide hB
  rw [← hB]
  clear hth hone hfb hin4 hfr1 hrg4 hsz4 hB hof hin hfr o3 HB HCP HRG HSZ hln3 HZ OW
  go_wp2_with (first
    | (refine wpList_store_mid rfl 32 (.tmp 2) (.tmp 8) rfl k1 0 B.toArray rfl rfl (unhide HTH) (by rw [List.size_toArray]; exact unhide HSZ4) (unhide HONE) ?_)
    | (refine wpList_load_mid rfl 32 (.tmp 2) rfl k1 0 rfl B dsc (unhide HRG4) hdu hdr (unhide HSZ4) ?_))
  refine (unhide HDU).mono ?_
  rintro e w5 ⟨v, rfl, hown, o5⟩
  obtain ⟨L, hL⟩ : ∃ L, L = due o t := ⟨_, rfl⟩
  have HLL := hide hL
  rw [← hL] at hown
  have hL2 : L.length ≤ 2 := by rw [hL]; exact dueK_len o t 2
  clear hL
  have HV := hide (hasF_own hown (fun _ _ => rfl) rfl)
  obtain ⟨vo, vc, rfl⟩ := ownsRow_shape hown
  have HB5 : Hid (Bx w5 k1 32 (cells o mv' nv' lv' cv')) := by rw [← unhide HBB]; exact (unhide HFB).same o5
  have HZ5 := hide ((unhide HZ4).same o5)
  have HIN5 := hide ((unhide HIN4).same o5)
  have Q5 : Hid (Only (fun j => j = k1) w w5) := (unhide Q4).trans o5 (fun _ _ e => e.elim)
  have HVK : Hid (∀ j, blk (.slice vo L.length vc) = some j → k1 < j) := fun j hj => by have h1 := (own_lt hown j hj).1; have h2 := (unhide HFB).lt; omega
  have hlz : (L.length : Int) ≤ 2 := by omega
  clear hown o5 HTH HONE HFB HIN4 HRG4 HSZ4 HBB HDU Q4 HZ4
  obtain ⟨ln, hln⟩ : ∃ ln, ln = L.length := ⟨_, rfl⟩
  rw [← hln] at hlz hL2 HVK HV ⊢
  have HLN2 := hide hln
  clear hln
  go_wp2
  go_loopw [6, 13] (fun s i wr => ∃ k : Nat, k ≤ ln ∧ i = .int .i64 k ∧ Hid (Bx wr k1 32 (cells (mvK o t L k) mv' nv' lv' cv')) ∧ Hid (Only (fun j => j = k1) w5 wr)) (fun _ i _ => ln - (intOf i).toNat)
  case atStart => exact ⟨0, Nat.zero_le _, rfl, unhide HB5, Only.refl _ _⟩
  case round =>
    rename World => wr
    obtain ⟨k, hk, rfl, HC, OR⟩ := hrel
    have hd9 := (mvK_same o t L k)
    have HDK : Hid ((mvK o t L k).dates.length = 10) := by rw [hd9.2.2.2.2]; exact unhide HD
    by_cases hlt : k < ln
    case pos =>
      obtain ⟨n, hn⟩ : ∃ n, n = L.getD k 0 := ⟨_, rfl⟩
      have HST := hide (mvK_step o t L k n hn.symm)
      have hkL : k < L.length := by have := unhide HLN2; omega
      obtain ⟨ab, ao, rfl, hab, hat⟩ := (unhide HV).at (by omega)
      have r := hat k n (by rw [hn, List.getD_eq_getElem?_getD, List.getElem?_eq_getElem hkL]; rfl)
      have c0 := (unhide OR).cell (range_at r 0 _ rfl) (by show ¬ ab = k1; have := unhide HVK ab rfl; omega)
      rw [Nat.add_zero, Nat.mul_one] at c0
      have hkz : (k : Int) < (ln : Int) := by omega
      have c6 := (unhide HC).cell 6 _ (cell_state (mvK o t L k) mv' nv' lv' cv')
      have f6 := (unhide HC).free 6
      have HC2 : Hid (Bx (wr.setCell ⟨k1, 6, none⟩ (.int .i64 n)) k1 32 (cells { mvK o t L k with state := n } mv' nv' lv' cv')) := by
        rw [← set_state (mvK o t L k) mv' nv' lv' cv' (unhide HDK) n]; exact (unhide HC).set 6 _
      have OR2 : Hid (Only (fun j => j = k1) w5 (wr.setCell ⟨k1, 6, none⟩ (.int .i64 n))) := (unhide OR).here _ _
      have hkA : ab ≠ k1 := by have := unhide HVK ab rfl; omega
      clear hn r hat hab hd9 hkL
      go_upto_region 6 with fail
      generalize (wr.setCell ⟨k1, 6, none⟩ (.int .i64 n)) = wA at *
      have HON := hide (on_any t wA)
      clear c0 c6 f6
      go_wp2_with fail
      refine (unhide HON).mono ?_
      rintro e w7 ⟨rfl, o7⟩
      have HC7 := (unhide HC2).same o7
      have hd7 := get_date { mvK o t L k with state := n } mv' nv' lv' cv' (unhide HDK) 9 (by decide)
      have ca := HC7.cell 25 _ hd7.1
      have cb := HC7.cell 26 _ hd7.2
      have f7 := HC7.free
      have HC8 : Hid (Bx ((w7.setCell ⟨k1, 25, none⟩ (.bool true)).setCell ⟨k1, 26, none⟩ (.int .i64 t)) k1 32 (cells (mvK o t L (k + 1)) mv' nv' lv' cv')) := by
        have h := setCells_blk [.bool true, .int .i64 t] w7 25 _ HC7
        rw [set_date { mvK o t L k with state := n } mv' nv' lv' cv' (unhide HDK) 9 (by decide) true t, unhide HST] at h
        exact h
      have OR8 : Hid (Only (fun j => j = k1) w5 ((w7.setCell ⟨k1, 25, none⟩ (.bool true)).setCell ⟨k1, 26, none⟩ (.int .i64 t))) := (((unhide OR2).trans o7 (fun _ _ e => e.elim)).here _ _).here _ _
      clear o7 HC7 hd7 HON
      go_wp2
      go_roundw
      case rel => exact ⟨k + 1, by omega, by go_num, unhide HC8, unhide OR8⟩
      case measure => simp [intOf]; omega
    case neg =>
      obtain rfl : k = ln := by omega
      have HMV : Hid (mvK o t L k = move o t) := by show _ = _; rw [unhide HLN2, unhide HLL]; exact mvK_end o t
      rw [unhide HMV] at HC
      have hIN : In wr (move o t) mv' nv' lv' cv' := in_move (((unhide HIN5).off (unhide OR) (fun j hj e => by have := unhide HFR1 j hj; omega))) t (unhide HT)
      obtain ⟨hth, hfb, hinF, hof⟩ := fin37 hIN (fun j hj e => by have := unhide HFR1 j hj; omega) ((unhide HZ5).only (unhide OR) (by show ¬ k2 = k1; omega)) (cs0 := Zo) rfl
      have hone := hIN.one
      have hln3 := cells_len (move o t) mv' nv' lv' cv' hIN.ten
      have hrg := (unhide HC).range 0 37
      rw [List.drop_zero, List.take_of_length_le (by omega)] at hrg
      have hsz : (Tryd.prog.info? 32).map (·.size) = some (cells (move o t) mv' nv' lv' cv').length := by rw [hln3]; exact Tryd.sizeObj
      have HTH := hide hth
      have HONE := hide hone
      have HFB := hide hfb
      have HINF := hide hinF
      have HOF := hide hof
      have HRG := hide hrg
      have HSZ := hide hsz
      clear hth hone hfb hinF hof hrg hsz hln3 hIN hd9
      obtain ⟨B2, hB2⟩ : ∃ B2, B2 = cells (move o t) mv' nv' lv' cv' := ⟨_, rfl⟩
      rw [← hB2] at HTH HONE HFB HRG HSZ HOF HINF
      have HB2 := hide hB2
      clear hB2
      go_wp2_with (first
        | (refine wpList_load_mid rfl 32 (.tmp 2) rfl k1 0 rfl B2 dsc (unhide HRG) hdu hdr (unhide HSZ) ?_)
        | (refine wpList_store_mid rfl 32 (.tmp 4) (.tmp 24) rfl k2 0 B2.toArray rfl rfl (unhide HTH) (by rw [List.size_toArray]; exact unhide HSZ) (unhide HONE) ?_))
      refine bodyPost_ret (results_st rfl _ _ k2 32 B2.toArray (0, 0) rfl (unhide HFB) Tryd.rowObjM (by rw [List.size_toArray]; exact unhide HSZ)) rfl ?_
      refine ⟨mv', nv', lv', cv', by rw [unhide HB2], unhide HINF, fun j hj => by have := unhide HFR1 j hj; omega, ?_⟩
      exact (((unhide Q5).trans (unhide OR) (fun _ _ e => e)).mono (T := fun _ => False) (fun j hj e => by omega)).trans (unhide HOF) (fun j hj e => by omega)
end Ob
end Go.Proofs.YtadpmninoghcjaaDoor
