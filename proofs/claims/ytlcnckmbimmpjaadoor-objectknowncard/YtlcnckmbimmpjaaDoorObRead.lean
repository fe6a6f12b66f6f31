/-
  object.Read.
-/
import Derived.Test.YtlcnckmbimmpjaaDoorObG4
import Derived.Test.YtlcnckmbimmpjaaDoorObLay
import Derived.Test.YtlcnckmbimmpjaaDoorRdLO
namespace Go.Proofs.YtlcnckmbimmpjaaDoor
open Go.RowKit
set_option linter.unusedSimpArgs false
set_option linter.unusedVariables false
namespace Ob

theorem bequal_any (xv yv : Value) (xs ys : List UInt8) (w : World) (hx : Has w xv xs) (hy : Has w yv ys) : Calls Tryd.prog 29 #[xv, yv] w fun e w' => e = .returned (.bool (decide (xs = ys))) ∧ w' = w := by
  obtain ⟨xa, xc, hxs, _⟩ := hx.shape
  obtain ⟨ya, yc, hys, _⟩ := hy.shape
  subst hxs
  subst hys
  have h1 := str_conv hx
  have h2 := str_conv hy
  have HB := hide (str_beq xs ys)
  generalize str xs = X at *
  generalize str ys = Y at *
  generalize xs.length = xl at *
  generalize ys.length = yl at *
  clear hx hy
  go_enter Tryd.func29, Tryd.ntmps29
  go_wp2
  go_ret
  rw [← unhide HB]
  exact ⟨rfl, rfl⟩

theorem results_st2 {fn : Func} {p u : Tmp} {ty : TypeId} (h : fn.results = #[.cell p ty, .tmp u]) (tmps : Array Value) (w : World) (g : Nat) (t : TypeId) (cs : Array Value)
    (hp : tmps.getD p undef = .pointer (some ⟨g, 0, none⟩)) (hg : w.heap[g]? = some (.cells cs t (0, 0)))
    (hu : (Tryd.prog.underlying ty).map (fun d => match d with | .struct _ | .array _ _ => true | _ => false) = some true) (hi : (Tryd.prog.info? ty).map (·.size) = some cs.size) :
    (results fn tmps).run Tryd.prog w = .ok (.tuple #[.agg cs, tmps.getD u undef]) w := by
  have hp' : tmps[p]?.getD undef = .pointer (some ⟨g, 0, none⟩) := by simpa using hp
  cases hd : Tryd.prog.underlying ty with
  | none => rw [hd] at hu; cases hu
  | some d =>
    rw [hd] at hu
    cases d <;> first | (simp [results, h, hp', asAddr, run_loadVar_row w g t ty cs (0, 0) _ hg hd rfl hi]; done) | (simp at hu)

theorem fresh_none (b : Nat) : Fresh4 b (.slice none 0 0) (.slice none 0 0) (.slice none 0 0) (.slice none 0 0) := by intro j hj; simp [blk] at hj

def readE (b : List UInt8) : Int := if fits b then 0 else 5
theorem in_zero (w : World) : In w zero (.slice none 0 0) (.slice none 0 0) (.slice none 0 0) (.slice none 0 0) := by
  have z : W64 0 := ⟨by decide, by decide⟩
  refine ⟨Or.inl ⟨rfl, rfl⟩, hasF_nil _ _ _, hasF_nil _ _ _, hasF_nil _ _ _, rfl, ⟨z, z, z, z, z, z, z, z, z⟩, fun d hd => ?_, (fun k hk => by cases hk), ⟨Nat.zero_le _, Nat.zero_le _, (fun s hs => by cases hs), (fun s hs => by cases hs), (fun s hs => by cases hs)⟩⟩
  have : d = (false, 0) := List.eq_of_mem_replicate hd
  rw [this]; exact z
theorem zo_cells : Zo = cells zero (.slice none 0 0) (.slice none 0 0) (.slice none 0 0) (.slice none 0 0) := rfl
theorem zo_one : Zo.toArray.all (·.oneCell') = true := by
  apply all_oneCell_toArray
  rw [zo_cells]
  exact cells_one _ _ _ _ _ rfl rfl rfl rfl
theorem bx_there {w : World} {b : Nat} {t : TypeId} {cs : List Value} (h : Bx w b t cs) (n : Nat) (hn : n = cs.length) : w.there b 0 n := by
  subst hn
  intro j hj
  rw [Nat.zero_add]
  refine ⟨?_, h.free j⟩
  rw [h.cell j _ (List.getElem?_eq_getElem hj)]
  rfl

/-- an object's value that is put into a variable -/
theorem made37 (x : World) (A : List Value) (hA : A.length = 37) : ∃ wy b, wy = (x.alloc (.cells Zo.toArray 35)).setCells x.heap.size 0 A.toArray.toList ∧ b = x.heap.size ∧ Bx wy b 35 A ∧ Only (fun _ => False) x wy ∧ (x.alloc (.cells Zo.toArray 35)).there x.heap.size 0 A.toArray.size := by
  refine ⟨_, _, rfl, rfl, ?_, Only.setCells (fun h => absurd h (by omega)) _ _ _ ((Only.refl _ x).alloc _), bx_there (Bx.new x 35 Zo) _ (by rw [List.size_toArray, hA]; rfl)⟩
  rw [List.toList_toArray]
  exact setCells_bx (Bx.new x 35 Zo) A (by rw [hA]; rfl)

set_option maxRecDepth 100000 in
set_option maxHeartbeats 4000000 in
theorem read_any (bs : List UInt8) (bv : Value) (w : World) (h : Has w bv bs) (hl : bs.length ≤ 140737488355328) (hT : Tabs w) :
    Calls Tryd.prog 9 #[bv] w fun e w' => ∃ mv nv lv cv, e = .returned (.tuple #[val (read bs) mv nv lv cv, .int .i64 (readE bs)]) ∧ In w' (read bs) mv nv lv cv ∧ Fresh4 w.heap.size mv nv lv cv ∧ Only (fun _ => False) w w' := by
  obtain ⟨w1, k1, e1, ek1, hb1, o1, hs1⟩ := boxed w Zo.toArray 35
  have HNEW := hide (RO.mine_new bv bs w1 (h.only o1 (fun _ _ _ e => e)) hl)
  have HB1 : Hid (Bx w1 k1 35 Zo) := hb1
  have O1 := hide o1
  have HH := hide h
  have HT := hide hT
  have HL := hide hl
  obtain ⟨o, ho⟩ : ∃ o, o = (rOb (false, bs)).1 := ⟨_, rfl⟩
  have HOO := hide ho
  have HE : Hid (readE bs = if fits bs then 0 else 5) := rfl
  have HRD : Hid (read bs = if fits bs then o else zero) := by rw [ho]; rfl
  have HF : Hid (fits bs = (rightB o && decide (lay o = bs))) := by rw [ho]; rfl
  have hk1 : w.heap.size ≤ k1 := by omega
  have hk1l : k1 < w1.heap.size := by omega
  obtain ⟨ba, bc, hbv, _⟩ := h.shape
  subst hbv
  clear hb1 o1 hs1 h hT hl ho
  go_enter Tryd.func9, Tryd.ntmps9
  go_upto_region 1 with fail
  rw [zo_eq, ← e1, ← ek1]
  clear e1 ek1
  go_wp2_with fail
  refine (unhide HNEW).mono ?_
  rintro e x1 ⟨rb, rfl, hm⟩
  obtain ⟨v, hv, hvk⟩ := hm.at'
  have OX1 := hide ((unhide O1).trans hm.only (fun _ _ e => e))
  have HB1x := hide ((unhide HB1).same hm.only)
  have hrb := hm.up
  have hrl := hm.lt
  have hvl : ∀ j, blk v = some j → j < x1.heap.size := fun j hj => (hvk j hj).2
  have HC := hide (robject_any (s := (false, bs)) hv hvl (unhide HL))
  have hx1 := hm.only.size
  unfold rv at HC
  clear hm hvk hvl hv HNEW HB1
  go_wp2_with fail
  refine (unhide HC).mono ?_
  rintro e x2 ⟨mv, nv, lv, cv, rfl, hin, hfr, v2, q2⟩
  have HFR : Hid (∀ j, (blk mv = some j ∨ blk nv = some j ∨ blk lv = some j ∨ blk cv = some j) → ¬ j = k1) := fun j hj e => by have := hfr j hj; omega
  have HFR4 : Hid (Fresh4 w.heap.size mv nv lv cv) := fun j hj => by have := hfr j hj; have := (unhide OX1).size; omega
  clear hfr
  have hin : In x2 o mv nv lv cv := by rw [unhide HOO]; exact hin
  unfold val
  obtain ⟨A, hA⟩ : ∃ A, A = cells o mv nv lv cv := ⟨_, rfl⟩
  have hAA : cells (rOb (false, bs)).1 mv nv lv cv = A := by rw [hA, unhide HOO]
  rw [hAA]
  have hoc : A.length = 37 := by rw [hA]; exact cells_len o mv nv lv cv hin.ten
  obtain ⟨x3, k4, e4, ek4, hb4, o4, ht4⟩ := made37 x2 A hoc
  have hx2 := q2.only.size
  have OX3 : Hid (Only (fun _ => False) w x3) := ((unhide OX1).trans q2.only (fun j hj e => by have h1 := (unhide O1).size; omega)).trans o4 (fun _ _ e => e)
  have HB1y := hide (((unhide HB1x).only q2.only (by omega)).same o4)
  have HIN := hide (hin.same o4)
  have HB4 := hide hb4
  have hk4 : k1 < k4 := by omega
  have HOC := hide hoc
  have hone : A.toArray.all (·.oneCell') = true := by
    obtain ⟨_, _, e1, _⟩ := hin.mat.shape
    obtain ⟨_, _, e2, _⟩ := hin.names.shape
    obtain ⟨_, _, e3, _⟩ := hin.links.shape
    obtain ⟨_, _, e4, _⟩ := hin.custom.shape
    apply all_oneCell_toArray
    rw [hA]
    exact cells_one _ _ _ _ _ (by rw [e1]; rfl) (by rw [e2]; rfl) (by rw [e3]; rfl) (by rw [e4]; rfl)
  have HONE := hide hone
  have HT4 := hide ht4
  have HA := hide hA
  have HSZ : Hid ((Tryd.prog.info? 35).map (·.size) = some A.toArray.size) := by show _ = _; rw [List.size_toArray, hoc]; exact Tryd.sizeObj
  have HSZ2 : Hid ((Tryd.prog.info? 35).map (·.size) = some A.length) := by show _ = _; rw [hoc]; exact Tryd.sizeObj
  obtain ⟨dsc, hdu, hdr⟩ := row_desc Tryd.rowObj
  have hr4 := hb4.range 0 37
  rw [List.drop_zero, List.take_of_length_le (by omega)] at hr4
  have HHx := hide ((unhide HH).only (unhide OX3) (fun _ _ _ e => e))
  have HTx := hide ((unhide HT).same (unhide OX3))
  have HLA := hide (lay_any (hin.same o4) (unhide HTx))
  unfold val at HLA
  rw [← hA] at HLA
  clear hin q2 HC ht4 hAA hA hoc hb4 o4 hone
  go_upto_region 2 with (refine wpList_store_mid rfl 35 (.tmp 4) (.tmp 10) rfl x2.heap.size 0 A.toArray rfl rfl (unhide HT4) (unhide HSZ) (unhide HONE) ?_)
  rw [zo_eq, ← e4, ← ek4]
  clear e4 ek4 HT4
  have hlu : (layU o).length ≤ 140737488355328 := by have := layU_len (o := o) (by have := (unhide HIN).ten; exact this); omega
  have HU : Hid (layU o = if rightB o then lay o else []) := rfl
  have HEo : Hid (layE o = if rightB o then 0 else 1) := rfl
  go_wp2_with (refine wpList_load_mid rfl 35 (.tmp 4) rfl k4 0 rfl A dsc hr4 hdu hdr (unhide HSZ2) ?_)
  refine (unhide HLA).mono ?_
  rintro e x5 ⟨u, rfl, hu, o5⟩
  have OX5 := hide ((unhide OX3).trans o5 (fun _ _ e => e))
  have HB1z := hide ((unhide HB1y).same o5)
  have HB4z := hide ((unhide HB4).same o5)
  have HIN5 := hide ((unhide HIN).same o5)
  have HU5 := hide (Has.ofOwns hu)
  have HH5 := hide ((unhide HHx).only o5 (fun _ _ _ e => e))
  have hth : x5.there k1 0 A.toArray.size := bx_there (unhide HB1z) _ (by rw [List.size_toArray, unhide HOC]; rfl)
  have hthz : x5.there k1 0 Zo.toArray.size := bx_there (unhide HB1z) _ (by rw [List.size_toArray])
  have HTH := hide hth
  have HTHZ := hide hthz
  have hr5 := (unhide HB4z).range 0 37
  rw [List.drop_zero, List.take_of_length_le (by rw [unhide HOC]; omega)] at hr5
  clear hu o5 HLA hr4 hth hthz
  cases hri : rightB o with
  | false =>
    rw [hri] at HEo HF
    have HE0 : Hid (layE o = 1) := by show _ = _; rw [unhide HEo]; rfl
    rw [unhide HE0]
    have HFF : Hid (fits bs = false) := by show _ = _; rw [unhide HF]; rfl
    clear hri HEo HF
    have HFB := hide (setCells_bx (unhide HB1z) Zo rfl)
    have OF : Hid (Only (fun _ => False) w (x5.setCells k1 0 Zo)) := Only.setCells (fun h => absurd h (by omega)) _ _ _ (unhide OX5)
    go_wp2_with (first
      | (rw [zo_eq]; refine wpList_store_mid rfl 35 (.tmp 2) (.tmp 24) rfl k1 0 Zo.toArray rfl rfl (unhide HTHZ) Tryd.sizeObj zo_one ?_))
    refine bodyPost_ret (results_st2 rfl _ _ k1 35 Zo.toArray rfl (unhide HFB) Tryd.rowObjM Tryd.sizeObj) rfl ?_
    refine ⟨.slice none 0 0, .slice none 0 0, .slice none 0 0, .slice none 0 0, ?_, ?_, fresh_none _, unhide OF⟩
    · rw [unhide HE, unhide HRD, unhide HFF]; rfl
    · rw [unhide HRD, unhide HFF]; exact in_zero _
  | true =>
    rw [hri] at HEo HF HU
    have HE0 : Hid (layE o = 0) := by show _ = _; rw [unhide HEo]; rfl
    have HU0 : Hid (layU o = lay o) := by show _ = _; rw [unhide HU]; rfl
    rw [unhide HE0]
    rw [unhide HU0] at HU5
    clear hri HEo HU hlu
    have HEQ := hide (bequal_any u (.slice ba bs.length bc) (lay o) bs x5 (unhide HU5) (unhide HH5))
    obtain ⟨ua, uc, hue, _⟩ := (unhide HU5).shape
    subst hue
    generalize (lay o).length = ul at *
    cases hd : decide (lay o = bs) with
    | false =>
      rw [hd] at HF HEQ
      have HFF : Hid (fits bs = false) := by show _ = _; rw [unhide HF]; rfl
      clear hd HF
      have HFB := hide (setCells_bx (unhide HB1z) Zo rfl)
      have OF : Hid (Only (fun _ => False) w (x5.setCells k1 0 Zo)) := Only.setCells (fun h => absurd h (by omega)) _ _ _ (unhide OX5)
      go_wp2_with (first
        | (refine (unhide HEQ).mono ?_; rintro e x6 ⟨rfl, hx6⟩; rw [hx6]; clear hx6 x6)
        | (rw [zo_eq]; refine wpList_store_mid rfl 35 (.tmp 2) (.tmp 24) rfl k1 0 Zo.toArray rfl rfl (unhide HTHZ) Tryd.sizeObj zo_one ?_))
      refine bodyPost_ret (results_st2 rfl _ _ k1 35 Zo.toArray rfl (unhide HFB) Tryd.rowObjM Tryd.sizeObj) rfl ?_
      refine ⟨.slice none 0 0, .slice none 0 0, .slice none 0 0, .slice none 0 0, ?_, ?_, fresh_none _, unhide OF⟩
      · rw [unhide HE, unhide HRD, unhide HFF]; rfl
      · rw [unhide HRD, unhide HFF]; exact in_zero _
    | true =>
      rw [hd] at HF HEQ
      have HFF : Hid (fits bs = true) := by show _ = _; rw [unhide HF]; rfl
      clear hd HF
      have HFB := hide (setCells_bx (unhide HB1z) A (by rw [unhide HOC]; rfl))
      have OF : Hid (Only (fun _ => False) w (x5.setCells k1 0 A)) := Only.setCells (fun h => absurd h (by omega)) _ _ _ (unhide OX5)
      have OF5 : Hid (Only (fun j => j = k1) x5 (x5.setCells k1 0 A)) := Only.setCells (S := fun j => j = k1) (fun _ => rfl) _ _ _ (Only.refl _ x5)
      go_wp2_with (first
        | (refine (unhide HEQ).mono ?_; rintro e x6 ⟨rfl, hx6⟩; rw [hx6]; clear hx6 x6)
        | (refine wpList_load_mid rfl 35 (.tmp 4) rfl k4 0 rfl A dsc hr5 hdu hdr (unhide HSZ2) ?_)
        | (refine wpList_store_mid rfl 35 (.tmp 2) (.tmp 25) rfl k1 0 A.toArray rfl rfl (unhide HTH) (unhide HSZ) (unhide HONE) ?_))
      refine bodyPost_ret (results_st2 rfl _ _ k1 35 A.toArray rfl (unhide HFB) Tryd.rowObjM (unhide HSZ)) rfl ?_
      refine ⟨mv, nv, lv, cv, ?_, ?_, unhide HFR4, unhide OF⟩
      · rw [unhide HE, unhide HRD, unhide HFF, unhide HA]; rfl
      · rw [unhide HRD, unhide HFF]
        exact (unhide HIN5).off (unhide OF5) (unhide HFR)
end Ob
end Go.Proofs.YtlcnckmbimmpjaaDoor
