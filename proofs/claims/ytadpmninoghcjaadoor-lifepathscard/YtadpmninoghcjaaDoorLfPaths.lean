/-
  locksmithlaw11.LifePaths: whatever calls are made, an object's state stays, or goes along an edge.
-/
import Derived.Test.YtadpmninoghcjaaDoorLfKnow
import Derived.Test.YtadpmninoghcjaaDoorHoObj
import Derived.Test.YtadpmninoghcjaaDoorLfRevoke
import Derived.Test.YtadpmninoghcjaaDoorLfGood
import Derived.Test.YtadpmninoghcjaaDoorHandPick
namespace Go.Proofs.YtadpmninoghcjaaDoor
open Go.RowKit
set_option linter.unusedSimpArgs false
set_option linter.unusedVariables false
namespace Ob
/-- the object's variable ahead of a round -/
structure PSt (w wr : World) (ko : Nat) (o : Ob) (mv nv lv cv : Value) : Prop where
  good : Good o
  box : Bx wr ko 32 (cells o mv nv lv cv)
  inn : In wr o mv nv lv cv
  only : Only (fun _ => False) w wr
/-- behind the switch: what was made, or why not -/
def PCutL (w wx : World) (ko kp : Nat) (o : Ob) (mv nv lv cv r e : Value) : Prop :=
  ∃ (rn en : Int) (U : Ob) (m n l c : Value), r = .int .i64 rn ∧ e = .int .i64 en ∧ (en = 1 ∨ en = 2) ∧ (rn = 0 → Good U ∧ Along o.state U.state en) ∧ PSt w wx ko o mv nv lv cv ∧
    Bx wx kp 32 (cells U m n l c) ∧ In wx U m n l c ∧ Apart U m n l c ko
theorem pcut_of {w wp y : World} {ko kp : Nat} {o U : Ob} {mv nv lv cv m n l c : Value} (hS : PSt w wp ko o mv nv lv cv) (hz : Bx wp kp 32 Zo) (hap : Apart o mv nv lv cv kp) (hkk : ko < kp) (hwp : w.heap.size ≤ kp)
    (hin : In y U m n l c) (hfr : Fresh4 wp.heap.size m n l c) (oy : Only (fun _ => False) wp y) (rn en : Int) (hen : en = 1 ∨ en = 2) (hg : rn = 0 → Good U ∧ Along o.state U.state en) :
    y.there kp 0 (cells U m n l c).toArray.size ∧ (Tryd.prog.info? 32).map (·.size) = some (cells U m n l c).toArray.size ∧ (cells U m n l c).toArray.all (·.oneCell') = true ∧
      PCutL w (y.setCells kp 0 (cells U m n l c)) ko kp o mv nv lv cv (.int .i64 rn) (.int .i64 en) := by
  have hzy := hz.same oy
  have hlp := hz.lt
  obtain ⟨hth, hfb, hin7, hof⟩ := fin37 hin (fun j hj e => by have h1 := hfr j hj; omega) hzy (cs0 := Zo) rfl
  refine ⟨hth, size_cellsA U m n l c hin.ten, hin.one, rn, en, U, m, n, l, c, rfl, rfl, hen, hg, ⟨hS.good, (hS.box.same oy).only hof (by show ¬ ko = kp; omega), (hS.inn.same oy).offA hof hap, (hS.only.trans oy (fun _ _ e => e)).trans (T := fun j => j = kp) hof (fun j hj e => by omega)⟩, hfb, hin7, hfr.apart (by omega)⟩
theorem along_ways {S V e : Int} (h1 : 1 ≤ S) (h2 : S ≤ 6) (h3 : 1 ≤ V) (h4 : V ≤ 6) (he : e = 1 ∨ e = 2) (h : Along S V e) :
    (S = 1 ∧ V = 1 ∧ e = 1) ∨ (S = 1 ∧ V = 1 ∧ e = 2) ∨ (S = 2 ∧ V = 2 ∧ e = 1) ∨ (S = 2 ∧ V = 2 ∧ e = 2) ∨ (S = 3 ∧ V = 3 ∧ e = 1) ∨ (S = 3 ∧ V = 3 ∧ e = 2) ∨ (S = 4 ∧ V = 4 ∧ e = 1) ∨ (S = 4 ∧ V = 4 ∧ e = 2) ∨ (S = 5 ∧ V = 5 ∧ e = 1) ∨ (S = 5 ∧ V = 5 ∧ e = 2) ∨ (S = 6 ∧ V = 6 ∧ e = 1) ∨ (S = 6 ∧ V = 6 ∧ e = 2) ∨ (S = 1 ∧ V = 2 ∧ e = 1) ∨ (S = 1 ∧ V = 2 ∧ e = 2) ∨ (S = 1 ∧ V = 4 ∧ e = 1) ∨ (S = 1 ∧ V = 4 ∧ e = 2) ∨ (S = 1 ∧ V = 5 ∧ e = 1) ∨ (S = 1 ∧ V = 5 ∧ e = 2) ∨ (S = 2 ∧ V = 3 ∧ e = 1) ∨ (S = 2 ∧ V = 3 ∧ e = 2) ∨ (S = 2 ∧ V = 4 ∧ e = 1) ∨ (S = 2 ∧ V = 4 ∧ e = 2) ∨ (S = 3 ∧ V = 4 ∧ e = 1) ∨ (S = 3 ∧ V = 4 ∧ e = 2) ∨ (S = 3 ∧ V = 5 ∧ e = 1) ∨ (S = 3 ∧ V = 5 ∧ e = 2) ∨ (S = 4 ∧ V = 6 ∧ e = 1) ∨ (S = 4 ∧ V = 6 ∧ e = 2) ∨ (S = 5 ∧ V = 6 ∧ e = 1) ∨ (S = 5 ∧ V = 6 ∧ e = 2) ∨ (S = 1 ∧ V = 3 ∧ e = 2) := by
  have hS : S = 1 ∨ S = 2 ∨ S = 3 ∨ S = 4 ∨ S = 5 ∨ S = 6 := by omega
  have hV : V = 1 ∨ V = 2 ∨ V = 3 ∨ V = 4 ∨ V = 5 ∨ V = 6 := by omega
  clear h1 h2 h3 h4
  unfold Along at h
  rcases hS with rfl | rfl | rfl | rfl | rfl | rfl <;> rcases hV with rfl | rfl | rfl | rfl | rfl | rfl <;> rcases he with rfl | rfl <;> first | (exfalso; revert h; decide) | simp

set_option maxRecDepth 100000 in
set_option maxHeartbeats 16000000 in
theorem paths_any (x : RawH) (hx : x.Ok) (rv : Value) (m : Nat) (X : Nat → RawH) (rv2 : Value) (m2 : Nat) (X2 : Nat → RawH) (w : World) (hR : RawsH w rv m X) (hR2 : RawsH w rv2 m2 X2) :
    Calls Tryd.prog 5 #[.agg x.cells.toArray, rv, rv2] w fun e w' => e = .returned (.bool true) ∧ Only (fun _ => False) w w' := by
  have HR2 := hide hR2
  obtain ⟨ra2, rc2, erv2, hm2, hm2b, hrng2⟩ := hR2.shape
  have hm2z : (m2 : Int) < 9223372036854775808 := by unfold maxLen at hm2b; omega
  clear hrng2 hm2 hm2b hR2
  obtain ⟨w1, k1, e1, ek1, hb1, o1, hs1⟩ := boxed w x.cells.toArray 41
  rw [List.toList_toArray] at hb1
  have HOB := hide (hObj_any x hx rv m X w1 (hR.same o1))
  have O1 := hide o1
  have HE1 := hide e1
  have HEK1 := hide ek1
  obtain ⟨o, ho⟩ : ∃ o, o = hO x m X := ⟨_, rfl⟩
  have HSM : Hid (Small o) := by rw [ho]; exact hO_small x m X
  have HOK : Hid (o = hO x m X) := ho
  rw [← ho] at HOB
  have hr1 := hb1.range 0 4
  rw [List.drop_zero, List.take_of_length_le (by show 4 ≤ 4; omega)] at hr1
  obtain ⟨dsr, hru, hrd⟩ := row_desc Tryd.rowRawH
  have hrs : (Tryd.prog.info? 41).map (·.size) = some x.cells.length := Tryd.sizeRawH
  obtain ⟨R, hRc⟩ : ∃ R, R = x.cells := ⟨_, rfl⟩
  rw [← hRc] at HE1 HOB hr1 hrs ⊢
  obtain ⟨ra, rc, erv, -⟩ := hR.shape
  clear hb1 o1 hs1 e1 ek1 ho hRc hx
  clear hR
  subst erv
  subst erv2
  have HP : Hid (∀ p mw nw lw cw, val p mw nw lw cw = .agg (cells p mw nw lw cw).toArray) := fun _ _ _ _ _ => rfl
  go_enter Tryd.func5, Tryd.ntmps5
  go_upto_region 1 with fail
  rw [← unhide HEK1, ← unhide HE1]
  clear HEK1 HE1
  go_wp2_with (refine wpList_load_mid rfl 41 (.tmp 3) rfl k1 0 rfl R dsr hr1 hru hrd hrs ?_)
  refine (unhide HOB).mono ?_
  rintro e w2 ⟨mv, nv, lv, cv, rfl, hin, hfr, o2⟩
  have hd := hin.ten
  rw [unhide HP]
  obtain ⟨w3, ko, e3, eko, hb3, o3, ht3⟩ := made37 w2 (cells o mv nv lv cv) (cells_len _ _ _ _ _ hd)
  obtain ⟨dsc, hdu, hdr⟩ := row_desc Tryd.rowObj
  have HSZA := hide (size_cellsA o mv nv lv cv hd)
  have HONE := hide hin.one
  have HB3 := hide hb3
  have I3 := hide (hin.same o3)
  have HGT : Hid (∀ j, (blk mv = some j ∨ blk nv = some j ∨ blk lv = some j ∨ blk cv = some j) → w.heap.size ≤ j) := fun j hj => by have := hfr j hj; have := (unhide O1).size; omega
  have OW : Hid (Only (fun _ => False) w w3) := ((unhide O1).trans o2 (fun _ _ e => e)).trans o3 (fun _ _ e => e)
  have HAP := hide (hin.apart (k := ko) (by omega))
  have hwko : w.heap.size ≤ ko := by have h1 := (unhide O1).size; have h2 := o2.size; omega
  have HT3 := hide ht3
  have HE3 := hide e3
  have HEKO := hide eko
  have HD := hide hd
  obtain ⟨C, hC⟩ : ∃ C, C = cells o mv nv lv cv := ⟨_, rfl⟩
  rw [← hC] at HSZA HONE HT3 HE3 ⊢
  clear hin hfr o2 hd hb3 o3 ht3 e3 eko hC O1 HOB hr1
  go_upto_region 2 with (refine wpList_store_mid rfl 32 (.tmp 7) (.tmp 18) rfl w2.heap.size 0 C.toArray rfl rfl (unhide HT3) (unhide HSZA) (unhide HONE) ?_)
  rw [zo_eq, ← unhide HE3, ← unhide HEKO]
  clear HE3 HEKO HT3 HONE HSZA
  have c6 := (unhide HB3).cell 6 _ (cell_state o mv nv lv cv)
  go_upto_if 21 with fail
  go_cut [22] (fun s wx => ∃ o1 m1, Hid (PSt w wx ko o1 m1 nv lv cv))
  case first =>
    as_aux_lemma =>
      have hok := hO_okay x m X
      by_cases h5 : 5 ≤ o.state
      · have HD5 : Hid (decide (5 ≤ o.state) = true) := decide_eq_true h5
        clear h5
        have c5 := (unhide HB3).cell 5 mv (cells_front o mv nv lv cv 5 (by decide))
        have f5 := (unhide HB3).free 5
        have hb4 : Bx (w3.setCell ⟨ko, 5, none⟩ (.slice none 0 0)) ko 32 (cells { o with mat := [] } (.slice none 0 0) nv lv cv) := by
          have h := (unhide HB3).set 5 (.slice none 0 0)
          rwa [set_mat o mv nv lv cv (unhide HD) (.slice none 0 0) []] at h
        have q4 : Only (fun j => j = ko) w3 (w3.setCell ⟨ko, 5, none⟩ (.slice none 0 0)) := (Only.refl _ _).here _ _
        have hi := (unhide I3).offA q4 (unhide HAP)
        have HPS : Hid (PSt w (w3.setCell ⟨ko, 5, none⟩ (.slice none 0 0)) ko { o with mat := [] } (.slice none 0 0) nv lv cv) := by
          rw [← unhide HOK] at hok
          exact ⟨⟨hok.st.1, hok.st.2, fun _ => rfl, ⟨Nat.zero_le _, (unhide HSM).names, (unhide HSM).links, (unhide HSM).custom⟩⟩, hb4, ⟨Or.inl ⟨rfl, rfl⟩, hi.names, hi.links, hi.custom, hi.ten, hi.ints, hi.dats, hi.lks, hi.strs⟩, (unhide OW).trans (T := fun j => j = ko) q4 (fun j hj e => by omega)⟩
        clear hb4 q4 hi hok
        rw [unhide HD5]
        go_wp2_with fail
        go_meet
        case rel => exact ⟨_, _, unhide HPS⟩
      · have HPS : Hid (PSt w w3 ko o mv nv lv cv) := by
          rw [← unhide HOK] at hok
          exact ⟨⟨hok.st.1, hok.st.2, fun h => absurd h h5, unhide HSM⟩, unhide HB3, unhide I3, unhide OW⟩
        have HD5 : Hid (decide (5 ≤ o.state) = false) := decide_eq_false h5
        clear hok h5
        rw [unhide HD5]
        go_wp2_with fail
        go_meet
        case rel => exact ⟨_, _, unhide HPS⟩
  case rest =>
    as_aux_lemma =>
      rename World => wq
      obtain ⟨o1, m1, HPS1⟩ := hcut
      clear HB3 I3 OW HAP HD HGT HSM HOK c6
      have HKN := hide (known_any wq)
      go_wp2_with fail
      refine (unhide HKN).mono ?_
      rintro e wk ⟨rfl, ok⟩
      have HPS2 : Hid (PSt w wk ko o1 m1 nv lv cv) := ⟨(unhide HPS1).good, (unhide HPS1).box.same ok, (unhide HPS1).inn.same ok, (unhide HPS1).only.trans ok (fun _ _ e => e)⟩
      clear HPS1 ok HKN
      go_wp2
      go_loopw [8] (fun i wr => ∃ k : Nat, k ≤ m2 ∧ k ≤ 20 ∧ i = .int .i64 k ∧ Hid (∃ o mv nv lv cv, PSt w wr ko o mv nv lv cv)) (fun i _ => 20 - (intOf i).toNat)
      case atStart => exact ⟨0, Nat.zero_le _, Nat.zero_le _, rfl, _, _, _, _, _, unhide HPS2⟩
      case round =>
        clear HPS2 o1 m1 nv lv cv
        rename World => wr
        obtain ⟨k, hkm, hk20, rfl, hU⟩ := hrel
        obtain ⟨o, mv, nv, lv, cv, hU1⟩ := unhide hU
        have HPR := hide hU1
        clear hU hU1
        by_cases hlt : k < m2 ∧ k < 20
        case neg =>
          by_cases hkm2 : k < m2
          · have hk1z : (k : Int) < (m2 : Int) := by omega
            have hk2z : ¬ (k : Int) < 20 := by omega
            go_wp2
            go_ret
            exact ⟨rfl, (unhide HPR).only⟩
          · have hk1z : ¬ (k : Int) < (m2 : Int) := by omega
            go_wp2
            go_ret
            exact ⟨rfl, (unhide HPR).only⟩
        case pos =>
          obtain ⟨hl1, hl2⟩ := hlt
          obtain ⟨y, hy⟩ : ∃ y, y = X2 k := ⟨_, rfl⟩
          have HYK : Hid (y.Ok) := by rw [hy]; exact (unhide HR2).each k hl1
          have HRW := hide ((unhide HR2).same (unhide HPR).only)
          obtain ⟨bb, off, hoff, hbb, hrg⟩ := (unhide HRW).range k hl1
          subst hoff
          rw [← hy] at hrg
          have hsz4 : (Tryd.prog.info? 41).map (·.size) = some y.cells.length := Tryd.sizeRawH
          obtain ⟨wy, yb, ey, eyb, hYB, oY, tY⟩ := made4 wr y.cells rfl
          have HTY := hide tY
          have Y0 : Hid (wy.cell? ⟨yb, 0, none⟩ = some (.int .i64 y.kind)) := hYB.cell 0 _ rfl
          have Y1 : Hid (wy.cell? ⟨yb, 1, none⟩ = some (.int .i64 y.a)) := hYB.cell 1 _ rfl
          have Y2y : Hid (wy.cell? ⟨yb, 2, none⟩ = some (.int .i64 y.b)) := hYB.cell 2 _ rfl
          have hkz1 : (k : Int) < (m2 : Int) := by omega
          have hkz2 : (k : Int) < 20 := by omega
          have HEY := hide ey
          have HEYB := hide eyb
          have OY := hide oY
          have hyl := hYB.lt
          clear hy hYB oY tY ey eyb HRW
          go_upto_region 10 with (first | (refine wpList_load_mid rfl 41 (.tmp 37) rfl bb (off + k * 4) rfl y.cells dsr hrg hru hrd hsz4 ?_) | (refine wpList_store_mid rfl 41 (.tmp 9) (.tmp 38) rfl wr.heap.size 0 y.cells.toArray rfl rfl (unhide HTY) Tryd.sizeRawH (raw_one _) ?_))
          rw [← unhide HEY, ← unhide HEYB]
          clear HEY HEYB HTY hrg hsz4 hbb
          have P70 := hide (pick_any y.a 70 wy (by decide) (by decide))
          obtain ⟨t, ht⟩ : ∃ t, t = y.a % 70 := ⟨_, rfl⟩
          have HW : Hid (W64 t) := by
            have ht0 : 0 ≤ t := by rw [ht]; exact Int.emod_nonneg _ (by decide)
            have ht1 : t < 70 := by rw [ht]; exact Int.emod_lt_of_pos _ (by decide)
            show W64 t; unfold W64; omega
          rw [← ht] at P70
          clear ht
          have y1 := unhide Y1
          go_wp2_with fail
          refine (unhide P70).mono ?_
          rintro e wx ⟨rfl, hwx⟩
          rw [hwx]
          clear hwx wx P70 y1
          obtain ⟨wp, kp, ep, ekp, hbp, op, hsp⟩ := boxed wy Zo.toArray 32
          have HPY : Hid (PSt w wy ko o mv nv lv cv) := ⟨(unhide HPR).good, (unhide HPR).box.same (unhide OY), (unhide HPR).inn.same (unhide OY), (unhide HPR).only.trans (unhide OY) (fun _ _ e => e)⟩
          have HPS : Hid (PSt w wp ko o mv nv lv cv) := ⟨(unhide HPY).good, (unhide HPY).box.same op, (unhide HPY).inn.same op, (unhide HPY).only.trans op (fun _ _ e => e)⟩
          have HZP : Hid (Bx wp kp 32 Zo) := hbp
          have HAPP := hide ((unhide HPY).inn.apart (k := kp) (by omega))
          have hybp : yb < kp := by omega
          have hkk : ko < kp := by have := (unhide HPY).box.lt; omega
          have hwp : w.heap.size ≤ kp := by have := (unhide HPY).only.size; omega
          have Y0p : Hid (wp.cell? ⟨yb, 0, none⟩ = some (.int .i64 y.kind)) := op.cell (unhide Y0) (fun e => e)
          have Y2 : Hid (wp.cell? ⟨yb, 2, none⟩ = some (.int .i64 y.b)) := op.cell (unhide Y2y) (fun e => e)
          have HEP := hide ep
          have HEKP := hide ekp
          have c6 := (unhide HPY).box.cell 6 _ (cell_state o mv nv lv cv)
          clear hbp op hsp ep ekp Y0 Y1 Y2y OY HPR
          have HC6 := hide c6
          obtain ⟨S, hS⟩ : ∃ S, S = o.state := ⟨_, rfl⟩
          have HS := hide hS
          rw [← hS] at c6
          clear hS HC6
          go_upto_region 15 with fail
          rw [zo_eq, ← unhide HEP, ← unhide HEKP]
          clear HEP HEKP c6 HPY
          have P6 := hide (pick_any y.kind 6 wp (by decide) (by decide))
          have y0 := unhide Y0p
          go_wp2_with fail
          refine (unhide P6).mono ?_
          rintro e wx ⟨rfl, hwx⟩
          rw [hwx]
          clear hwx wx P6 y0 Y0p
          obtain ⟨q, hq⟩ : ∃ q, q = y.kind % 6 := ⟨_, rfl⟩
          have hq0 : q = 0 ∨ q = 1 ∨ q = 2 ∨ q = 3 ∨ q = 4 ∨ q = 5 := by omega
          rw [← hq]
          clear hq
          go_upto_block 2 with fail
          go_cut [46, 13, 14] (fun s46 r e wx => PCutL w wx ko kp o mv nv lv cv r e)
          case first =>
            as_aux_lemma =>
            have HSC := hide (size_cells o mv nv lv cv (unhide HPS).inn.ten)
            have HRC := hide (Bx.whole (unhide HPS).box (unhide HPS).inn.ten)
            obtain ⟨C, hC⟩ : ∃ C, C = cells o mv nv lv cv := ⟨_, rfl⟩
            have HCC := hide hC
            rw [← hC] at HSC HRC
            clear hC
            rcases hq0 with hq | hq | hq | hq | hq | hq
            all_goals rw [hq]
            all_goals clear hq
            · as_aux_lemma =>
                have HC := hide (show Calls Tryd.prog 9 #[.agg C.toArray, .int .i64 t] wp fun e w' => Ans wp w' e (told (actE o) (actU o t)) (actE o) by rw [unhide HCC]; exact activate_any o mv nv lv cv t wp (unhide HPS).inn (unhide HPS).good.sm (unhide HW))
                go_wp2_with (refine wpList_load_mid rfl 32 (.tmp 7) rfl ko 0 rfl C dsc (unhide HRC) hdu hdr (unhide HSC) ?_)
                refine (unhide HC).mono ?_
                rintro e y ⟨m, n, l, c, rfl, hin, hfr, oy⟩
                obtain ⟨hth, hsz, hone, hcutr⟩ := pcut_of (unhide HPS) (unhide HZP) (unhide HAPP) hkk hwp hin hfr oy (actE o) 1 (Or.inl rfl) (fun h0 => by rw [show told (actE o) (actU o t) = actU o t from if_pos h0]; exact act_good (unhide HPS).good t h0)
                rw [unhide HP]
                clear hin hfr oy HC
                have HTH := hide hth
                have HSZ9 := hide hsz
                have HONE9 := hide hone
                have HCR := hide hcutr
                obtain ⟨B9, hB9⟩ : ∃ B, B = cells (told (actE o) (actU o t)) m n l c := ⟨_, rfl⟩
                rw [← hB9] at HTH HSZ9 HONE9 HCR ⊢
                clear hth hsz hone hcutr hB9
                go_wp2_with (refine wpList_store_mid rfl 32 (.tmp 12) (.tmp 56) rfl kp 0 B9.toArray rfl rfl (unhide HTH) (unhide HSZ9) (unhide HONE9) ?_)
                go_meet
                case rel => exact unhide HCR
            · as_aux_lemma =>
                go_upto_region 21 with fail
                have P7 := hide (fun W => pick_any y.b 7 W (by decide) (by decide))
                obtain ⟨r7, hr7⟩ : ∃ r7, r7 = y.b % 7 := ⟨_, rfl⟩
                have hr70 : 0 ≤ r7 := by rw [hr7]; exact Int.emod_nonneg _ (by decide)
                have hr71 : r7 < 7 := by rw [hr7]; exact Int.emod_lt_of_pos _ (by decide)
                have HR64 : Hid (W64 (1 + r7)) := by show W64 _; unfold W64; omega
                have W3 : Hid (IntKind.i64.wrap (1 + r7) = 1 + r7) := wr64 _ (by omega) (by omega)
                rw [← hr7] at P7
                clear hr7 hr70 hr71
                have Q := hide ((Only.refl (fun j => j = kp) wp).drew)
                have hkok : ¬ ko = kp := by omega
                have hybk : ¬ yb = kp := by omega
                have PSD : Hid (PSt w wp.drew ko o mv nv lv cv) := ⟨(unhide HPS).good, (unhide HPS).box.same ((Only.refl _ _).drew), (unhide HPS).inn.same ((Only.refl _ _).drew), (unhide HPS).only.trans ((Only.refl _ _).drew) (fun _ _ e => e)⟩
                have HZD := hide ((unhide HZP).same ((Only.refl (fun _ => False) wp).drew))
                have HC : Hid (Calls Tryd.prog 10 #[.agg C.toArray, .int .i64 (1 + r7), .string ⟨#[]⟩, .agg #[.bool false, .int .i64 0], .int .i64 t] wp.drew fun e w' => Ans wp.drew w' e (told (revE o (1 + r7) [] (false, 0) t) (revU o (1 + r7) [] (false, 0) t)) (revE o (1 + r7) [] (false, 0) t)) := by
                  show Calls _ _ _ _ _
                  rw [unhide HCC]
                  exact revoke_any o mv nv lv cv (1 + r7) [] (false, 0) t wp.drew (unhide PSD).inn (unhide PSD).good.sm (unhide HW) (unhide HR64) ⟨by decide, by decide⟩ (Nat.zero_le _) (Or.inl rfl)
                refine wp_region_held_drew (S := (fun w' => Only (fun j => j = kp) wp w')) (by kernel_rfl) ((Only.refl _ _).drew) (fun hHeld => ?_)
                refine wpAnyH_take (i := 0) (v := ?v1) rfl (by kernel_rfl) (by kernel_rfl) (by kernel_rfl) (fun _ _ _ h => h) (Or.inl ⟨by rfl, ?hy1⟩) (by assumption) ?rest1
                case hy1 =>
                  intro w hSw
                  (refine exec_load_mid 32 (.tmp 7) ?_ ko 0 ?_ C dsc (rangeAt_only (unhide HRC) hSw hkok) hdu hdr (unhide HSC) <;> rfl)
                try simp only [Act.put, List.setIfInBounds_toArray, List.set_cons_zero, List.set_cons_succ, List.getElem_toArray, List.getElem_cons_succ, List.getElem_cons_zero]
                refine wpAnyH_take (i := 1) (v := ?v2) rfl (by kernel_rfl) (by kernel_rfl) (by kernel_rfl) (fun _ _ _ h => h) (Or.inl ⟨by rfl, ?hy2⟩) (by assumption) ?rest2
                case hy2 =>
                  intro w hSw
                  go_simp
                  try with_reducible rfl
                try simp only [Act.put, List.setIfInBounds_toArray, List.set_cons_zero, List.set_cons_succ, List.getElem_toArray, List.getElem_cons_succ, List.getElem_cons_zero]
                refine wpAnyH_take (i := 2) (v := ?v3) rfl (by kernel_rfl) (by kernel_rfl) (by kernel_rfl) (fun _ _ _ h => h) (Or.inl ⟨by rfl, ?hy3⟩) (by assumption) ?rest3
                case hy3 =>
                  intro w hSw
                  (have q := hSw.cell (unhide Y2) hybk; go_simp; try with_reducible rfl)
                try simp only [Act.put, List.setIfInBounds_toArray, List.set_cons_zero, List.set_cons_succ, List.getElem_toArray, List.getElem_cons_succ, List.getElem_cons_zero]
                refine wpAnyH_take (i := 5) (v := ?v4) rfl (by kernel_rfl) (by kernel_rfl) (by kernel_rfl) (fun _ _ _ h => h) (Or.inl ⟨by rfl, ?hy4⟩) (by assumption) ?rest4
                case hy4 =>
                  intro w hSw
                  go_simp
                  try with_reducible rfl
                try simp only [Act.put, List.setIfInBounds_toArray, List.set_cons_zero, List.set_cons_succ, List.getElem_toArray, List.getElem_cons_succ, List.getElem_cons_zero]
                refine wpAnyH_take (i := 6) (v := ?v5) rfl (by kernel_rfl) (by kernel_rfl) (by kernel_rfl) (fun _ _ _ h => h) (Or.inl ⟨by rfl, ?hy5⟩) (by assumption) ?rest5
                case hy5 =>
                  intro w hSw
                  go_simp
                  try with_reducible rfl
                try simp only [Act.put, List.setIfInBounds_toArray, List.set_cons_zero, List.set_cons_succ, List.getElem_toArray, List.getElem_cons_succ, List.getElem_cons_zero]
                refine wpAnyH_ready (rs := [3]) (by kernel_rfl) (by simp) ?_
                refine AllReadyH.cons rfl (fun K hK => ?_) AllReadyH.nil
                go_simp
                go_wp2_with fail; refine (unhide P7 _).mono ?_; rintro e wx ⟨rfl, hwx⟩; rw [hwx]; clear hwx wx
                refine hK.out _ _ ((unhide Q)) (fun hHeld => ?_)
                clear hK K
                try simp only [Act.put, List.setIfInBounds_toArray, List.set_cons_zero, List.set_cons_succ, List.getElem_toArray, List.getElem_cons_succ, List.getElem_cons_zero]
                refine wpAnyH_take (i := 4) (v := ?v6) rfl (by kernel_rfl) (by kernel_rfl) (by kernel_rfl) (fun _ _ _ h => h) (Or.inl ⟨by rfl, ?hy6⟩) (by assumption) ?rest6
                case hy6 =>
                  intro w hSw
                  (go_simp; rw [unhide W3]; try with_reducible rfl)
                try simp only [Act.put, List.setIfInBounds_toArray, List.set_cons_zero, List.set_cons_succ, List.getElem_toArray, List.getElem_cons_succ, List.getElem_cons_zero]
                refine wpAnyH_ready (rs := [7]) (by kernel_rfl) (by simp) ?_
                refine AllReadyH.cons rfl (fun K hK => ?_) AllReadyH.nil
                go_simp
                go_wp2_with fail; refine (unhide HC).mono ?_; rintro e y9 ⟨m, n, l, c, rfl, hin, hfr, oy⟩; have Q2 := hide ((unhide Q).trans oy (fun _ _ e => e.elim)); obtain ⟨hth, hsz, hone, hcutr⟩ := pcut_of (unhide PSD) (unhide HZD) (unhide HAPP) hkk hwp hin hfr oy (revE o (1 + r7) [] (false, 0) t) 1 (Or.inl rfl) (fun h0 => by rw [show told (revE o (1 + r7) [] (false, 0) t) (revU o (1 + r7) [] (false, 0) t) = revU o (1 + r7) [] (false, 0) t from if_pos h0]; exact rev_good (unhide HPS).good _ _ _ t h0); rw [unhide HP]; clear hin hfr oy HC; have HTH := hide hth; have HSZ9 := hide hsz; have HONE9 := hide hone; have HCR := hide hcutr; obtain ⟨B9, hB9⟩ : ∃ B, B = cells (told (revE o (1 + r7) [] (false, 0) t) (revU o (1 + r7) [] (false, 0) t)) m n l c := ⟨_, rfl⟩; rw [← hB9] at HTH HSZ9 HONE9 HCR ⊢; clear hth hsz hone hcutr hB9; obtain ⟨RE, hRE⟩ : ∃ RE, RE = revE o (1 + r7) [] (false, 0) t := ⟨_, rfl⟩; rw [← hRE] at HCR ⊢; clear hRE
                refine hK.out _ _ ((unhide Q2)) (fun hHeld => ?_)
                clear hK K
                try simp only [Act.put, List.setIfInBounds_toArray, List.set_cons_zero, List.set_cons_succ, List.getElem_toArray, List.getElem_cons_succ, List.getElem_cons_zero]
                refine wpAnyH_take (i := 8) (v := ?v7) rfl (by kernel_rfl) (by kernel_rfl) (by kernel_rfl) (fun _ _ _ h => h) (Or.inl ⟨by rfl, ?hy7⟩) (by assumption) ?rest7
                case hy7 =>
                  intro w hSw
                  go_simp
                  try with_reducible rfl
                try simp only [Act.put, List.setIfInBounds_toArray, List.set_cons_zero, List.set_cons_succ, List.getElem_toArray, List.getElem_cons_succ, List.getElem_cons_zero]
                refine wpAnyH_take (i := 9) (v := ?v8) rfl (by kernel_rfl) (by kernel_rfl) (by kernel_rfl) (fun _ _ _ h => h) (Or.inl ⟨by rfl, ?hy8⟩) (by assumption) ?rest8
                case hy8 =>
                  intro w hSw
                  go_simp
                  try with_reducible rfl
                try simp only [Act.put, List.setIfInBounds_toArray, List.set_cons_zero, List.set_cons_succ, List.getElem_toArray, List.getElem_cons_succ, List.getElem_cons_zero]
                refine wpAnyH_take (i := 10) (v := ?v9) rfl (by kernel_rfl) (by kernel_rfl) (by kernel_rfl) (fun _ _ _ h => h) (Or.inl ⟨by rfl, ?hy9⟩) (by assumption) ?rest9
                case hy9 =>
                  intro w hSw
                  go_simp
                  try with_reducible rfl
                try simp only [Act.put, List.setIfInBounds_toArray, List.set_cons_zero, List.set_cons_succ, List.getElem_toArray, List.getElem_cons_succ, List.getElem_cons_zero]
                refine wpAnyH_ready (rs := [11]) (by kernel_rfl) (by simp) ?_
                refine AllReadyH.cons rfl (fun K hK => ?_) AllReadyH.nil
                refine step_store_midA rfl 32 (.tmp 12) (.tmp 69) rfl kp 0 B9.toArray rfl rfl (unhide HTH) (unhide HSZ9) (unhide HONE9) ?_
                refine hK.out _ _ (((unhide Q2).trans (Only.setCells (S := fun j => j = kp) (fun _ => rfl) _ _ _ (Only.refl _ _)) (fun _ _ e => e))) (fun hHeld => ?_)
                clear hK K
                try simp only [Act.put, List.setIfInBounds_toArray, List.set_cons_zero, List.set_cons_succ, List.getElem_toArray, List.getElem_cons_succ, List.getElem_cons_zero]
                refine wpAnyH_take (i := 12) (v := ?v10) rfl (by kernel_rfl) (by kernel_rfl) (by kernel_rfl) (fun _ _ _ h => h) (Or.inl ⟨by rfl, ?hy10⟩) (by assumption) ?rest10
                case hy10 =>
                  intro w hSw
                  go_simp
                  try with_reducible rfl
                try simp only [Act.put, List.setIfInBounds_toArray, List.set_cons_zero, List.set_cons_succ, List.getElem_toArray, List.getElem_cons_succ, List.getElem_cons_zero]
                refine wpAnyH_done (by kernel_rfl) ?_ _
                go_step
                go_step
                go_meet
                case rel => exact unhide HCR
            · as_aux_lemma =>
                have HC := hide (show Calls Tryd.prog 11 #[.agg C.toArray, .int .i64 t] wp fun e w' => Ans wp w' e (told (desE o) (desU o t)) (desE o) by rw [unhide HCC]; exact destroy_any o mv nv lv cv t wp (unhide HPS).inn (unhide HPS).good.sm (unhide HW))
                go_wp2_with (refine wpList_load_mid rfl 32 (.tmp 7) rfl ko 0 rfl C dsc (unhide HRC) hdu hdr (unhide HSC) ?_)
                refine (unhide HC).mono ?_
                rintro e y ⟨m, n, l, c, rfl, hin, hfr, oy⟩
                obtain ⟨hth, hsz, hone, hcutr⟩ := pcut_of (unhide HPS) (unhide HZP) (unhide HAPP) hkk hwp hin hfr oy (desE o) 1 (Or.inl rfl) (fun h0 => by rw [show told (desE o) (desU o t) = desU o t from if_pos h0]; exact des_good (unhide HPS).good t h0)
                rw [unhide HP]
                clear hin hfr oy HC
                have HTH := hide hth
                have HSZ9 := hide hsz
                have HONE9 := hide hone
                have HCR := hide hcutr
                obtain ⟨B9, hB9⟩ : ∃ B, B = cells (told (desE o) (desU o t)) m n l c := ⟨_, rfl⟩
                rw [← hB9] at HTH HSZ9 HONE9 HCR ⊢
                clear hth hsz hone hcutr hB9
                go_wp2_with (refine wpList_store_mid rfl 32 (.tmp 12) (.tmp 77) rfl kp 0 B9.toArray rfl rfl (unhide HTH) (unhide HSZ9) (unhide HONE9) ?_)
                go_meet
                case rel => exact unhide HCR
            · as_aux_lemma =>
                have HC := hide (show Calls Tryd.prog 12 #[.agg C.toArray, .int .i64 t] wp fun e w' => Ans wp w' e (told (arcE o) (arcU o t)) (arcE o) by rw [unhide HCC]; exact archive_any o mv nv lv cv t wp (unhide HPS).inn (unhide HPS).good.sm (unhide HW))
                go_wp2_with (refine wpList_load_mid rfl 32 (.tmp 7) rfl ko 0 rfl C dsc (unhide HRC) hdu hdr (unhide HSC) ?_)
                refine (unhide HC).mono ?_
                rintro e y ⟨m, n, l, c, rfl, hin, hfr, oy⟩
                obtain ⟨hth, hsz, hone, hcutr⟩ := pcut_of (unhide HPS) (unhide HZP) (unhide HAPP) hkk hwp hin hfr oy (arcE o) 1 (Or.inl rfl) (fun h0 => by rw [show told (arcE o) (arcU o t) = arcU o t from if_pos h0]; exact arc_good (unhide HPS).good t)
                rw [unhide HP]
                clear hin hfr oy HC
                have HTH := hide hth
                have HSZ9 := hide hsz
                have HONE9 := hide hone
                have HCR := hide hcutr
                obtain ⟨B9, hB9⟩ : ∃ B, B = cells (told (arcE o) (arcU o t)) m n l c := ⟨_, rfl⟩
                rw [← hB9] at HTH HSZ9 HONE9 HCR ⊢
                clear hth hsz hone hcutr hB9
                go_wp2_with (refine wpList_store_mid rfl 32 (.tmp 12) (.tmp 85) rfl kp 0 B9.toArray rfl rfl (unhide HTH) (unhide HSZ9) (unhide HONE9) ?_)
                go_meet
                case rel => exact unhide HCR
            · as_aux_lemma =>
                have HC := hide (show Calls Tryd.prog 13 #[.agg C.toArray, .int .i64 t] wp fun e w' => Ans wp w' e (told (recE o) (recU o t)) (recE o) by rw [unhide HCC]; exact recover_any o mv nv lv cv t wp (unhide HPS).inn (unhide HPS).good.sm (unhide HW))
                go_wp2_with (refine wpList_load_mid rfl 32 (.tmp 7) rfl ko 0 rfl C dsc (unhide HRC) hdu hdr (unhide HSC) ?_)
                refine (unhide HC).mono ?_
                rintro e y ⟨m, n, l, c, rfl, hin, hfr, oy⟩
                obtain ⟨hth, hsz, hone, hcutr⟩ := pcut_of (unhide HPS) (unhide HZP) (unhide HAPP) hkk hwp hin hfr oy (recE o) 1 (Or.inl rfl) (fun h0 => by rw [show told (recE o) (recU o t) = recU o t from if_pos h0]; exact rec_good (unhide HPS).good t)
                rw [unhide HP]
                clear hin hfr oy HC
                have HTH := hide hth
                have HSZ9 := hide hsz
                have HONE9 := hide hone
                have HCR := hide hcutr
                obtain ⟨B9, hB9⟩ : ∃ B, B = cells (told (recE o) (recU o t)) m n l c := ⟨_, rfl⟩
                rw [← hB9] at HTH HSZ9 HONE9 HCR ⊢
                clear hth hsz hone hcutr hB9
                go_wp2_with (refine wpList_store_mid rfl 32 (.tmp 12) (.tmp 93) rfl kp 0 B9.toArray rfl rfl (unhide HTH) (unhide HSZ9) (unhide HONE9) ?_)
                go_meet
                case rel => exact unhide HCR
            · as_aux_lemma =>
                have HC := hide (show Calls Tryd.prog 23 #[.agg C.toArray, .int .i64 t] wp fun e w' => ∃ mv' nv' lv' cv', e = .returned (val (move o t) mv' nv' lv' cv') ∧ In w' (move o t) mv' nv' lv' cv' ∧ Fresh4 wp.heap.size mv' nv' lv' cv' ∧ Only (fun _ => False) wp w' by rw [unhide HCC]; exact move_any o mv nv lv cv t wp (unhide HPS).inn (unhide HPS).good.sm (unhide HW))
                go_wp2_with (refine wpList_load_mid rfl 32 (.tmp 7) rfl ko 0 rfl C dsc (unhide HRC) hdu hdr (unhide HSC) ?_)
                refine (unhide HC).mono ?_
                rintro e y9 ⟨m, n, l, c, rfl, hin, hfr, oy⟩
                obtain ⟨hth, hsz, hone, hcutr⟩ := pcut_of (unhide HPS) (unhide HZP) (unhide HAPP) hkk hwp hin hfr oy 0 2 (Or.inr rfl) (fun _ => move_good (unhide HPS).good t)
                rw [unhide HP]
                clear hin hfr oy HC
                have HTH := hide hth
                have HSZ9 := hide hsz
                have HONE9 := hide hone
                have HCR := hide hcutr
                obtain ⟨B9, hB9⟩ : ∃ B, B = cells (move o t) m n l c := ⟨_, rfl⟩
                rw [← hB9] at HTH HSZ9 HONE9 HCR ⊢
                clear hth hsz hone hcutr hB9
                go_wp2_with (refine wpList_store_mid rfl 32 (.tmp 12) (.tmp 49) rfl kp 0 B9.toArray rfl rfl (unhide HTH) (unhide HSZ9) (unhide HONE9) ?_)
                go_meet
                case rel => exact unhide HCR
          case rest =>
            as_aux_lemma =>
            rename World => wz
            obtain ⟨rn, en, U, um, un, ul, uc, rfl, rfl, hen, hg, hPS2, hbU, hinU, hapU⟩ := hcut
            clear HPS HZP HAPP Y2
            by_cases hr : rn = 0
            case neg =>
              have HPN := hide hPS2
              have H1 : Hid ((rn != 0) = true) := by show (rn != 0) = true; simp only [bne_iff_ne]; exact hr
              have H2 : Hid (decide (rn ≠ 0) = true) := decide_eq_true hr
              have H3 : Hid ((!decide (rn = 0)) = true) := by show (!decide (rn = 0)) = true; rw [decide_eq_false hr]; rfl
              clear hg hPS2 hbU hinU hapU hen hr
              go_upto_if 96 with fail
              first | rw [unhide H1] | rw [unhide H2] | rw [unhide H3] | trace_state
              clear H1 H2 H3
              go_wp2_with fail
              go_roundw
              case rel => exact ⟨k + 1, by omega, by omega, by go_num, ⟨o, mv, nv, lv, cv, unhide HPN⟩⟩
              case measure => simp [intOf]; omega
            case pos =>
              subst hr
              obtain ⟨G, hal⟩ := hg rfl
              rw [← unhide HS] at hal
              obtain ⟨hth, hfb, hin8, hof⟩ := store_var hinU hapU hPS2.box (cells_len _ _ _ _ _ hPS2.inn.ten)
              have HPN : Hid (PSt w (wz.setCells ko 0 (cells U um un ul uc)) ko U um un ul uc) := ⟨G, hfb, hin8, hPS2.only.trans (T := fun j => j = ko) hof (fun j hj e => by omega)⟩
              have HR := hide (Bx.whole hbU hinU.ten)
              have HSZ := hide (size_cells U um un ul uc hinU.ten)
              have HSZA := hide (size_cellsA U um un ul uc hinU.ten)
              have HONE := hide hinU.one
              have HTH := hide hth
              have V6 := hide (hfb.cell 6 _ (cell_state U um un ul uc))
              have V5 := hide (hfb.cell 5 um (cells_front U um un ul uc 5 (by decide)))
              obtain ⟨ma, mc, emu, -⟩ := hin8.mat.shape
              have hlo := G.lo
              have hhi := G.hi
              have hSlo := hPS2.good.lo
              have hShi := hPS2.good.hi
              rw [← unhide HS] at hSlo hShi
              have hmat : 5 ≤ U.state → U.mat.length = 0 := fun h => by rw [G.mat h]; rfl
              obtain ⟨D, hD⟩ : ∃ D, D = cells U um un ul uc := ⟨_, rfl⟩
              rw [← hD] at HPN HR HSZ HSZA HONE HTH V6 V5
              obtain ⟨V, hV⟩ : ∃ V, V = U.state := ⟨_, rfl⟩
              obtain ⟨ml, hml⟩ : ∃ ml : Nat, ml = U.mat.length := ⟨_, rfl⟩
              rw [← hV] at hal hlo hhi hmat V6
              rw [← hml] at hmat
              have V5b : Hid ((wz.setCells ko 0 D).cell? ⟨ko, 5, none⟩ = some (.slice ma ml mc)) := by rw [hml, ← emu]; exact unhide V5
              clear hg hth hfb hin8 hof hPS2 hbU hinU hapU G hD hV hml V5 emu HS
              go_upto_region 30 with (first
                | (refine wpList_load_mid rfl 32 (.tmp 12) rfl kp 0 rfl D dsc (unhide HR) hdu hdr (unhide HSZ) ?_)
                | (refine wpList_store_mid rfl 32 (.tmp 7) (.tmp 97) rfl ko 0 D.toArray rfl rfl (unhide HTH) (unhide HSZA) (unhide HONE) ?_))
              clear HR HSZ HSZA HONE HTH
              have E1 := hide (edge_any S V (wz.setCells ko 0 D))
              have E2 := hide (edge_any S 2 (wz.setCells ko 0 D))
              have E3 := hide (edge_any 2 V (wz.setCells ko 0 D))
              have c6 := unhide V6
              have c5 := unhide V5b
              clear V6 V5b
              generalize wz.setCells ko 0 D = wn at *
              have HMAT := hide hmat
              have hway := along_ways hSlo hShi hlo hhi hen hal
              clear hmat hal hlo hhi hSlo hShi hen
              rcases hway with ⟨rfl, rfl, rfl⟩ | ⟨rfl, rfl, rfl⟩ | ⟨rfl, rfl, rfl⟩ | ⟨rfl, rfl, rfl⟩ | ⟨rfl, rfl, rfl⟩ | ⟨rfl, rfl, rfl⟩ | ⟨rfl, rfl, rfl⟩ | ⟨rfl, rfl, rfl⟩ | ⟨rfl, rfl, rfl⟩ | ⟨rfl, rfl, rfl⟩ | ⟨rfl, rfl, rfl⟩ | ⟨rfl, rfl, rfl⟩ | ⟨rfl, rfl, rfl⟩ | ⟨rfl, rfl, rfl⟩ | ⟨rfl, rfl, rfl⟩ | ⟨rfl, rfl, rfl⟩ | ⟨rfl, rfl, rfl⟩ | ⟨rfl, rfl, rfl⟩ | ⟨rfl, rfl, rfl⟩ | ⟨rfl, rfl, rfl⟩ | ⟨rfl, rfl, rfl⟩ | ⟨rfl, rfl, rfl⟩ | ⟨rfl, rfl, rfl⟩ | ⟨rfl, rfl, rfl⟩ | ⟨rfl, rfl, rfl⟩ | ⟨rfl, rfl, rfl⟩ | ⟨rfl, rfl, rfl⟩ | ⟨rfl, rfl, rfl⟩ | ⟨rfl, rfl, rfl⟩ | ⟨rfl, rfl, rfl⟩ | ⟨rfl, rfl, rfl⟩
              · as_aux_lemma =>
                  go_wp2_with fail
                  go_roundw
                  case rel => exact ⟨k + 1, by omega, by omega, by go_num, ⟨U, um, un, ul, uc, unhide HPN⟩⟩
                  case measure => simp [intOf]; omega
              · as_aux_lemma =>
                  go_wp2_with fail
                  go_roundw
                  case rel => exact ⟨k + 1, by omega, by omega, by go_num, ⟨U, um, un, ul, uc, unhide HPN⟩⟩
                  case measure => simp [intOf]; omega
              · as_aux_lemma =>
                  go_wp2_with fail
                  go_roundw
                  case rel => exact ⟨k + 1, by omega, by omega, by go_num, ⟨U, um, un, ul, uc, unhide HPN⟩⟩
                  case measure => simp [intOf]; omega
              · as_aux_lemma =>
                  go_wp2_with fail
                  go_roundw
                  case rel => exact ⟨k + 1, by omega, by omega, by go_num, ⟨U, um, un, ul, uc, unhide HPN⟩⟩
                  case measure => simp [intOf]; omega
              · as_aux_lemma =>
                  go_wp2_with fail
                  go_roundw
                  case rel => exact ⟨k + 1, by omega, by omega, by go_num, ⟨U, um, un, ul, uc, unhide HPN⟩⟩
                  case measure => simp [intOf]; omega
              · as_aux_lemma =>
                  go_wp2_with fail
                  go_roundw
                  case rel => exact ⟨k + 1, by omega, by omega, by go_num, ⟨U, um, un, ul, uc, unhide HPN⟩⟩
                  case measure => simp [intOf]; omega
              · as_aux_lemma =>
                  go_wp2_with fail
                  go_roundw
                  case rel => exact ⟨k + 1, by omega, by omega, by go_num, ⟨U, um, un, ul, uc, unhide HPN⟩⟩
                  case measure => simp [intOf]; omega
              · as_aux_lemma =>
                  go_wp2_with fail
                  go_roundw
                  case rel => exact ⟨k + 1, by omega, by omega, by go_num, ⟨U, um, un, ul, uc, unhide HPN⟩⟩
                  case measure => simp [intOf]; omega
              · as_aux_lemma =>
                  have h0 := (unhide HMAT) (by decide)
                  rw [h0] at c5
                  go_wp2_with fail
                  go_roundw
                  case rel => exact ⟨k + 1, by omega, by omega, by go_num, ⟨U, um, un, ul, uc, unhide HPN⟩⟩
                  case measure => simp [intOf]; omega
              · as_aux_lemma =>
                  have h0 := (unhide HMAT) (by decide)
                  rw [h0] at c5
                  go_wp2_with fail
                  go_roundw
                  case rel => exact ⟨k + 1, by omega, by omega, by go_num, ⟨U, um, un, ul, uc, unhide HPN⟩⟩
                  case measure => simp [intOf]; omega
              · as_aux_lemma =>
                  have h0 := (unhide HMAT) (by decide)
                  rw [h0] at c5
                  go_wp2_with fail
                  go_roundw
                  case rel => exact ⟨k + 1, by omega, by omega, by go_num, ⟨U, um, un, ul, uc, unhide HPN⟩⟩
                  case measure => simp [intOf]; omega
              · as_aux_lemma =>
                  have h0 := (unhide HMAT) (by decide)
                  rw [h0] at c5
                  go_wp2_with fail
                  go_roundw
                  case rel => exact ⟨k + 1, by omega, by omega, by go_num, ⟨U, um, un, ul, uc, unhide HPN⟩⟩
                  case measure => simp [intOf]; omega
              · as_aux_lemma =>
                  go_wp2_with fail
                  refine (unhide E1).mono ?_
                  rintro e wx ⟨rfl, hwx⟩
                  rw [hwx, show edgeB 1 2 = true from rfl]
                  clear hwx wx
                  go_wp2_with fail
                  go_roundw
                  case rel => exact ⟨k + 1, by omega, by omega, by go_num, ⟨U, um, un, ul, uc, unhide HPN⟩⟩
                  case measure => simp [intOf]; omega
              · as_aux_lemma =>
                  go_wp2_with fail
                  refine (unhide E1).mono ?_
                  rintro e wx ⟨rfl, hwx⟩
                  rw [hwx, show edgeB 1 2 = true from rfl]
                  clear hwx wx
                  go_wp2_with fail
                  go_roundw
                  case rel => exact ⟨k + 1, by omega, by omega, by go_num, ⟨U, um, un, ul, uc, unhide HPN⟩⟩
                  case measure => simp [intOf]; omega
              · as_aux_lemma =>
                  go_wp2_with fail
                  refine (unhide E1).mono ?_
                  rintro e wx ⟨rfl, hwx⟩
                  rw [hwx, show edgeB 1 4 = true from rfl]
                  clear hwx wx
                  go_wp2_with fail
                  go_roundw
                  case rel => exact ⟨k + 1, by omega, by omega, by go_num, ⟨U, um, un, ul, uc, unhide HPN⟩⟩
                  case measure => simp [intOf]; omega
              · as_aux_lemma =>
                  go_wp2_with fail
                  refine (unhide E1).mono ?_
                  rintro e wx ⟨rfl, hwx⟩
                  rw [hwx, show edgeB 1 4 = true from rfl]
                  clear hwx wx
                  go_wp2_with fail
                  go_roundw
                  case rel => exact ⟨k + 1, by omega, by omega, by go_num, ⟨U, um, un, ul, uc, unhide HPN⟩⟩
                  case measure => simp [intOf]; omega
              · as_aux_lemma =>
                  have h0 := (unhide HMAT) (by decide)
                  rw [h0] at c5
                  go_wp2_with fail
                  refine (unhide E1).mono ?_
                  rintro e wx ⟨rfl, hwx⟩
                  rw [hwx, show edgeB 1 5 = true from rfl]
                  clear hwx wx
                  go_wp2_with fail
                  go_roundw
                  case rel => exact ⟨k + 1, by omega, by omega, by go_num, ⟨U, um, un, ul, uc, unhide HPN⟩⟩
                  case measure => simp [intOf]; omega
              · as_aux_lemma =>
                  have h0 := (unhide HMAT) (by decide)
                  rw [h0] at c5
                  go_wp2_with fail
                  refine (unhide E1).mono ?_
                  rintro e wx ⟨rfl, hwx⟩
                  rw [hwx, show edgeB 1 5 = true from rfl]
                  clear hwx wx
                  go_wp2_with fail
                  go_roundw
                  case rel => exact ⟨k + 1, by omega, by omega, by go_num, ⟨U, um, un, ul, uc, unhide HPN⟩⟩
                  case measure => simp [intOf]; omega
              · as_aux_lemma =>
                  go_wp2_with fail
                  refine (unhide E1).mono ?_
                  rintro e wx ⟨rfl, hwx⟩
                  rw [hwx, show edgeB 2 3 = true from rfl]
                  clear hwx wx
                  go_wp2_with fail
                  go_roundw
                  case rel => exact ⟨k + 1, by omega, by omega, by go_num, ⟨U, um, un, ul, uc, unhide HPN⟩⟩
                  case measure => simp [intOf]; omega
              · as_aux_lemma =>
                  go_wp2_with fail
                  refine (unhide E1).mono ?_
                  rintro e wx ⟨rfl, hwx⟩
                  rw [hwx, show edgeB 2 3 = true from rfl]
                  clear hwx wx
                  go_wp2_with fail
                  go_roundw
                  case rel => exact ⟨k + 1, by omega, by omega, by go_num, ⟨U, um, un, ul, uc, unhide HPN⟩⟩
                  case measure => simp [intOf]; omega
              · as_aux_lemma =>
                  go_wp2_with fail
                  refine (unhide E1).mono ?_
                  rintro e wx ⟨rfl, hwx⟩
                  rw [hwx, show edgeB 2 4 = true from rfl]
                  clear hwx wx
                  go_wp2_with fail
                  go_roundw
                  case rel => exact ⟨k + 1, by omega, by omega, by go_num, ⟨U, um, un, ul, uc, unhide HPN⟩⟩
                  case measure => simp [intOf]; omega
              · as_aux_lemma =>
                  go_wp2_with fail
                  refine (unhide E1).mono ?_
                  rintro e wx ⟨rfl, hwx⟩
                  rw [hwx, show edgeB 2 4 = true from rfl]
                  clear hwx wx
                  go_wp2_with fail
                  go_roundw
                  case rel => exact ⟨k + 1, by omega, by omega, by go_num, ⟨U, um, un, ul, uc, unhide HPN⟩⟩
                  case measure => simp [intOf]; omega
              · as_aux_lemma =>
                  go_wp2_with fail
                  refine (unhide E1).mono ?_
                  rintro e wx ⟨rfl, hwx⟩
                  rw [hwx, show edgeB 3 4 = true from rfl]
                  clear hwx wx
                  go_wp2_with fail
                  go_roundw
                  case rel => exact ⟨k + 1, by omega, by omega, by go_num, ⟨U, um, un, ul, uc, unhide HPN⟩⟩
                  case measure => simp [intOf]; omega
              · as_aux_lemma =>
                  go_wp2_with fail
                  refine (unhide E1).mono ?_
                  rintro e wx ⟨rfl, hwx⟩
                  rw [hwx, show edgeB 3 4 = true from rfl]
                  clear hwx wx
                  go_wp2_with fail
                  go_roundw
                  case rel => exact ⟨k + 1, by omega, by omega, by go_num, ⟨U, um, un, ul, uc, unhide HPN⟩⟩
                  case measure => simp [intOf]; omega
              · as_aux_lemma =>
                  have h0 := (unhide HMAT) (by decide)
                  rw [h0] at c5
                  go_wp2_with fail
                  refine (unhide E1).mono ?_
                  rintro e wx ⟨rfl, hwx⟩
                  rw [hwx, show edgeB 3 5 = true from rfl]
                  clear hwx wx
                  go_wp2_with fail
                  go_roundw
                  case rel => exact ⟨k + 1, by omega, by omega, by go_num, ⟨U, um, un, ul, uc, unhide HPN⟩⟩
                  case measure => simp [intOf]; omega
              · as_aux_lemma =>
                  have h0 := (unhide HMAT) (by decide)
                  rw [h0] at c5
                  go_wp2_with fail
                  refine (unhide E1).mono ?_
                  rintro e wx ⟨rfl, hwx⟩
                  rw [hwx, show edgeB 3 5 = true from rfl]
                  clear hwx wx
                  go_wp2_with fail
                  go_roundw
                  case rel => exact ⟨k + 1, by omega, by omega, by go_num, ⟨U, um, un, ul, uc, unhide HPN⟩⟩
                  case measure => simp [intOf]; omega
              · as_aux_lemma =>
                  have h0 := (unhide HMAT) (by decide)
                  rw [h0] at c5
                  go_wp2_with fail
                  refine (unhide E1).mono ?_
                  rintro e wx ⟨rfl, hwx⟩
                  rw [hwx, show edgeB 4 6 = true from rfl]
                  clear hwx wx
                  go_wp2_with fail
                  go_roundw
                  case rel => exact ⟨k + 1, by omega, by omega, by go_num, ⟨U, um, un, ul, uc, unhide HPN⟩⟩
                  case measure => simp [intOf]; omega
              · as_aux_lemma =>
                  have h0 := (unhide HMAT) (by decide)
                  rw [h0] at c5
                  go_wp2_with fail
                  refine (unhide E1).mono ?_
                  rintro e wx ⟨rfl, hwx⟩
                  rw [hwx, show edgeB 4 6 = true from rfl]
                  clear hwx wx
                  go_wp2_with fail
                  go_roundw
                  case rel => exact ⟨k + 1, by omega, by omega, by go_num, ⟨U, um, un, ul, uc, unhide HPN⟩⟩
                  case measure => simp [intOf]; omega
              · as_aux_lemma =>
                  have h0 := (unhide HMAT) (by decide)
                  rw [h0] at c5
                  go_wp2_with fail
                  refine (unhide E1).mono ?_
                  rintro e wx ⟨rfl, hwx⟩
                  rw [hwx, show edgeB 5 6 = true from rfl]
                  clear hwx wx
                  go_wp2_with fail
                  go_roundw
                  case rel => exact ⟨k + 1, by omega, by omega, by go_num, ⟨U, um, un, ul, uc, unhide HPN⟩⟩
                  case measure => simp [intOf]; omega
              · as_aux_lemma =>
                  have h0 := (unhide HMAT) (by decide)
                  rw [h0] at c5
                  go_wp2_with fail
                  refine (unhide E1).mono ?_
                  rintro e wx ⟨rfl, hwx⟩
                  rw [hwx, show edgeB 5 6 = true from rfl]
                  clear hwx wx
                  go_wp2_with fail
                  go_roundw
                  case rel => exact ⟨k + 1, by omega, by omega, by go_num, ⟨U, um, un, ul, uc, unhide HPN⟩⟩
                  case measure => simp [intOf]; omega
              · as_aux_lemma =>
                  go_wp2_with fail
                  refine (unhide E1).mono ?_
                  rintro e wx ⟨rfl, hwx⟩
                  rw [hwx, show edgeB 1 3 = false from rfl]
                  clear hwx wx
                  go_wp2_with fail
                  refine (unhide E2).mono ?_
                  rintro e wx ⟨rfl, hwx⟩
                  rw [hwx, show edgeB 1 2 = true from rfl]
                  clear hwx wx
                  go_wp2_with fail
                  refine (unhide E3).mono ?_
                  rintro e wx ⟨rfl, hwx⟩
                  rw [hwx, show edgeB 2 3 = true from rfl]
                  clear hwx wx
                  go_wp2_with fail
                  go_roundw
                  case rel => exact ⟨k + 1, by omega, by omega, by go_num, ⟨U, um, un, ul, uc, unhide HPN⟩⟩
                  case measure => simp [intOf]; omega
end Ob
end Go.Proofs.YtadpmninoghcjaaDoor
