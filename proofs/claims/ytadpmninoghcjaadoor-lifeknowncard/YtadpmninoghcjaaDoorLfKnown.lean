/-
  locksmithlaw11.LifeKnown: chapter 11's examples, and more.
-/
import Derived.Test.YtadpmninoghcjaaDoorLfKnow
import Derived.Test.YtadpmninoghcjaaDoorLfRevoke
namespace Go.Proofs.YtadpmninoghcjaaDoor
open Go.RowKit
set_option linter.unusedSimpArgs false
set_option linter.unusedVariables false
namespace Ob
theorem ans_out {w w' : World} {e : Ending} {E k : Int} {U : Ob} (h : Ans w w' e (told E U) E) (hE : E = k) (hk : k ≠ 0) : Ans w w' e zero k := by
  rw [hE] at h
  unfold told at h
  rwa [if_neg hk] at h
theorem ans_fine {w w' : World} {e : Ending} {E : Int} {U V : Ob} (h : Ans w w' e (told E U) E) (hE : E = 0) (hV : U = V) : Ans w w' e V 0 := by
  rw [hE, hV] at h
  exact h
theorem whole_of {w : World} {k : Nat} {o : Ob} {m n l c : Value} {B : List Value} (h : Bx w k 32 B) (hB : B = cells o m n l c) (I : In w o m n l c) : w.rangeAt k 0 B := by
  subst hB
  exact Bx.whole h I.ten
theorem size_of {w : World} {o : Ob} {m n l c : Value} {B : List Value} (hB : B = cells o m n l c) (I : In w o m n l c) : (Tryd.prog.info? 32).map (·.size) = some B.length := by
  subst hB
  exact size_cells o m n l c I.ten
theorem lk1_small : Small lk1 := ⟨by decide, by decide, by decide, by decide⟩
theorem in_lk1 (w : World) : In w lk1 (.slice none 0 0) (.slice none 0 0) (.slice none 0 0) (.slice none 0 0) := by
  have z : W64 0 := ⟨by decide, by decide⟩
  refine ⟨Or.inl ⟨rfl, rfl⟩, hasF_nil _ _ _, hasF_nil _ _ _, hasF_nil _ _ _, rfl, ⟨⟨by decide, by decide⟩, z, z, z, ⟨by decide, by decide⟩, z, z, z, z⟩, fun d hd => ?_, (fun k hk => by cases hk), ⟨by show 1 ≤ maxLen; unfold maxLen; omega, Nat.zero_le _, (fun s hs => by cases hs), (fun s hs => by cases hs), (fun s hs => by cases hs)⟩⟩
  have : d = (false, 0) ∨ d = (true, 5) := by
    have h : d ∈ ([(false, 0), (true, 5), (false, 0), (false, 0), (false, 0), (false, 0), (false, 0), (false, 0), (false, 0), (false, 0)] : List (Bool × Int)) := hd
    simp only [List.mem_cons, List.not_mem_nil, or_false] at h
    rcases h with h | h | h | h | h | h | h | h | h | h <;> simp [h]
  rcases this with rfl | rfl <;> exact ⟨by decide, by decide⟩
def lkA : Ob := actU lk1 3
def lkB : Ob := revU lkA 1 [] (false, 0) 6
def lkC : Ob := desU lkB 7
def lkD : Ob := revU lkC 2 [109] (true, 2) 8
def lkE : Ob := arcU lkA 9
def lkF : Ob := recU lkE 10
theorem lkA_small : Small lkA := ⟨by decide, by decide, by decide, by decide⟩
theorem lkB_small : Small lkB := ⟨by decide, by decide, by decide, by decide⟩
theorem lkC_small : Small lkC := ⟨by decide, by decide, by decide, by decide⟩
theorem lkE_small : Small lkE := ⟨by decide, by decide, by decide, by decide⟩
theorem e_a : actE lk1 = 0 := by decide
theorem e_q : actE lkA = 11 := by decide
theorem e_b : revE lkA 1 [] (false, 0) 6 = 0 := by decide
theorem e_c : desE lkB = 0 := by decide
theorem e_d : revE lkC 2 [109] (true, 2) 8 = 0 := by decide +kernel
theorem e_u : revE lkA 8 [] (false, 0) 6 = 7 := by decide
theorem e_v : desE lkA = 11 := by decide
theorem e_e : arcE lkA = 0 := by decide
theorem e_x : actE lkE = 13 := by decide
theorem e_f : recE lkE = 0 := by decide
theorem e_z : recE lkA = 11 := by decide
theorem n_k : nxt lk1 = (5, true) := by decide
set_option maxRecDepth 100000 in
set_option maxHeartbeats 16000000 in
theorem lknown_law (w : World) (hT : Tabs w) :
    Calls Tryd.prog 3 #[] w fun e w' => e = .returned (.bool true) ∧ Only (fun _ => False) w w' := by
  have HTB := hide hT
  clear hT
  have HP : Hid (∀ p mw nw lw cw, val p mw nw lw cw = .agg (cells p mw nw lw cw).toArray) := fun _ _ _ _ _ => rfl
  obtain ⟨A, hA⟩ : ∃ A, A = cells lk0 (.slice none 0 0) (.slice none 0 0) (.slice none 0 0) (.slice none 0 0) := ⟨_, rfl⟩
  have hoc : A.length = 37 := by rw [hA]; rfl
  obtain ⟨w2, k2, e2, ek2, hb2, o2, ht2⟩ := made37 w A hoc
  have hone : A.toArray.all (·.oneCell') = true := by
    apply all_oneCell_toArray
    rw [hA]
    exact cells_one _ _ _ _ _ rfl rfl rfl rfl
  have O2 := hide o2
  have HAG := lk0_agg
  rw [← hA] at HAG
  have HONE := hide hone
  have HT2 := hide ht2
  have HSZ : Hid ((Tryd.prog.info? 32).map (·.size) = some A.toArray.size) := by show _ = _; rw [List.size_toArray, hoc]; exact Tryd.sizeObj
  have HB2 : Hid (Bx w2 k2 32 (cells lk0 (.slice none 0 0) (.slice none 0 0) (.slice none 0 0) (.slice none 0 0))) := by rw [← hA]; exact hb2
  have HKN : Hid (w.heap.size ≤ k2) := by show _ ≤ _; omega
  have HKE2 := hide e2
  have HKEK2 := hide ek2
  have HAGH := hide HAG
  clear hA hoc hb2 o2 ht2 hone e2 ek2 HAG
  go_enter Tryd.func3, Tryd.ntmps3
  go_upto_region 2 with (first
    | (rw [← unhide HAGH]; refine wpList_store_mid rfl 32 (.tmp 1) (.tmp 26) rfl w.heap.size 0 A.toArray rfl rfl (unhide HT2) (unhide HSZ) (unhide HONE) ?_))
  rw [zo_eq, ← unhide HKE2, ← unhide HKEK2]
  clear HKE2 HKEK2 HAGH HT2 HSZ HONE
  have HD2 := hide (date_any 5 w2)
  go_wp2_with fail
  refine (unhide HD2).mono ?_
  rintro e y2 ⟨rfl, oy⟩
  have HBy := (unhide HB2).same oy
  have ca := HBy.cell 9 (.bool false) rfl
  have cb := HBy.cell 10 (.int .i64 0) rfl
  have fy := HBy.free
  have HBz : Hid (Bx ((y2.setCell ⟨k2, 9, none⟩ (.bool true)).setCell ⟨k2, 10, none⟩ (.int .i64 5)) k2 32 (cells lk1 (.slice none 0 0) (.slice none 0 0) (.slice none 0 0) (.slice none 0 0))) := by
    have h := setCells_blk [.bool true, .int .i64 5] y2 9 _ HBy
    rw [set_date lk0 _ _ _ _ rfl 1 (by decide) true 5] at h
    exact h
  have OZ : Hid (Only (fun _ => False) w ((y2.setCell ⟨k2, 9, none⟩ (.bool true)).setCell ⟨k2, 10, none⟩ (.int .i64 5))) := by
    have hq : Only (fun j => j = k2) y2 ((y2.setCell ⟨k2, 9, none⟩ (.bool true)).setCell ⟨k2, 10, none⟩ (.int .i64 5)) := ((Only.refl _ _).here _ _).here _ _
    exact ((unhide O2).trans oy (fun _ _ e => e)).trans hq (fun j hj e => by have := unhide HKN; omega)
  clear HD2 oy HBy
  go_upto_region 3 with fail
  generalize ((y2.setCell ⟨k2, 9, none⟩ (.bool true)).setCell ⟨k2, 10, none⟩ (.int .i64 5)) = w3 at *
  clear ca cb fy HB2 O2 HKN
  obtain ⟨BO, hBO⟩ : ∃ B, B = cells lk1 (.slice none 0 0) (.slice none 0 0) (.slice none 0 0) (.slice none 0 0) := ⟨_, rfl⟩
  have HBBO := hide hBO
  rw [← hBO] at HBz
  clear hBO
  obtain ⟨dsc, hdu, hdr⟩ := row_desc Tryd.rowObj
  have HRO := hide (whole_of (unhide HBz) (unhide HBBO) (in_lk1 w3))
  have HSZO := hide (size_of (unhide HBBO) (in_lk1 w3))
  have HNX : Hid (Calls Tryd.prog 8 #[.agg BO.toArray] w3 fun e w' => e = .returned (.tuple #[.int .i64 5, .bool true]) ∧ Only (fun _ => False) w3 w') := by
    show Calls _ _ _ _ _
    rw [unhide HBBO]
    have h := next_any lk1 (.slice none 0 0) (.slice none 0 0) (.slice none 0 0) (.slice none 0 0) w3 (in_lk1 w3).ten
    rw [n_k] at h
    exact h
  go_wp2_with (refine wpList_load_mid rfl 32 (.tmp 1) rfl k2 0 rfl BO dsc (unhide HRO) hdu hdr (unhide HSZO) ?_)
  refine (unhide HNX).mono ?_
  rintro e w4 ⟨rfl, o4⟩
  have HBO := hide ((unhide HBz).same o4)
  have OW := hide ((unhide OZ).trans o4 (fun _ _ e => e))
  replace HTB := hide ((unhide HTB).same (unhide OW))
  clear HBz OZ o4 HNX HRO
  go_upto_region 4 with fail
  have Q0 : Hid (Only (fun _ => False) w4 w4) := Only.refl _ _
  have HR0 := hide (whole_of (unhide HBO) (unhide HBBO) (in_lk1 w4))
  have hrA := rangeAt_only (unhide HR0) (unhide Q0) (fun e => e)
  have HCA := hide (show Calls Tryd.prog 9 #[.agg BO.toArray, .int .i64 3] w4 fun e w' => Ans w4 w' e lkA 0 by rw [unhide HBBO]; exact (activate_any lk1 (.slice none 0 0) (.slice none 0 0) (.slice none 0 0) (.slice none 0 0) 3 w4 (in_lk1 w4) lk1_small ⟨by decide, by decide⟩).mono fun e w' h => ans_fine h e_a rfl)
  go_wp2_with (refine wpList_load_mid rfl 32 (.tmp 1) rfl k2 0 rfl BO dsc hrA hdu hdr (unhide HSZO) ?_)
  refine (unhide HCA).mono ?_
  rintro e yA ⟨mA, nA, lA, cA, rfl, hinA, hfrA, oA⟩
  clear hrA HCA
  obtain ⟨wA, kA, eA, ekA, hbA, pA, htA⟩ := made37 yA (cells (lkA) mA nA lA cA) (cells_len _ _ _ _ _ hinA.ten)
  have HSZA := hide (size_cellsA (lkA) mA nA lA cA hinA.ten)
  have HONEA := hide hinA.one
  have HTA := hide htA
  have HEA := hide eA
  have HEKA := hide ekA
  have QA := hide (((unhide Q0).trans oA (fun _ _ e => e)).trans pA (fun _ _ e => e))
  have QWA := hide (oA.trans pA (fun _ _ e => e))
  have INA := hide (hinA.same pA)
  have HBA := hide hbA
  have APA := hide (hinA.apart (k := kA) (by omega))
  have FRA := hide hfrA
  have HKA : Hid (w4.heap.size ≤ kA) := by have := oA.size; show _ ≤ _; omega
  rw [unhide HP]
  obtain ⟨BA, hBA⟩ : ∃ B, B = cells (lkA) mA nA lA cA := ⟨_, rfl⟩
  rw [← hBA] at HSZA HONEA HTA HEA HBA ⊢
  have HBBA := hide hBA
  clear hinA hfrA oA pA eA ekA hbA htA hBA
  go_upto_region 5 with (refine wpList_store_mid rfl 32 (.tmp 4) (.tmp 38) rfl yA.heap.size 0 BA.toArray rfl rfl (unhide HTA) (unhide HSZA) (unhide HONEA) ?_)
  rw [zo_eq, ← unhide HEA, ← unhide HEKA]
  clear HEA HEKA HTA HONEA HSZA
  replace HBO := hide ((unhide HBO).same (unhide QWA))
  replace OW := hide ((unhide OW).trans (unhide QWA) (fun _ _ e => e))
  replace HTB := hide ((unhide HTB).same (unhide QWA))
  clear Q0 HR0 QA QWA APA FRA HKA
  have HSZA := hide (size_of (unhide HBBA) (unhide INA))
  clear HBO HBBO HSZO
  have Q0 : Hid (Only (fun _ => False) wA wA) := Only.refl _ _
  have HR0 := hide (whole_of (unhide HBA) (unhide HBBA) (unhide INA))
  have hrP := rangeAt_only (unhide HR0) (unhide Q0) (fun e => e)
  have HCP := hide (show Calls Tryd.prog 9 #[.agg BA.toArray, .int .i64 4] wA fun e w' => Ans wA w' e zero 11 by rw [unhide HBBA]; exact (activate_any lkA mA nA lA cA 4 wA (unhide INA) lkA_small ⟨by decide, by decide⟩).mono fun e w' h => ans_out h e_q (by decide))
  go_wp2_with (refine wpList_load_mid rfl 32 (.tmp 4) rfl kA 0 rfl BA dsc hrP hdu hdr (unhide HSZA) ?_)
  refine (unhide HCP).mono ?_
  rintro e yP ⟨mP, nP, lP, cP, rfl, hinP, hfrP, oP⟩
  clear hrP HCP
  obtain ⟨wP, kP, eP, ekP, hbP, pP, htP⟩ := made37 yP (cells (zero) mP nP lP cP) (cells_len _ _ _ _ _ hinP.ten)
  have HSZP := hide (size_cellsA (zero) mP nP lP cP hinP.ten)
  have HONEP := hide hinP.one
  have HTP := hide htP
  have HEP := hide eP
  have HEKP := hide ekP
  have QP := hide (((unhide Q0).trans oP (fun _ _ e => e)).trans pP (fun _ _ e => e))
  have QWP := hide (oP.trans pP (fun _ _ e => e))
  have INP := hide (hinP.same pP)
  have HBP := hide hbP
  have APP := hide (hinP.apart (k := kP) (by omega))
  have FRP := hide hfrP
  have HKP : Hid (wA.heap.size ≤ kP) := by have := oP.size; show _ ≤ _; omega
  rw [unhide HP]
  obtain ⟨BP, hBP⟩ : ∃ B, B = cells (zero) mP nP lP cP := ⟨_, rfl⟩
  rw [← hBP] at HSZP HONEP HTP HEP HBP ⊢
  have HBBP := hide hBP
  clear hinP hfrP oP pP eP ekP hbP htP hBP
  go_upto_region 6 with (refine wpList_store_mid rfl 32 (.tmp 6) (.tmp 43) rfl yP.heap.size 0 BP.toArray rfl rfl (unhide HTP) (unhide HSZP) (unhide HONEP) ?_)
  rw [zo_eq, ← unhide HEP, ← unhide HEKP]
  clear HEP HEKP HTP HONEP HSZP
  replace HBA := hide ((unhide HBA).same (unhide QWP))
  replace INA := hide ((unhide INA).same (unhide QWP))
  replace OW := hide ((unhide OW).trans (unhide QWP) (fun _ _ e => e))
  replace HTB := hide ((unhide HTB).same (unhide QWP))
  clear Q0 HR0 QP QWP APP FRP HKP
  clear HBP HBBP INP
  have Q0 : Hid (Only (fun _ => False) wP wP) := Only.refl _ _
  have HR0 := hide (whole_of (unhide HBA) (unhide HBBA) (unhide INA))
  have hrB := rangeAt_only (unhide HR0) (unhide Q0) (fun e => e)
  have HCB := hide (show Calls Tryd.prog 10 #[.agg BA.toArray, .int .i64 1, .string ⟨#[]⟩, .agg #[.bool false, .int .i64 0], .int .i64 6] wP fun e w' => Ans wP w' e lkB 0 by rw [unhide HBBA]; exact (revoke_any lkA mA nA lA cA 1 [] (false, 0) 6 wP (unhide INA) lkA_small ⟨by decide, by decide⟩ ⟨by decide, by decide⟩ ⟨by decide, by decide⟩ (Nat.zero_le _) (Or.inl rfl)).mono fun e w' h => ans_fine h e_b rfl)
  go_wp2_with (refine wpList_load_mid rfl 32 (.tmp 4) rfl kA 0 rfl BA dsc hrB hdu hdr (unhide HSZA) ?_)
  refine (unhide HCB).mono ?_
  rintro e yB ⟨mB, nB, lB, cB, rfl, hinB, hfrB, oB⟩
  clear hrB HCB
  obtain ⟨wB, kB, eB, ekB, hbB, pB, htB⟩ := made37 yB (cells (lkB) mB nB lB cB) (cells_len _ _ _ _ _ hinB.ten)
  have HSZB := hide (size_cellsA (lkB) mB nB lB cB hinB.ten)
  have HONEB := hide hinB.one
  have HTB := hide htB
  have HEB := hide eB
  have HEKB := hide ekB
  have QB := hide (((unhide Q0).trans oB (fun _ _ e => e)).trans pB (fun _ _ e => e))
  have QWB := hide (oB.trans pB (fun _ _ e => e))
  have INB := hide (hinB.same pB)
  have HBB := hide hbB
  have APB := hide (hinB.apart (k := kB) (by omega))
  have FRB := hide hfrB
  have HKB : Hid (wP.heap.size ≤ kB) := by have := oB.size; show _ ≤ _; omega
  rw [unhide HP]
  obtain ⟨BB, hBB⟩ : ∃ B, B = cells (lkB) mB nB lB cB := ⟨_, rfl⟩
  rw [← hBB] at HSZB HONEB HTB HEB HBB ⊢
  have HBBB := hide hBB
  clear hinB hfrB oB pB eB ekB hbB htB hBB
  go_upto_region 7 with (refine wpList_store_mid rfl 32 (.tmp 8) (.tmp 49) rfl yB.heap.size 0 BB.toArray rfl rfl (unhide HTB) (unhide HSZB) (unhide HONEB) ?_)
  rw [zo_eq, ← unhide HEB, ← unhide HEKB]
  clear HEB HEKB HTB HONEB HSZB
  replace HBA := hide ((unhide HBA).same (unhide QWB))
  replace INA := hide ((unhide INA).same (unhide QWB))
  replace OW := hide ((unhide OW).trans (unhide QWB) (fun _ _ e => e))
  replace HTB := hide ((unhide HTB).same (unhide QWB))
  clear Q0 HR0 QB QWB APB FRB HKB
  have HSZB := hide (size_of (unhide HBBB) (unhide INB))
  have Q0 : Hid (Only (fun _ => False) wB wB) := Only.refl _ _
  have HR0 := hide (whole_of (unhide HBB) (unhide HBBB) (unhide INB))
  have hrC := rangeAt_only (unhide HR0) (unhide Q0) (fun e => e)
  have HCC := hide (show Calls Tryd.prog 11 #[.agg BB.toArray, .int .i64 7] wB fun e w' => Ans wB w' e lkC 0 by rw [unhide HBBB]; exact (destroy_any lkB mB nB lB cB 7 wB (unhide INB) lkB_small ⟨by decide, by decide⟩).mono fun e w' h => ans_fine h e_c rfl)
  go_wp2_with (refine wpList_load_mid rfl 32 (.tmp 8) rfl kB 0 rfl BB dsc hrC hdu hdr (unhide HSZB) ?_)
  refine (unhide HCC).mono ?_
  rintro e yC ⟨mC, nC, lC, cC, rfl, hinC, hfrC, oC⟩
  clear hrC HCC
  obtain ⟨wC, kC, eC, ekC, hbC, pC, htC⟩ := made37 yC (cells (lkC) mC nC lC cC) (cells_len _ _ _ _ _ hinC.ten)
  have HSZC := hide (size_cellsA (lkC) mC nC lC cC hinC.ten)
  have HONEC := hide hinC.one
  have HTC := hide htC
  have HEC := hide eC
  have HEKC := hide ekC
  have QC := hide (((unhide Q0).trans oC (fun _ _ e => e)).trans pC (fun _ _ e => e))
  have QWC := hide (oC.trans pC (fun _ _ e => e))
  have INC := hide (hinC.same pC)
  have HBC := hide hbC
  have APC := hide (hinC.apart (k := kC) (by omega))
  have FRC := hide hfrC
  have HKC : Hid (wB.heap.size ≤ kC) := by have := oC.size; show _ ≤ _; omega
  rw [unhide HP]
  obtain ⟨BC, hBC⟩ : ∃ B, B = cells (lkC) mC nC lC cC := ⟨_, rfl⟩
  rw [← hBC] at HSZC HONEC HTC HEC HBC ⊢
  have HBBC := hide hBC
  clear hinC hfrC oC pC eC ekC hbC htC hBC
  go_upto_region 8 with (refine wpList_store_mid rfl 32 (.tmp 10) (.tmp 54) rfl yC.heap.size 0 BC.toArray rfl rfl (unhide HTC) (unhide HSZC) (unhide HONEC) ?_)
  rw [zo_eq, ← unhide HEC, ← unhide HEKC]
  clear HEC HEKC HTC HONEC HSZC
  replace HBA := hide ((unhide HBA).same (unhide QWC))
  replace INA := hide ((unhide INA).same (unhide QWC))
  replace HBB := hide ((unhide HBB).same (unhide QWC))
  replace INB := hide ((unhide INB).same (unhide QWC))
  replace OW := hide ((unhide OW).trans (unhide QWC) (fun _ _ e => e))
  replace HTB := hide ((unhide HTB).same (unhide QWC))
  clear Q0 HR0 QC QWC APC FRC HKC
  have HSZC := hide (size_of (unhide HBBC) (unhide INC))
  go_cut [12, 13] (fun s12 s13 wx => s13 = .int .i64 0 ∧ Hid (∃ kd m n l c, s12 = .pointer (some ⟨kd, 0, none⟩) ∧ Bx wx kd 32 (cells lkD m n l c)) ∧ Hid (Only (fun _ => False) wC wx))
  case first =>
    as_aux_lemma =>
      obtain ⟨ya, kb, eya, ekb, BA0, oa0, -⟩ := boxed wC Zo.toArray 32
      have Q := hide ((Only.refl (fun _ => False) wC).drew)
      have BZ : Hid (Bx ya.drew kb 32 Zo) := (show Bx ya kb 32 Zo from BA0).same ((Only.refl _ _).drew)
      have QY := hide (oa0.drew)
      have hkn : ¬ kb < wC.heap.size := by omega
      have HEY := hide eya
      have HEK := hide ekb
      have HRC := hide (whole_of (unhide HBC) (unhide HBBC) (unhide INC))
      have HDT := hide (fun W => date_any 2 W)
      have HREV : Hid (∀ W, Only (fun _ => False) wC W → Calls Tryd.prog 10 #[.agg BC.toArray, .int .i64 2, .string ⟨#[109]⟩, .agg #[.bool true, .int .i64 2], .int .i64 8] W fun e w' => Ans W w' e lkD 0) := fun W q => by
        rw [unhide HBBC]
        exact (revoke_any lkC mC nC lC cC 2 [109] (true, 2) 8 W ((unhide INC).same q) lkC_small ⟨by decide, by decide⟩ ⟨by decide, by decide⟩ ⟨by decide, by decide⟩ (by show 1 ≤ maxLen; unfold maxLen; omega) (Or.inr ((unhide HTB).same q))).mono fun e w' h => ans_fine h e_d rfl
      clear eya ekb BA0 oa0 HBA HBB INA INB INC HTB OW HSZA HSZB
      refine wp_region_held_drew (S := (fun w' => Only (fun _ => False) wC w')) (by kernel_rfl) ((Only.refl _ _).drew) (fun hHeld => ?_)
      refine wpAnyH_take (i := 0) (v := ?v1) rfl (by kernel_rfl) (by kernel_rfl) (by kernel_rfl) (fun _ _ _ h => h) (Or.inl ⟨by rfl, ?hy1⟩) (by assumption) ?rest1
      case hy1 =>
        intro w hSw
        (refine exec_load_mid 32 (.tmp 10) ?_ kC 0 ?_ BC dsc (rangeAt_only (unhide HRC) hSw (fun e => e)) hdu hdr (unhide HSZC) <;> rfl)
      try simp only [Act.put, List.setIfInBounds_toArray, List.set_cons_zero, List.set_cons_succ, List.getElem_toArray, List.getElem_cons_succ, List.getElem_cons_zero]
      refine wpAnyH_ready (rs := [1, 6]) (by kernel_rfl) (by simp) ?_
      refine (AllReadyH.cons rfl (fun K hK => ?_) (AllReadyH.cons rfl (fun K hK => ?_) AllReadyH.nil))
      · skip
        go_simp
        go_wp2_with fail; refine (unhide HDT _).mono ?_; rintro e y2 ⟨rfl, oy2⟩; have Q1 := hide ((unhide Q).trans oy2 (fun _ _ e => e)); clear oy2
        refine hK.out _ _ ((unhide Q1)) (fun hHeld => ?_)
        clear hK K
        try simp only [Act.put, List.setIfInBounds_toArray, List.set_cons_zero, List.set_cons_succ, List.getElem_toArray, List.getElem_cons_succ, List.getElem_cons_zero]
        obtain ⟨yb, kb2, eyb, ekb2, BA2, ob2, -⟩ := boxed y2 Zo.toArray 32
        have BZ2 : Hid (Bx yb kb2 32 Zo) := BA2
        have QB2 := hide ((unhide Q1).trans ob2 (fun _ _ e => e))
        have hkn2 : ¬ kb2 < wC.heap.size := by have := (unhide Q1).size; omega
        have HEY2 := hide eyb
        have HEK2 := hide ekb2
        clear eyb ekb2 BA2 ob2
        refine wpAnyH_ready (rs := [2, 6]) (by kernel_rfl) (by simp) ?_
        refine (AllReadyH.cons rfl (fun K hK => ?_) (AllReadyH.cons rfl (fun K hK => ?_) AllReadyH.nil))
        · skip
          have HV := hide (unhide HREV _ (unhide Q1))
          go_simp
          go_wp2_with fail; refine (unhide HV).mono ?_; rintro e y ⟨m, n, l, c, rfl, hin, hfr, oy⟩; have Q2 := hide ((unhide Q1).trans oy (fun _ _ e => e)); obtain ⟨w9, k9, e9, ek9, hb9, p9, ht9⟩ := made37 y (cells lkD m n l c) (cells_len _ _ _ _ _ hin.ten); have HSZ9 := hide (size_cellsA lkD m n l c hin.ten); have HONE9 := hide hin.one; have HT9 := hide ht9; have HE9 := hide e9; have HEK9 := hide ek9; have Q9 := hide ((unhide Q2).trans p9 (fun _ _ e => e)); have HB9 := hide hb9; rw [unhide HP]; obtain ⟨B9, hB9⟩ : ∃ B, B = cells lkD m n l c := ⟨_, rfl⟩; rw [← hB9] at HSZ9 HONE9 HT9 HE9 HB9 ⊢; have HBB9 := hide hB9; clear hin hfr oy e9 ek9 hb9 p9 ht9 hB9
          refine hK.out _ _ ((unhide Q2)) (fun hHeld => ?_)
          clear hK K
          try simp only [Act.put, List.setIfInBounds_toArray, List.set_cons_zero, List.set_cons_succ, List.getElem_toArray, List.getElem_cons_succ, List.getElem_cons_zero]
          refine wpAnyH_take (i := 3) (v := ?v2) rfl (by kernel_rfl) (by kernel_rfl) (by kernel_rfl) (fun _ _ _ h => h) (Or.inl ⟨by rfl, ?hy2⟩) (by assumption) ?rest2
          case hy2 =>
            intro w hSw
            go_simp
            try with_reducible rfl
          try simp only [Act.put, List.setIfInBounds_toArray, List.set_cons_zero, List.set_cons_succ, List.getElem_toArray, List.getElem_cons_succ, List.getElem_cons_zero]
          refine wpAnyH_take (i := 4) (v := ?v3) rfl (by kernel_rfl) (by kernel_rfl) (by kernel_rfl) (fun _ _ _ h => h) (Or.inl ⟨by rfl, ?hy3⟩) (by assumption) ?rest3
          case hy3 =>
            intro w hSw
            go_simp
            try with_reducible rfl
          try simp only [Act.put, List.setIfInBounds_toArray, List.set_cons_zero, List.set_cons_succ, List.getElem_toArray, List.getElem_cons_succ, List.getElem_cons_zero]
          refine wpAnyH_take (i := 5) (v := ?v4) rfl (by kernel_rfl) (by kernel_rfl) (by kernel_rfl) (fun _ _ _ h => h) (Or.inl ⟨by rfl, ?hy4⟩) (by assumption) ?rest4
          case hy4 =>
            intro w hSw
            go_simp
            try with_reducible rfl
          try simp only [Act.put, List.setIfInBounds_toArray, List.set_cons_zero, List.set_cons_succ, List.getElem_toArray, List.getElem_cons_succ, List.getElem_cons_zero]
          refine wpAnyH_ready (rs := [6]) (by kernel_rfl) (by simp) ?_
          refine AllReadyH.cons rfl (fun K hK => ?_) AllReadyH.nil
          go_simp
          refine hK.out _ _ (((unhide Q2).alloc _)) (fun hHeld => ?_)
          clear hK K
          try simp only [Act.put, List.setIfInBounds_toArray, List.set_cons_zero, List.set_cons_succ, List.getElem_toArray, List.getElem_cons_succ, List.getElem_cons_zero]
          refine wpAnyH_ready (rs := [7]) (by kernel_rfl) (by simp) ?_
          refine AllReadyH.cons rfl (fun K hK => ?_) AllReadyH.nil
          refine step_store_midA rfl 32 (.tmp 12) (.tmp 60) rfl y.heap.size 0 B9.toArray rfl rfl (unhide HT9) (unhide HSZ9) (unhide HONE9) ?_; rw [zo_eq, ← unhide HE9, ← unhide HEK9]
          refine hK.out _ _ ((unhide Q9)) (fun hHeld => ?_)
          clear hK K
          try simp only [Act.put, List.setIfInBounds_toArray, List.set_cons_zero, List.set_cons_succ, List.getElem_toArray, List.getElem_cons_succ, List.getElem_cons_zero]
          refine wpAnyH_take (i := 8) (v := ?v5) rfl (by kernel_rfl) (by kernel_rfl) (by kernel_rfl) (fun _ _ _ h => h) (Or.inl ⟨by rfl, ?hy5⟩) (by assumption) ?rest5
          case hy5 =>
            intro w hSw
            go_simp
            try with_reducible rfl
          try simp only [Act.put, List.setIfInBounds_toArray, List.set_cons_zero, List.set_cons_succ, List.getElem_toArray, List.getElem_cons_succ, List.getElem_cons_zero]
          refine wpAnyH_done (by kernel_rfl) ?_ _
          go_step
          go_step
          go_meet
          case rel => exact ⟨rfl, ⟨_, m, n, l, c, rfl, by rw [← unhide HBB9]; exact unhide HB9⟩, unhide Q9⟩
        · skip
          go_simp
          refine hK.out _ _ (((unhide Q1).alloc _)) (fun hHeld => ?_)
          clear hK K
          try simp only [Act.put, List.setIfInBounds_toArray, List.set_cons_zero, List.set_cons_succ, List.getElem_toArray, List.getElem_cons_succ, List.getElem_cons_zero]
          rw [zo_eq, ← unhide HEK2, ← unhide HEY2]
          have HV := hide (unhide HREV _ (unhide QB2))
          refine wpAnyH_ready (rs := [2]) (by kernel_rfl) (by simp) ?_
          refine AllReadyH.cons rfl (fun K hK => ?_) AllReadyH.nil
          go_simp
          go_wp2_with fail; refine (unhide HV).mono ?_; rintro e y ⟨m, n, l, c, rfl, hin, hfr, oy⟩; have Q2 := hide ((unhide QB2).trans oy (fun _ _ e => e)); have hz := (unhide BZ2).same oy; obtain ⟨hth, hfb, hin7, hof⟩ := fin37 hin (fun j hj e => by have h1 := hfr j hj; have h2 := (unhide BZ2).lt; omega) hz (cs0 := Zo) rfl; have HSZ9 := hide (size_cellsA lkD m n l c hin.ten); have HONE9 := hide hin.one; have HT9 := hide hth; have HB9 := hide hfb; have Q9 := hide ((unhide Q2).trans (T := fun j => j = kb2) hof (fun j hj e => by omega)); rw [unhide HP]; obtain ⟨B9, hB9⟩ : ∃ B, B = cells lkD m n l c := ⟨_, rfl⟩; rw [← hB9] at HSZ9 HONE9 HT9 Q9 HB9 ⊢; have HBB9 := hide hB9; clear hin hfr oy hth hfb hin7 hof hz hB9
          refine hK.out _ _ ((unhide Q2)) (fun hHeld => ?_)
          clear hK K
          try simp only [Act.put, List.setIfInBounds_toArray, List.set_cons_zero, List.set_cons_succ, List.getElem_toArray, List.getElem_cons_succ, List.getElem_cons_zero]
          refine wpAnyH_take (i := 3) (v := ?v6) rfl (by kernel_rfl) (by kernel_rfl) (by kernel_rfl) (fun _ _ _ h => h) (Or.inl ⟨by rfl, ?hy6⟩) (by assumption) ?rest6
          case hy6 =>
            intro w hSw
            go_simp
            try with_reducible rfl
          try simp only [Act.put, List.setIfInBounds_toArray, List.set_cons_zero, List.set_cons_succ, List.getElem_toArray, List.getElem_cons_succ, List.getElem_cons_zero]
          refine wpAnyH_take (i := 4) (v := ?v7) rfl (by kernel_rfl) (by kernel_rfl) (by kernel_rfl) (fun _ _ _ h => h) (Or.inl ⟨by rfl, ?hy7⟩) (by assumption) ?rest7
          case hy7 =>
            intro w hSw
            go_simp
            try with_reducible rfl
          try simp only [Act.put, List.setIfInBounds_toArray, List.set_cons_zero, List.set_cons_succ, List.getElem_toArray, List.getElem_cons_succ, List.getElem_cons_zero]
          refine wpAnyH_take (i := 5) (v := ?v8) rfl (by kernel_rfl) (by kernel_rfl) (by kernel_rfl) (fun _ _ _ h => h) (Or.inl ⟨by rfl, ?hy8⟩) (by assumption) ?rest8
          case hy8 =>
            intro w hSw
            go_simp
            try with_reducible rfl
          try simp only [Act.put, List.setIfInBounds_toArray, List.set_cons_zero, List.set_cons_succ, List.getElem_toArray, List.getElem_cons_succ, List.getElem_cons_zero]
          refine wpAnyH_ready (rs := [7]) (by kernel_rfl) (by simp) ?_
          refine AllReadyH.cons rfl (fun K hK => ?_) AllReadyH.nil
          refine step_store_midA rfl 32 (.tmp 12) (.tmp 60) rfl kb2 0 B9.toArray rfl rfl (unhide HT9) (unhide HSZ9) (unhide HONE9) ?_
          refine hK.out _ _ ((unhide Q9)) (fun hHeld => ?_)
          clear hK K
          try simp only [Act.put, List.setIfInBounds_toArray, List.set_cons_zero, List.set_cons_succ, List.getElem_toArray, List.getElem_cons_succ, List.getElem_cons_zero]
          refine wpAnyH_take (i := 8) (v := ?v9) rfl (by kernel_rfl) (by kernel_rfl) (by kernel_rfl) (fun _ _ _ h => h) (Or.inl ⟨by rfl, ?hy9⟩) (by assumption) ?rest9
          case hy9 =>
            intro w hSw
            go_simp
            try with_reducible rfl
          try simp only [Act.put, List.setIfInBounds_toArray, List.set_cons_zero, List.set_cons_succ, List.getElem_toArray, List.getElem_cons_succ, List.getElem_cons_zero]
          refine wpAnyH_done (by kernel_rfl) ?_ _
          go_step
          go_step
          go_meet
          case rel => exact ⟨rfl, ⟨_, m, n, l, c, rfl, by rw [← unhide HBB9]; exact unhide HB9⟩, unhide Q9⟩
      · skip
        go_simp
        refine hK.out _ _ ((((Only.refl (fun _ => False) wC).alloc _).drew)) (fun hHeld => ?_)
        clear hK K
        try simp only [Act.put, List.setIfInBounds_toArray, List.set_cons_zero, List.set_cons_succ, List.getElem_toArray, List.getElem_cons_succ, List.getElem_cons_zero]
        rw [zo_eq, ← unhide HEK, ← unhide HEY]
        refine wpAnyH_ready (rs := [1]) (by kernel_rfl) (by simp) ?_
        refine AllReadyH.cons rfl (fun K hK => ?_) AllReadyH.nil
        go_simp
        go_wp2_with fail; refine (unhide HDT _).mono ?_; rintro e y2 ⟨rfl, oy2⟩; have Q1 := hide ((unhide QY).trans oy2 (fun _ _ e => e)); have BZ1 := hide ((unhide BZ).same oy2); clear oy2
        refine hK.out _ _ ((unhide Q1)) (fun hHeld => ?_)
        clear hK K
        try simp only [Act.put, List.setIfInBounds_toArray, List.set_cons_zero, List.set_cons_succ, List.getElem_toArray, List.getElem_cons_succ, List.getElem_cons_zero]
        have HV := hide (unhide HREV _ (unhide Q1))
        refine wpAnyH_ready (rs := [2]) (by kernel_rfl) (by simp) ?_
        refine AllReadyH.cons rfl (fun K hK => ?_) AllReadyH.nil
        go_simp
        go_wp2_with fail; refine (unhide HV).mono ?_; rintro e y ⟨m, n, l, c, rfl, hin, hfr, oy⟩; have Q2 := hide ((unhide Q1).trans oy (fun _ _ e => e)); have hz := (unhide BZ1).same oy; obtain ⟨hth, hfb, hin7, hof⟩ := fin37 hin (fun j hj e => by have h1 := hfr j hj; have h2 := (unhide BZ1).lt; omega) hz (cs0 := Zo) rfl; have HSZ9 := hide (size_cellsA lkD m n l c hin.ten); have HONE9 := hide hin.one; have HT9 := hide hth; have HB9 := hide hfb; have Q9 := hide ((unhide Q2).trans (T := fun j => j = kb) hof (fun j hj e => by omega)); rw [unhide HP]; obtain ⟨B9, hB9⟩ : ∃ B, B = cells lkD m n l c := ⟨_, rfl⟩; rw [← hB9] at HSZ9 HONE9 HT9 Q9 HB9 ⊢; have HBB9 := hide hB9; clear hin hfr oy hth hfb hin7 hof hz hB9
        refine hK.out _ _ ((unhide Q2)) (fun hHeld => ?_)
        clear hK K
        try simp only [Act.put, List.setIfInBounds_toArray, List.set_cons_zero, List.set_cons_succ, List.getElem_toArray, List.getElem_cons_succ, List.getElem_cons_zero]
        refine wpAnyH_take (i := 3) (v := ?v10) rfl (by kernel_rfl) (by kernel_rfl) (by kernel_rfl) (fun _ _ _ h => h) (Or.inl ⟨by rfl, ?hy10⟩) (by assumption) ?rest10
        case hy10 =>
          intro w hSw
          go_simp
          try with_reducible rfl
        try simp only [Act.put, List.setIfInBounds_toArray, List.set_cons_zero, List.set_cons_succ, List.getElem_toArray, List.getElem_cons_succ, List.getElem_cons_zero]
        refine wpAnyH_take (i := 4) (v := ?v11) rfl (by kernel_rfl) (by kernel_rfl) (by kernel_rfl) (fun _ _ _ h => h) (Or.inl ⟨by rfl, ?hy11⟩) (by assumption) ?rest11
        case hy11 =>
          intro w hSw
          go_simp
          try with_reducible rfl
        try simp only [Act.put, List.setIfInBounds_toArray, List.set_cons_zero, List.set_cons_succ, List.getElem_toArray, List.getElem_cons_succ, List.getElem_cons_zero]
        refine wpAnyH_take (i := 5) (v := ?v12) rfl (by kernel_rfl) (by kernel_rfl) (by kernel_rfl) (fun _ _ _ h => h) (Or.inl ⟨by rfl, ?hy12⟩) (by assumption) ?rest12
        case hy12 =>
          intro w hSw
          go_simp
          try with_reducible rfl
        try simp only [Act.put, List.setIfInBounds_toArray, List.set_cons_zero, List.set_cons_succ, List.getElem_toArray, List.getElem_cons_succ, List.getElem_cons_zero]
        refine wpAnyH_ready (rs := [7]) (by kernel_rfl) (by simp) ?_
        refine AllReadyH.cons rfl (fun K hK => ?_) AllReadyH.nil
        refine step_store_midA rfl 32 (.tmp 12) (.tmp 60) rfl kb 0 B9.toArray rfl rfl (unhide HT9) (unhide HSZ9) (unhide HONE9) ?_
        refine hK.out _ _ ((unhide Q9)) (fun hHeld => ?_)
        clear hK K
        try simp only [Act.put, List.setIfInBounds_toArray, List.set_cons_zero, List.set_cons_succ, List.getElem_toArray, List.getElem_cons_succ, List.getElem_cons_zero]
        refine wpAnyH_take (i := 8) (v := ?v13) rfl (by kernel_rfl) (by kernel_rfl) (by kernel_rfl) (fun _ _ _ h => h) (Or.inl ⟨by rfl, ?hy13⟩) (by assumption) ?rest13
        case hy13 =>
          intro w hSw
          go_simp
          try with_reducible rfl
        try simp only [Act.put, List.setIfInBounds_toArray, List.set_cons_zero, List.set_cons_succ, List.getElem_toArray, List.getElem_cons_succ, List.getElem_cons_zero]
        refine wpAnyH_done (by kernel_rfl) ?_ _
        go_step
        go_step
        go_meet
        case rel => exact ⟨rfl, ⟨_, m, n, l, c, rfl, by rw [← unhide HBB9]; exact unhide HB9⟩, unhide Q9⟩
  case rest =>
    as_aux_lemma =>
      rename World => wD
      obtain ⟨rfl, hd, OC⟩ := hcut
      obtain ⟨kD, mD, nD, lD, cD, rfl, hBd⟩ := unhide hd
      have QWD := OC
      have HBD := hide hBd
      clear hd hBd OC
      replace HBA := hide ((unhide HBA).same (unhide QWD))
      replace INA := hide ((unhide INA).same (unhide QWD))
      replace HBB := hide ((unhide HBB).same (unhide QWD))
      replace INB := hide ((unhide INB).same (unhide QWD))
      replace HBC := hide ((unhide HBC).same (unhide QWD))
      replace INC := hide ((unhide INC).same (unhide QWD))
      replace OW := hide ((unhide OW).trans (unhide QWD) (fun _ _ e => e))
      clear QWD HTB
      have D1 := hide ((unhide HBD).cell 6 (.int .i64 6) rfl)
      have D2 := hide ((unhide HBD).cell 20 (.int .i64 2) rfl)
      have D3 := hide ((unhide HBB).cell 6 (.int .i64 3) (by rw [unhide HBBB]; rfl))
      have D4 := hide ((unhide HBB).cell 27 (.int .i64 1) (by rw [unhide HBBB]; rfl))
      have D5 := hide ((unhide HBC).cell 6 (.int .i64 5) (by rw [unhide HBBC]; rfl))
      have D6 := hide ((unhide HBC).cell 5 mC (by rw [unhide HBBC]; rfl))
      obtain ⟨ma, mc, emC, -⟩ := (unhide INC).mat.shape
      replace D6 : Hid (wD.cell? ⟨kC, 5, none⟩ = some (.slice ma 0 mc)) := by have h := unhide D6; rw [emC] at h; exact h
      clear HBD HBB HBBB INB HBC HBBC INC emC HSZB HSZC
      have Q0 : Hid (Only (fun _ => False) wD wD) := Only.refl _ _
      have HR0 := hide (whole_of (unhide HBA) (unhide HBBA) (unhide INA))
      have hrU := rangeAt_only (unhide HR0) (unhide Q0) (fun e => e)
      have HCU := hide (show Calls Tryd.prog 10 #[.agg BA.toArray, .int .i64 8, .string ⟨#[]⟩, .agg #[.bool false, .int .i64 0], .int .i64 6] wD fun e w' => Ans wD w' e zero 7 by rw [unhide HBBA]; exact (revoke_any lkA mA nA lA cA 8 [] (false, 0) 6 wD (unhide INA) lkA_small ⟨by decide, by decide⟩ ⟨by decide, by decide⟩ ⟨by decide, by decide⟩ (Nat.zero_le _) (Or.inl rfl)).mono fun e w' h => ans_out h e_u (by decide))
      go_wp2_with (refine wpList_load_mid rfl 32 (.tmp 4) rfl kA 0 rfl BA dsc hrU hdu hdr (unhide HSZA) ?_)
      refine (unhide HCU).mono ?_
      rintro e yU ⟨mU, nU, lU, cU, rfl, hinU, hfrU, oU⟩
      clear hrU HCU
      obtain ⟨wU, kU, eU, ekU, hbU, pU, htU⟩ := made37 yU (cells (zero) mU nU lU cU) (cells_len _ _ _ _ _ hinU.ten)
      have HSZU := hide (size_cellsA (zero) mU nU lU cU hinU.ten)
      have HONEU := hide hinU.one
      have HTU := hide htU
      have HEU := hide eU
      have HEKU := hide ekU
      have QU := hide (((unhide Q0).trans oU (fun _ _ e => e)).trans pU (fun _ _ e => e))
      have QWU := hide (oU.trans pU (fun _ _ e => e))
      have INU := hide (hinU.same pU)
      have HBU := hide hbU
      have APU := hide (hinU.apart (k := kU) (by omega))
      have FRU := hide hfrU
      have HKU : Hid (wD.heap.size ≤ kU) := by have := oU.size; show _ ≤ _; omega
      rw [unhide HP]
      obtain ⟨BU, hBU⟩ : ∃ B, B = cells (zero) mU nU lU cU := ⟨_, rfl⟩
      rw [← hBU] at HSZU HONEU HTU HEU HBU ⊢
      have HBBU := hide hBU
      clear hinU hfrU oU pU eU ekU hbU htU hBU
      go_upto_region 10 with (refine wpList_store_mid rfl 32 (.tmp 14) (.tmp 66) rfl yU.heap.size 0 BU.toArray rfl rfl (unhide HTU) (unhide HSZU) (unhide HONEU) ?_)
      rw [zo_eq, ← unhide HEU, ← unhide HEKU]
      clear HEU HEKU HTU HONEU HSZU
      replace HBA := hide ((unhide HBA).same (unhide QWU))
      replace INA := hide ((unhide INA).same (unhide QWU))
      replace OW := hide ((unhide OW).trans (unhide QWU) (fun _ _ e => e))
      replace D1 := hide ((unhide QWU).cell (unhide D1) (fun e => e))
      replace D2 := hide ((unhide QWU).cell (unhide D2) (fun e => e))
      replace D3 := hide ((unhide QWU).cell (unhide D3) (fun e => e))
      replace D4 := hide ((unhide QWU).cell (unhide D4) (fun e => e))
      replace D5 := hide ((unhide QWU).cell (unhide D5) (fun e => e))
      replace D6 := hide ((unhide QWU).cell (unhide D6) (fun e => e))
      clear Q0 HR0 QU QWU APU FRU HKU
      clear HBU HBBU INU
      have Q0 : Hid (Only (fun _ => False) wU wU) := Only.refl _ _
      have HR0 := hide (whole_of (unhide HBA) (unhide HBBA) (unhide INA))
      have hrV := rangeAt_only (unhide HR0) (unhide Q0) (fun e => e)
      have HCV := hide (show Calls Tryd.prog 11 #[.agg BA.toArray, .int .i64 6] wU fun e w' => Ans wU w' e zero 11 by rw [unhide HBBA]; exact (destroy_any lkA mA nA lA cA 6 wU (unhide INA) lkA_small ⟨by decide, by decide⟩).mono fun e w' h => ans_out h e_v (by decide))
      go_wp2_with (refine wpList_load_mid rfl 32 (.tmp 4) rfl kA 0 rfl BA dsc hrV hdu hdr (unhide HSZA) ?_)
      refine (unhide HCV).mono ?_
      rintro e yV ⟨mV, nV, lV, cV, rfl, hinV, hfrV, oV⟩
      clear hrV HCV
      obtain ⟨wV, kV, eV, ekV, hbV, pV, htV⟩ := made37 yV (cells (zero) mV nV lV cV) (cells_len _ _ _ _ _ hinV.ten)
      have HSZV := hide (size_cellsA (zero) mV nV lV cV hinV.ten)
      have HONEV := hide hinV.one
      have HTV := hide htV
      have HEV := hide eV
      have HEKV := hide ekV
      have QV := hide (((unhide Q0).trans oV (fun _ _ e => e)).trans pV (fun _ _ e => e))
      have QWV := hide (oV.trans pV (fun _ _ e => e))
      have INV := hide (hinV.same pV)
      have HBV := hide hbV
      have APV := hide (hinV.apart (k := kV) (by omega))
      have FRV := hide hfrV
      have HKV : Hid (wU.heap.size ≤ kV) := by have := oV.size; show _ ≤ _; omega
      rw [unhide HP]
      obtain ⟨BV, hBV⟩ : ∃ B, B = cells (zero) mV nV lV cV := ⟨_, rfl⟩
      rw [← hBV] at HSZV HONEV HTV HEV HBV ⊢
      have HBBV := hide hBV
      clear hinV hfrV oV pV eV ekV hbV htV hBV
      go_upto_region 11 with (refine wpList_store_mid rfl 32 (.tmp 16) (.tmp 71) rfl yV.heap.size 0 BV.toArray rfl rfl (unhide HTV) (unhide HSZV) (unhide HONEV) ?_)
      rw [zo_eq, ← unhide HEV, ← unhide HEKV]
      clear HEV HEKV HTV HONEV HSZV
      replace HBA := hide ((unhide HBA).same (unhide QWV))
      replace INA := hide ((unhide INA).same (unhide QWV))
      replace OW := hide ((unhide OW).trans (unhide QWV) (fun _ _ e => e))
      replace D1 := hide ((unhide QWV).cell (unhide D1) (fun e => e))
      replace D2 := hide ((unhide QWV).cell (unhide D2) (fun e => e))
      replace D3 := hide ((unhide QWV).cell (unhide D3) (fun e => e))
      replace D4 := hide ((unhide QWV).cell (unhide D4) (fun e => e))
      replace D5 := hide ((unhide QWV).cell (unhide D5) (fun e => e))
      replace D6 := hide ((unhide QWV).cell (unhide D6) (fun e => e))
      clear Q0 HR0 QV QWV APV FRV HKV
      clear HBV HBBV INV
      have Q0 : Hid (Only (fun _ => False) wV wV) := Only.refl _ _
      have HR0 := hide (whole_of (unhide HBA) (unhide HBBA) (unhide INA))
      have hrE := rangeAt_only (unhide HR0) (unhide Q0) (fun e => e)
      have HCE := hide (show Calls Tryd.prog 12 #[.agg BA.toArray, .int .i64 9] wV fun e w' => Ans wV w' e lkE 0 by rw [unhide HBBA]; exact (archive_any lkA mA nA lA cA 9 wV (unhide INA) lkA_small ⟨by decide, by decide⟩).mono fun e w' h => ans_fine h e_e rfl)
      go_wp2_with (refine wpList_load_mid rfl 32 (.tmp 4) rfl kA 0 rfl BA dsc hrE hdu hdr (unhide HSZA) ?_)
      refine (unhide HCE).mono ?_
      rintro e yE ⟨mE, nE, lE, cE, rfl, hinE, hfrE, oE⟩
      clear hrE HCE
      obtain ⟨wE, kE, eE, ekE, hbE, pE, htE⟩ := made37 yE (cells (lkE) mE nE lE cE) (cells_len _ _ _ _ _ hinE.ten)
      have HSZE := hide (size_cellsA (lkE) mE nE lE cE hinE.ten)
      have HONEE := hide hinE.one
      have HTE := hide htE
      have HEE := hide eE
      have HEKE := hide ekE
      have QE := hide (((unhide Q0).trans oE (fun _ _ e => e)).trans pE (fun _ _ e => e))
      have QWE := hide (oE.trans pE (fun _ _ e => e))
      have INE := hide (hinE.same pE)
      have HBE := hide hbE
      have APE := hide (hinE.apart (k := kE) (by omega))
      have FRE := hide hfrE
      have HKE : Hid (wV.heap.size ≤ kE) := by have := oE.size; show _ ≤ _; omega
      rw [unhide HP]
      obtain ⟨BE, hBE⟩ : ∃ B, B = cells (lkE) mE nE lE cE := ⟨_, rfl⟩
      rw [← hBE] at HSZE HONEE HTE HEE HBE ⊢
      have HBBE := hide hBE
      clear hinE hfrE oE pE eE ekE hbE htE hBE
      go_upto_region 12 with (refine wpList_store_mid rfl 32 (.tmp 18) (.tmp 76) rfl yE.heap.size 0 BE.toArray rfl rfl (unhide HTE) (unhide HSZE) (unhide HONEE) ?_)
      rw [zo_eq, ← unhide HEE, ← unhide HEKE]
      clear HEE HEKE HTE HONEE HSZE
      replace HBA := hide ((unhide HBA).same (unhide QWE))
      replace INA := hide ((unhide INA).same (unhide QWE))
      replace OW := hide ((unhide OW).trans (unhide QWE) (fun _ _ e => e))
      replace D1 := hide ((unhide QWE).cell (unhide D1) (fun e => e))
      replace D2 := hide ((unhide QWE).cell (unhide D2) (fun e => e))
      replace D3 := hide ((unhide QWE).cell (unhide D3) (fun e => e))
      replace D4 := hide ((unhide QWE).cell (unhide D4) (fun e => e))
      replace D5 := hide ((unhide QWE).cell (unhide D5) (fun e => e))
      replace D6 := hide ((unhide QWE).cell (unhide D6) (fun e => e))
      clear Q0 HR0 QE QWE APE FRE HKE
      have HSZE := hide (size_of (unhide HBBE) (unhide INE))
      have Q0 : Hid (Only (fun _ => False) wE wE) := Only.refl _ _
      have HR0 := hide (whole_of (unhide HBE) (unhide HBBE) (unhide INE))
      have hrX := rangeAt_only (unhide HR0) (unhide Q0) (fun e => e)
      have HCX := hide (show Calls Tryd.prog 9 #[.agg BE.toArray, .int .i64 9] wE fun e w' => Ans wE w' e zero 13 by rw [unhide HBBE]; exact (activate_any lkE mE nE lE cE 9 wE (unhide INE) lkE_small ⟨by decide, by decide⟩).mono fun e w' h => ans_out h e_x (by decide))
      go_wp2_with (refine wpList_load_mid rfl 32 (.tmp 18) rfl kE 0 rfl BE dsc hrX hdu hdr (unhide HSZE) ?_)
      refine (unhide HCX).mono ?_
      rintro e yX ⟨mX, nX, lX, cX, rfl, hinX, hfrX, oX⟩
      clear hrX HCX
      obtain ⟨wX, kX, eX, ekX, hbX, pX, htX⟩ := made37 yX (cells (zero) mX nX lX cX) (cells_len _ _ _ _ _ hinX.ten)
      have HSZX := hide (size_cellsA (zero) mX nX lX cX hinX.ten)
      have HONEX := hide hinX.one
      have HTX := hide htX
      have HEX := hide eX
      have HEKX := hide ekX
      have QX := hide (((unhide Q0).trans oX (fun _ _ e => e)).trans pX (fun _ _ e => e))
      have QWX := hide (oX.trans pX (fun _ _ e => e))
      have INX := hide (hinX.same pX)
      have HBX := hide hbX
      have APX := hide (hinX.apart (k := kX) (by omega))
      have FRX := hide hfrX
      have HKX : Hid (wE.heap.size ≤ kX) := by have := oX.size; show _ ≤ _; omega
      rw [unhide HP]
      obtain ⟨BX, hBX⟩ : ∃ B, B = cells (zero) mX nX lX cX := ⟨_, rfl⟩
      rw [← hBX] at HSZX HONEX HTX HEX HBX ⊢
      have HBBX := hide hBX
      clear hinX hfrX oX pX eX ekX hbX htX hBX
      go_upto_region 13 with (refine wpList_store_mid rfl 32 (.tmp 20) (.tmp 81) rfl yX.heap.size 0 BX.toArray rfl rfl (unhide HTX) (unhide HSZX) (unhide HONEX) ?_)
      rw [zo_eq, ← unhide HEX, ← unhide HEKX]
      clear HEX HEKX HTX HONEX HSZX
      replace HBA := hide ((unhide HBA).same (unhide QWX))
      replace INA := hide ((unhide INA).same (unhide QWX))
      replace HBE := hide ((unhide HBE).same (unhide QWX))
      replace INE := hide ((unhide INE).same (unhide QWX))
      replace OW := hide ((unhide OW).trans (unhide QWX) (fun _ _ e => e))
      replace D1 := hide ((unhide QWX).cell (unhide D1) (fun e => e))
      replace D2 := hide ((unhide QWX).cell (unhide D2) (fun e => e))
      replace D3 := hide ((unhide QWX).cell (unhide D3) (fun e => e))
      replace D4 := hide ((unhide QWX).cell (unhide D4) (fun e => e))
      replace D5 := hide ((unhide QWX).cell (unhide D5) (fun e => e))
      replace D6 := hide ((unhide QWX).cell (unhide D6) (fun e => e))
      clear Q0 HR0 QX QWX APX FRX HKX
      clear HBX HBBX INX
      have Q0 : Hid (Only (fun _ => False) wX wX) := Only.refl _ _
      have HR0 := hide (whole_of (unhide HBE) (unhide HBBE) (unhide INE))
      have hrF := rangeAt_only (unhide HR0) (unhide Q0) (fun e => e)
      have HCF := hide (show Calls Tryd.prog 13 #[.agg BE.toArray, .int .i64 10] wX fun e w' => Ans wX w' e lkF 0 by rw [unhide HBBE]; exact (recover_any lkE mE nE lE cE 10 wX (unhide INE) lkE_small ⟨by decide, by decide⟩).mono fun e w' h => ans_fine h e_f rfl)
      go_wp2_with (refine wpList_load_mid rfl 32 (.tmp 18) rfl kE 0 rfl BE dsc hrF hdu hdr (unhide HSZE) ?_)
      refine (unhide HCF).mono ?_
      rintro e yF ⟨mF, nF, lF, cF, rfl, hinF, hfrF, oF⟩
      clear hrF HCF
      obtain ⟨wF, kF, eF, ekF, hbF, pF, htF⟩ := made37 yF (cells (lkF) mF nF lF cF) (cells_len _ _ _ _ _ hinF.ten)
      have HSZF := hide (size_cellsA (lkF) mF nF lF cF hinF.ten)
      have HONEF := hide hinF.one
      have HTF := hide htF
      have HEF := hide eF
      have HEKF := hide ekF
      have QF := hide (((unhide Q0).trans oF (fun _ _ e => e)).trans pF (fun _ _ e => e))
      have QWF := hide (oF.trans pF (fun _ _ e => e))
      have INF := hide (hinF.same pF)
      have HBF := hide hbF
      have APF := hide (hinF.apart (k := kF) (by omega))
      have FRF := hide hfrF
      have HKF : Hid (wX.heap.size ≤ kF) := by have := oF.size; show _ ≤ _; omega
      rw [unhide HP]
      obtain ⟨BF, hBF⟩ : ∃ B, B = cells (lkF) mF nF lF cF := ⟨_, rfl⟩
      rw [← hBF] at HSZF HONEF HTF HEF HBF ⊢
      have HBBF := hide hBF
      clear hinF hfrF oF pF eF ekF hbF htF hBF
      go_upto_region 14 with (refine wpList_store_mid rfl 32 (.tmp 22) (.tmp 86) rfl yF.heap.size 0 BF.toArray rfl rfl (unhide HTF) (unhide HSZF) (unhide HONEF) ?_)
      rw [zo_eq, ← unhide HEF, ← unhide HEKF]
      clear HEF HEKF HTF HONEF HSZF
      replace HBA := hide ((unhide HBA).same (unhide QWF))
      replace INA := hide ((unhide INA).same (unhide QWF))
      replace HBE := hide ((unhide HBE).same (unhide QWF))
      replace INE := hide ((unhide INE).same (unhide QWF))
      replace OW := hide ((unhide OW).trans (unhide QWF) (fun _ _ e => e))
      replace D1 := hide ((unhide QWF).cell (unhide D1) (fun e => e))
      replace D2 := hide ((unhide QWF).cell (unhide D2) (fun e => e))
      replace D3 := hide ((unhide QWF).cell (unhide D3) (fun e => e))
      replace D4 := hide ((unhide QWF).cell (unhide D4) (fun e => e))
      replace D5 := hide ((unhide QWF).cell (unhide D5) (fun e => e))
      replace D6 := hide ((unhide QWF).cell (unhide D6) (fun e => e))
      clear Q0 HR0 QF QWF APF FRF HKF
      have HSZF := hide (size_of (unhide HBBF) (unhide INF))
      have Q0 : Hid (Only (fun _ => False) wF wF) := Only.refl _ _
      have HR0 := hide (whole_of (unhide HBA) (unhide HBBA) (unhide INA))
      have hrZ := rangeAt_only (unhide HR0) (unhide Q0) (fun e => e)
      have HCZ := hide (show Calls Tryd.prog 13 #[.agg BA.toArray, .int .i64 10] wF fun e w' => Ans wF w' e zero 11 by rw [unhide HBBA]; exact (recover_any lkA mA nA lA cA 10 wF (unhide INA) lkA_small ⟨by decide, by decide⟩).mono fun e w' h => ans_out h e_z (by decide))
      go_wp2_with (refine wpList_load_mid rfl 32 (.tmp 4) rfl kA 0 rfl BA dsc hrZ hdu hdr (unhide HSZA) ?_)
      refine (unhide HCZ).mono ?_
      rintro e yZ ⟨mZ, nZ, lZ, cZ, rfl, hinZ, hfrZ, oZ⟩
      clear hrZ HCZ
      obtain ⟨wZ, kZ, eZ, ekZ, hbZ, pZ, htZ⟩ := made37 yZ (cells (zero) mZ nZ lZ cZ) (cells_len _ _ _ _ _ hinZ.ten)
      have HSZZ := hide (size_cellsA (zero) mZ nZ lZ cZ hinZ.ten)
      have HONEZ := hide hinZ.one
      have HTZ := hide htZ
      have HEZ := hide eZ
      have HEKZ := hide ekZ
      have QZ := hide (((unhide Q0).trans oZ (fun _ _ e => e)).trans pZ (fun _ _ e => e))
      have QWZ := hide (oZ.trans pZ (fun _ _ e => e))
      have INZ := hide (hinZ.same pZ)
      have HBZ := hide hbZ
      have APZ := hide (hinZ.apart (k := kZ) (by omega))
      have FRZ := hide hfrZ
      have HKZ : Hid (wF.heap.size ≤ kZ) := by have := oZ.size; show _ ≤ _; omega
      rw [unhide HP]
      obtain ⟨BZ, hBZ⟩ : ∃ B, B = cells (zero) mZ nZ lZ cZ := ⟨_, rfl⟩
      rw [← hBZ] at HSZZ HONEZ HTZ HEZ HBZ ⊢
      have HBBZ := hide hBZ
      clear hinZ hfrZ oZ pZ eZ ekZ hbZ htZ hBZ
      go_wp2_with (refine wpList_store_mid rfl 32 (.tmp 24) (.tmp 91) rfl yZ.heap.size 0 BZ.toArray rfl rfl (unhide HTZ) (unhide HSZZ) (unhide HONEZ) ?_)
      rw [zo_eq, ← unhide HEZ, ← unhide HEKZ]
      clear HEZ HEKZ HTZ HONEZ HSZZ
      replace HBA := hide ((unhide HBA).same (unhide QWZ))
      replace INA := hide ((unhide INA).same (unhide QWZ))
      replace HBE := hide ((unhide HBE).same (unhide QWZ))
      replace INE := hide ((unhide INE).same (unhide QWZ))
      replace HBF := hide ((unhide HBF).same (unhide QWZ))
      replace INF := hide ((unhide INF).same (unhide QWZ))
      replace OW := hide ((unhide OW).trans (unhide QWZ) (fun _ _ e => e))
      replace D1 := hide ((unhide QWZ).cell (unhide D1) (fun e => e))
      replace D2 := hide ((unhide QWZ).cell (unhide D2) (fun e => e))
      replace D3 := hide ((unhide QWZ).cell (unhide D3) (fun e => e))
      replace D4 := hide ((unhide QWZ).cell (unhide D4) (fun e => e))
      replace D5 := hide ((unhide QWZ).cell (unhide D5) (fun e => e))
      replace D6 := hide ((unhide QWZ).cell (unhide D6) (fun e => e))
      clear Q0 HR0 QZ QWZ APZ FRZ HKZ
      clear HBZ HBBZ INZ
      have D7 := hide ((unhide HBA).cell 6 (.int .i64 2) (by rw [unhide HBBA]; rfl))
      have D8 := hide ((unhide HBA).cell 10 (.int .i64 3) (by rw [unhide HBBA]; rfl))
      have D9 := hide ((unhide HBE).cell 36 (.bool true) (by rw [unhide HBBE]; rfl))
      have D10 := hide ((unhide HBF).cell 36 (.bool false) (by rw [unhide HBBF]; rfl))
      have D11 := hide ((unhide HBF).cell 24 (.int .i64 9) (by rw [unhide HBBF]; rfl))
      clear HBA HBBA INA HBE HBBE INE HBF HBBF INF HSZA HSZE HSZF
      have HKN := hide (known_any wZ)
      refine (unhide HKN).mono ?_
      rintro e wK ⟨rfl, oK⟩
      have OF := hide ((unhide OW).trans oK (fun _ _ e => e))
      have d1 := oK.cell (unhide D1) (fun e => e)
      have d2 := oK.cell (unhide D2) (fun e => e)
      have d3 := oK.cell (unhide D3) (fun e => e)
      have d4 := oK.cell (unhide D4) (fun e => e)
      have d5 := oK.cell (unhide D5) (fun e => e)
      have d6 := oK.cell (unhide D6) (fun e => e)
      have d7 := oK.cell (unhide D7) (fun e => e)
      have d8 := oK.cell (unhide D8) (fun e => e)
      have d9 := oK.cell (unhide D9) (fun e => e)
      have d10 := oK.cell (unhide D10) (fun e => e)
      have d11 := oK.cell (unhide D11) (fun e => e)
      clear oK OW HKN D1 D2 D3 D4 D5 D6 D7 D8 D9 D10 D11
      go_wp2_with fail
      go_ret
      exact ⟨rfl, unhide OF⟩
end Ob
end Go.Proofs.YtadpmninoghcjaaDoor
