/-
  locksmithlaw9.ModesSeals.
-/
import Derived.Test.YtbhidmeobeecmaaMdD
import Derived.Test.YtbhidmeobeecmaaMdBack
namespace Go.Proofs.Ytbhidmeobeecmaa
open Go.RowKit
set_option linter.unusedSimpArgs false
set_option linter.unusedVariables false
namespace Md
open Ae (zero16 Arr)

set_option maxRecDepth 100000 in
set_option maxHeartbeats 2000000 in
theorem ropenM_not (key iv : List UInt8) (h : ¬ (keyB key ∧ iv.length = 16)) (kv vv tv : Value) (w : World) (hk : Has w kv key) (hv : Has w vv iv) :
    Calls Try.prog 21 #[kv, vv, tv] w fun e w' => e = .returned (.tuple #[.slice none 0 0, .int .i64 1]) ∧ Only (fun _ => False) w w' := by
  by_cases hkb : keyB key
  · obtain ⟨ia, ic, rfl, _⟩ := hv.shape
    have hi : iv.length ≠ 16 := fun e => h ⟨hkb, e⟩
    have h16 : ((iv.length : Int) == 16) = false := by simp; omega
    have g16 : ((iv.length : Int) != 16) = true := by simp; omega
    have HN := hide (rnew_fine key hkb kv w hk)
    clear hk hv h hi
    generalize iv.length = il at *
    go_enter Try.func21, Try.ntmps21
    go_wp2_with fail
    refine (unhide HN).mono ?_
    rintro e w1 ⟨cb, rfl, hc, o1⟩
    have O1 := hide o1
    clear hc o1
    go_wp2
    go_ret2
    exact ⟨rfl, unhide O1⟩
  · have HN := hide (rnew_not key hkb kv w hk)
    clear hk hv h
    go_enter Try.func21, Try.ntmps21
    go_wp2_with fail
    refine (unhide HN).mono ?_
    rintro e w1 ⟨rfl, hw⟩
    rw [hw]
    clear hw w1
    go_wp2
    go_ret2
    exact ⟨rfl, Only.refl _ _⟩

def okK (key iv : List UInt8) : Bool := decide (keyB key) && decide (iv.length = 16)
theorem okK_iff (key iv : List UInt8) : okK key iv = true ↔ keyB key ∧ iv.length = 16 := by unfold okK; simp
def sealU (key iv t : List UInt8) : List UInt8 := if okK key iv then boxT key iv t else []
def sealE (key iv : List UInt8) : Int := if okK key iv then 0 else 1
def openU' (key iv b : List UInt8) : List UInt8 := if okK key iv then openU key iv b else []
def openE' (key iv b : List UInt8) : Int := if okK key iv then openE key iv b else 1
theorem sealU_length (key iv t : List UInt8) (hl : t.length ≤ 140737488351232) : (sealU key iv t).length ≤ 140737488355328 := by
  unfold sealU
  split
  · rename_i h
    have hh := (okK_iff key iv).1 h
    rw [boxT_length key iv t hh.1 hh.2]
    unfold mT
    omega
  · simp

theorem seal_all (key iv t : List UInt8) (hl : t.length ≤ 140737488351232) (kv vv tv : Value) (w : World) (hk : Has w kv key) (hv : Has w vv iv) (ht : Has w tv t) :
    Calls Try.prog 10 #[kv, vv, tv] w fun e w' => ∃ v, e = .returned (.tuple #[v, .int .i64 (sealE key iv)]) ∧ Has w' v (sealU key iv t) ∧ Only (fun _ => False) w w' := by
  by_cases h : okK key iv = true
  · have hh := (okK_iff key iv).1 h
    unfold sealU sealE
    rw [h, if_pos rfl, if_pos rfl]
    exact (sealM_fine key iv t hh.1 hh.2 hl kv vv tv w hk hv ht).mono fun e w' ⟨v, he, ho, hw⟩ => ⟨v, he, Has.ofOwns ho, hw⟩
  · have hh : ¬ (keyB key ∧ iv.length = 16) := fun e => h ((okK_iff key iv).2 e)
    rw [Bool.not_eq_true] at h
    unfold sealU sealE
    rw [h]
    exact (sealM_not key iv hh kv vv tv w hk hv).mono fun e w' ⟨he, ho⟩ => ⟨_, he, Or.inl ⟨rfl, rfl⟩, ho⟩

theorem rseal_all (key iv t : List UInt8) (hl : t.length ≤ 140737488351232) (kv vv tv : Value) (w : World) (hk : Has w kv key) (hv : Has w vv iv) (ht : Has w tv t) :
    Calls Try.prog 20 #[kv, vv, tv] w fun e w' => ∃ v, e = .returned (.tuple #[v, .int .i64 (sealE key iv)]) ∧ Has w' v (sealU key iv t) ∧ Only (fun _ => False) w w' := by
  by_cases h : okK key iv = true
  · have hh := (okK_iff key iv).1 h
    unfold sealU sealE
    rw [h, if_pos rfl, if_pos rfl]
    exact (rsealM_fine key iv t hh.1 hh.2 hl kv vv tv w hk hv ht).mono fun e w' ⟨v, he, ho, hw⟩ => ⟨v, he, Has.ofOwns ho, hw⟩
  · have hh : ¬ (keyB key ∧ iv.length = 16) := fun e => h ((okK_iff key iv).2 e)
    rw [Bool.not_eq_true] at h
    unfold sealU sealE
    rw [h]
    exact (rsealM_not key iv hh kv vv tv w hk hv).mono fun e w' ⟨he, ho⟩ => ⟨_, he, Or.inl ⟨rfl, rfl⟩, ho⟩

theorem open_all (key iv t : List UInt8) (hl : t.length ≤ 140737488355328) (kv vv tv : Value) (w : World) (hk : Has w kv key) (hv : Has w vv iv) (ht : Has w tv t) :
    Calls Try.prog 11 #[kv, vv, tv] w fun e w' => ∃ v, e = .returned (.tuple #[v, .int .i64 (openE' key iv t)]) ∧ Has w' v (openU' key iv t) ∧ Only (fun _ => False) w w' := by
  by_cases h : okK key iv = true
  · have hh := (okK_iff key iv).1 h
    unfold openU' openE'
    rw [h, if_pos rfl, if_pos rfl]
    exact openM_fine key iv t hh.1 hh.2 hl kv vv tv w hk hv ht
  · have hh : ¬ (keyB key ∧ iv.length = 16) := fun e => h ((okK_iff key iv).2 e)
    rw [Bool.not_eq_true] at h
    unfold openU' openE'
    rw [h]
    exact (openM_not key iv hh kv vv tv w hk hv).mono fun e w' ⟨he, ho⟩ => ⟨_, he, Or.inl ⟨rfl, rfl⟩, ho⟩

theorem ropen_all (key iv t : List UInt8) (hl : t.length ≤ 140737488355328) (kv vv tv : Value) (w : World) (hk : Has w kv key) (hv : Has w vv iv) (ht : Has w tv t) :
    Calls Try.prog 21 #[kv, vv, tv] w fun e w' => ∃ v, e = .returned (.tuple #[v, .int .i64 (openE' key iv t)]) ∧ Has w' v (openU' key iv t) ∧ Only (fun _ => False) w w' := by
  by_cases h : okK key iv = true
  · have hh := (okK_iff key iv).1 h
    unfold openU' openE'
    rw [h, if_pos rfl, if_pos rfl]
    exact ropenM_fine key iv t hh.1 hh.2 hl kv vv tv w hk hv ht
  · have hh : ¬ (keyB key ∧ iv.length = 16) := fun e => h ((okK_iff key iv).2 e)
    rw [Bool.not_eq_true] at h
    unfold openU' openE'
    rw [h]
    exact (ropenM_not key iv hh kv vv tv w hk hv).mono fun e w' ⟨he, ho⟩ => ⟨_, he, Or.inl ⟨rfl, rfl⟩, ho⟩

set_option maxRecDepth 100000 in
set_option maxHeartbeats 4000000 in
theorem seals_any (k iv t box : List UInt8) (hk : k.length = 32) (n long : Int) (odd : Bool) (vv tv bw : Value) (w : World) (hv : Has w vv iv) (ht : Has w tv t) (hb : Has w bw box) (hl : t.length ≤ 140737488351232) (hlb : box.length ≤ 140737488351232) (h1 : -9223372036854775808 ≤ long) (h2 : long ≤ 9223372036854775807) :
    Calls Try.prog 5 #[.agg (k.map bv).toArray, .int .i64 n, vv, tv, bw, .int .i64 long, .bool odd] w fun e w' => e = .returned (.bool true) ∧ Only (fun _ => False) w w' := by
  have A5 := Arr.new w 32 k _ rfl
  have O5 := (Only.refl (fun _ => False) w).alloc (.cells (k.map bv).toArray 32)
  have HS := hide (some_any k iv t hk n long vv tv _ (hv.only O5 (fun _ _ _ e => e)) (ht.only O5 (fun _ _ _ e => e)) h1 h2)
  have hr1 := A5.range
  have HO5 := hide O5
  have hts := tS_length t long hl
  have HIV := hide (hv.only O5 (fun _ _ _ e => e))
  have HBX := hide (hb.only O5 (fun _ _ _ e => e))
  clear hv ht hb O5 A5 h1 h2 hl
  generalize keyS k n = key0 at *
  generalize ivS iv = iw at *
  generalize tS t long = tt at *
  obtain ⟨d, hd⟩ : ∃ d, n.tmod 2 = d := ⟨_, rfl⟩
  cases odd
  case false =>
    go_enter Try.func5, Try.ntmps5
    go_wp2_with (refine wpList_load_mid rfl 32 (.tmp 7) rfl w.heap.size 0 rfl (k.map bv) _ hr1 Ae.Try.under32 rfl (by rw [Ae.Try.size32]; simp [hk]) ?_)
    refine (unhide HS).mono ?_
    rintro e w1 ⟨ka, ia, ta, rfl, ha, hb, hc, o1⟩
    obtain ⟨ca, cc, hcs, _⟩ := hc.shape
    subst hcs
    have HK : Hid (Has w1 ka key0) := ha
    have HV : Hid (Has w1 ia iw) := hb
    have HB := hide ((unhide HBX).only o1 (fun _ _ _ e => e))
    have HC := hide hc
    have O1 := hide ((unhide HO5).trans o1 (fun _ _ e => e))
    have HFW := hide (few_any _ tt tt.length w1 hc (Or.inl (by omega)))
    clear ha hb hc o1 HS hr1 HIV HBX
    go_wp2_with fail
    refine (unhide HFW).mono ?_
    rintro e w2 ⟨ov, rfl, ho, o2⟩
    rw [List.take_of_length_le (Nat.le_refl _)] at ho
    have HOV := hide (Has.ofOwns ho)
    have O12 := hide o2
    have HK2 := hide ((unhide HK).only o2 (fun _ _ _ e => e))
    have HV2 := hide ((unhide HV).only o2 (fun _ _ _ e => e))
    have HC2 := hide ((unhide HC).only o2 (fun _ _ _ e => e))
    have HB2 := hide ((unhide HB).only o2 (fun _ _ _ e => e))
    have O2 := hide ((unhide O1).trans o2 (fun _ _ e => e))
    clear ho o2 HK HV HC HB O1 HFW
    go_wp2_with fail
    refine (seal_all key0 iw tt hts ka ia ov w2 (unhide HK2) (unhide HV2) (unhide HOV)).mono ?_
    rintro e w3 ⟨xv, rfl, hx, o3⟩
    have HX := hide hx
    have HK3 := hide ((unhide HK2).only o3 (fun _ _ _ e => e))
    have HV3 := hide ((unhide HV2).only o3 (fun _ _ _ e => e))
    have HC3 := hide ((unhide HC2).only o3 (fun _ _ _ e => e))
    have HB3 := hide ((unhide HB2).only o3 (fun _ _ _ e => e))
    have HOV3 := hide ((unhide HOV).only o3 (fun _ _ _ e => e))
    have O3 := hide ((unhide O2).trans o3 (fun _ _ e => e))
    clear hx o3 HK2 HV2 HC2 HB2 HOV O2 O12
    go_wp2_with fail
    refine (rseal_all key0 iw tt hts ka ia _ w3 (unhide HK3) (unhide HV3) (unhide HC3)).mono ?_
    rintro e w4 ⟨yv, rfl, hy, o4⟩
    have HY := hide hy
    have HX4 := hide ((unhide HX).only o4 (fun _ _ _ e => e))
    have HK4 := hide ((unhide HK3).only o4 (fun _ _ _ e => e))
    have HV4 := hide ((unhide HV3).only o4 (fun _ _ _ e => e))
    have HC4 := hide ((unhide HC3).only o4 (fun _ _ _ e => e))
    have HB4 := hide ((unhide HB3).only o4 (fun _ _ _ e => e))
    have HOV4 := hide ((unhide HOV3).only o4 (fun _ _ _ e => e))
    have O4 := hide ((unhide O3).trans o4 (fun _ _ e => e))
    have hul := sealU_length key0 iw tt hts
    clear hy o4 HK3 HV3 HC3 HB3 HOV3 O3 HX
    generalize sealU key0 iw tt = su at *
    generalize sealE key0 iw = se at *
    by_cases hd0 : d = 0
    · have hdb : (d == 0) = true := by simpa using hd0
      clear hd0
      go_wp2_with fail
      refine (open_all key0 iw su hul ka ia yv w4 (unhide HK4) (unhide HV4) (unhide HY)).mono ?_
      rintro e w5 ⟨pv, rfl, hp, o5⟩
      have HP := hide hp
      have O45 := hide o5
      clear hp o5
      go_wp2_with fail
      refine (ropen_all key0 iw su hul ka ia yv w5 ((unhide HK4).only (unhide O45) (fun _ _ _ e => e)) ((unhide HV4).only (unhide O45) (fun _ _ _ e => e)) ((unhide HY).only (unhide O45) (fun _ _ _ e => e))).mono ?_
      rintro e w6 ⟨qv, rfl, hq, o6⟩
      have HQ := hide hq
      have O46 := hide ((unhide O45).trans o6 (fun _ _ e => e))
      have HP6 := hide ((unhide HP).only o6 (fun _ _ _ e => e))
      clear hq o6 HP O45
      generalize openU' key0 iw su = ou at *
      generalize openE' key0 iw su = oe at *
      go_wp2_with fail
      refine (known_any _).mono ?_
      rintro e w7 ⟨rfl, o7⟩
      have O47 : Only (fun _ => False) w4 w7 := (unhide O46).trans o7 (fun _ _ e => e)
      have q1 := str_conv ((unhide HX4).only O47 (fun _ _ _ e => e))
      have q2 := str_conv ((unhide HY).only O47 (fun _ _ _ e => e))
      have q3 := str_conv ((unhide HOV4).only O47 (fun _ _ _ e => e))
      have q4 := str_conv ((unhide HC4).only O47 (fun _ _ _ e => e))
      have q5 := str_conv ((unhide HP6).only o7 (fun _ _ _ e => e))
      have q6 := str_conv ((unhide HQ).only o7 (fun _ _ _ e => e))
      have O7 := hide ((unhide O4).trans O47 (fun _ _ e => e))
      clear o7 O47
      generalize str su = S1 at *
      generalize str tt = S2 at *
      generalize str ou = S3 at *
      go_wp2
      go_ret
      exact ⟨rfl, unhide O7⟩
    · have hdb : (d == 0) = false := by simpa using hd0
      clear hd0
      go_wp2_with fail
      refine (open_all key0 iw box (by omega) ka ia bw w4 (unhide HK4) (unhide HV4) (unhide HB4)).mono ?_
      rintro e w5 ⟨pv, rfl, hp, o5⟩
      have HP := hide hp
      have O45 := hide o5
      clear hp o5
      go_wp2_with fail
      refine (ropen_all key0 iw box (by omega) ka ia bw w5 ((unhide HK4).only (unhide O45) (fun _ _ _ e => e)) ((unhide HV4).only (unhide O45) (fun _ _ _ e => e)) ((unhide HB4).only (unhide O45) (fun _ _ _ e => e))).mono ?_
      rintro e w6 ⟨qv, rfl, hq, o6⟩
      have HQ := hide hq
      have O46 := hide ((unhide O45).trans o6 (fun _ _ e => e))
      have HP6 := hide ((unhide HP).only o6 (fun _ _ _ e => e))
      clear hq o6 HP O45
      generalize openU' key0 iw box = ou at *
      generalize openE' key0 iw box = oe at *
      go_wp2_with fail
      refine (known_any _).mono ?_
      rintro e w7 ⟨rfl, o7⟩
      have O47 : Only (fun _ => False) w4 w7 := (unhide O46).trans o7 (fun _ _ e => e)
      have q1 := str_conv ((unhide HX4).only O47 (fun _ _ _ e => e))
      have q2 := str_conv ((unhide HY).only O47 (fun _ _ _ e => e))
      have q3 := str_conv ((unhide HOV4).only O47 (fun _ _ _ e => e))
      have q4 := str_conv ((unhide HC4).only O47 (fun _ _ _ e => e))
      have q5 := str_conv ((unhide HP6).only o7 (fun _ _ _ e => e))
      have q6 := str_conv ((unhide HQ).only o7 (fun _ _ _ e => e))
      have O7 := hide ((unhide O4).trans O47 (fun _ _ e => e))
      clear o7 O47
      generalize str su = S1 at *
      generalize str tt = S2 at *
      generalize str ou = S3 at *
      go_wp2
      go_ret
      exact ⟨rfl, unhide O7⟩
  case true =>
    go_enter Try.func5, Try.ntmps5
    go_wp2_with (refine wpList_load_mid rfl 32 (.tmp 7) rfl w.heap.size 0 rfl (k.map bv) _ hr1 Ae.Try.under32 rfl (by rw [Ae.Try.size32]; simp [hk]) ?_)
    refine (unhide HS).mono ?_
    rintro e w1 ⟨ka, ia, ta, rfl, ha, hb, hc, o1⟩
    obtain ⟨ca, cc, hcs, _⟩ := hc.shape
    subst hcs
    have HK : Hid (Has w1 bw box) := (unhide HBX).only o1 (fun _ _ _ e => e)
    have HV : Hid (Has w1 vv iv) := (unhide HIV).only o1 (fun _ _ _ e => e)
    have HB := hide ((unhide HBX).only o1 (fun _ _ _ e => e))
    have HC := hide hc
    have O1 := hide ((unhide HO5).trans o1 (fun _ _ e => e))
    have HFW := hide (few_any _ tt tt.length w1 hc (Or.inl (by omega)))
    clear ha hb hc o1 HS hr1 HIV HBX
    go_wp2_with fail
    refine (unhide HFW).mono ?_
    rintro e w2 ⟨ov, rfl, ho, o2⟩
    rw [List.take_of_length_le (Nat.le_refl _)] at ho
    have HOV := hide (Has.ofOwns ho)
    have O12 := hide o2
    have HK2 := hide ((unhide HK).only o2 (fun _ _ _ e => e))
    have HV2 := hide ((unhide HV).only o2 (fun _ _ _ e => e))
    have HC2 := hide ((unhide HC).only o2 (fun _ _ _ e => e))
    have HB2 := hide ((unhide HB).only o2 (fun _ _ _ e => e))
    have O2 := hide ((unhide O1).trans o2 (fun _ _ e => e))
    clear ho o2 HK HV HC HB O1 HFW
    go_wp2_with fail
    refine (seal_all box iv tt hts bw vv ov w2 (unhide HK2) (unhide HV2) (unhide HOV)).mono ?_
    rintro e w3 ⟨xv, rfl, hx, o3⟩
    have HX := hide hx
    have HK3 := hide ((unhide HK2).only o3 (fun _ _ _ e => e))
    have HV3 := hide ((unhide HV2).only o3 (fun _ _ _ e => e))
    have HC3 := hide ((unhide HC2).only o3 (fun _ _ _ e => e))
    have HB3 := hide ((unhide HB2).only o3 (fun _ _ _ e => e))
    have HOV3 := hide ((unhide HOV).only o3 (fun _ _ _ e => e))
    have O3 := hide ((unhide O2).trans o3 (fun _ _ e => e))
    clear hx o3 HK2 HV2 HC2 HB2 HOV O2 O12
    go_wp2_with fail
    refine (rseal_all box iv tt hts bw vv _ w3 (unhide HK3) (unhide HV3) (unhide HC3)).mono ?_
    rintro e w4 ⟨yv, rfl, hy, o4⟩
    have HY := hide hy
    have HX4 := hide ((unhide HX).only o4 (fun _ _ _ e => e))
    have HK4 := hide ((unhide HK3).only o4 (fun _ _ _ e => e))
    have HV4 := hide ((unhide HV3).only o4 (fun _ _ _ e => e))
    have HC4 := hide ((unhide HC3).only o4 (fun _ _ _ e => e))
    have HB4 := hide ((unhide HB3).only o4 (fun _ _ _ e => e))
    have HOV4 := hide ((unhide HOV3).only o4 (fun _ _ _ e => e))
    have O4 := hide ((unhide O3).trans o4 (fun _ _ e => e))
    have hul := sealU_length box iv tt hts
    clear hy o4 HK3 HV3 HC3 HB3 HOV3 O3 HX
    generalize sealU box iv tt = su at *
    generalize sealE box iv = se at *
    by_cases hd0 : d = 0
    · have hdb : (d == 0) = true := by simpa using hd0
      clear hd0
      go_wp2_with fail
      refine (open_all box iv su hul bw vv yv w4 (unhide HK4) (unhide HV4) (unhide HY)).mono ?_
      rintro e w5 ⟨pv, rfl, hp, o5⟩
      have HP := hide hp
      have O45 := hide o5
      clear hp o5
      go_wp2_with fail
      refine (ropen_all box iv su hul bw vv yv w5 ((unhide HK4).only (unhide O45) (fun _ _ _ e => e)) ((unhide HV4).only (unhide O45) (fun _ _ _ e => e)) ((unhide HY).only (unhide O45) (fun _ _ _ e => e))).mono ?_
      rintro e w6 ⟨qv, rfl, hq, o6⟩
      have HQ := hide hq
      have O46 := hide ((unhide O45).trans o6 (fun _ _ e => e))
      have HP6 := hide ((unhide HP).only o6 (fun _ _ _ e => e))
      clear hq o6 HP O45
      generalize openU' box iv su = ou at *
      generalize openE' box iv su = oe at *
      go_wp2_with fail
      refine (known_any _).mono ?_
      rintro e w7 ⟨rfl, o7⟩
      have O47 : Only (fun _ => False) w4 w7 := (unhide O46).trans o7 (fun _ _ e => e)
      have q1 := str_conv ((unhide HX4).only O47 (fun _ _ _ e => e))
      have q2 := str_conv ((unhide HY).only O47 (fun _ _ _ e => e))
      have q3 := str_conv ((unhide HOV4).only O47 (fun _ _ _ e => e))
      have q4 := str_conv ((unhide HC4).only O47 (fun _ _ _ e => e))
      have q5 := str_conv ((unhide HP6).only o7 (fun _ _ _ e => e))
      have q6 := str_conv ((unhide HQ).only o7 (fun _ _ _ e => e))
      have O7 := hide ((unhide O4).trans O47 (fun _ _ e => e))
      clear o7 O47
      generalize str su = S1 at *
      generalize str tt = S2 at *
      generalize str ou = S3 at *
      go_wp2
      go_ret
      exact ⟨rfl, unhide O7⟩
    · have hdb : (d == 0) = false := by simpa using hd0
      clear hd0
      go_wp2_with fail
      refine (open_all box iv box (by omega) bw vv bw w4 (unhide HK4) (unhide HV4) (unhide HB4)).mono ?_
      rintro e w5 ⟨pv, rfl, hp, o5⟩
      have HP := hide hp
      have O45 := hide o5
      clear hp o5
      go_wp2_with fail
      refine (ropen_all box iv box (by omega) bw vv bw w5 ((unhide HK4).only (unhide O45) (fun _ _ _ e => e)) ((unhide HV4).only (unhide O45) (fun _ _ _ e => e)) ((unhide HB4).only (unhide O45) (fun _ _ _ e => e))).mono ?_
      rintro e w6 ⟨qv, rfl, hq, o6⟩
      have HQ := hide hq
      have O46 := hide ((unhide O45).trans o6 (fun _ _ e => e))
      have HP6 := hide ((unhide HP).only o6 (fun _ _ _ e => e))
      clear hq o6 HP O45
      generalize openU' box iv box = ou at *
      generalize openE' box iv box = oe at *
      go_wp2_with fail
      refine (known_any _).mono ?_
      rintro e w7 ⟨rfl, o7⟩
      have O47 : Only (fun _ => False) w4 w7 := (unhide O46).trans o7 (fun _ _ e => e)
      have q1 := str_conv ((unhide HX4).only O47 (fun _ _ _ e => e))
      have q2 := str_conv ((unhide HY).only O47 (fun _ _ _ e => e))
      have q3 := str_conv ((unhide HOV4).only O47 (fun _ _ _ e => e))
      have q4 := str_conv ((unhide HC4).only O47 (fun _ _ _ e => e))
      have q5 := str_conv ((unhide HP6).only o7 (fun _ _ _ e => e))
      have q6 := str_conv ((unhide HQ).only o7 (fun _ _ _ e => e))
      have O7 := hide ((unhide O4).trans O47 (fun _ _ e => e))
      clear o7 O47
      generalize str su = S1 at *
      generalize str tt = S2 at *
      generalize str ou = S3 at *
      go_wp2
      go_ret
      exact ⟨rfl, unhide O7⟩

end Md
end Go.Proofs.Ytbhidmeobeecmaa
