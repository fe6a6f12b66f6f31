/-
  locksmithlaw9.ModesMacs.
-/
import Derived.Test.YtdmcnblnoiahcaaMdRMac
namespace Go.Proofs.Ytdmcnblnoiahcaa
open Go.RowKit
set_option linter.unusedSimpArgs false
set_option linter.unusedVariables false
namespace Md
open Ae (zero16 Arr)

def macU (key t : List UInt8) : List UInt8 := if decide (keyB key) then macT key t else []
def macE (key : List UInt8) : Int := if decide (keyB key) then 0 else 1

theorem mac_all (key t : List UInt8) (hl : t.length ≤ 140737488351232) (kv tv : Value) (w : World) (hk : Has w kv key) (ht : Has w tv t) :
    Calls Try.prog 5 #[kv, tv] w fun e w' => ∃ v, e = .returned (.tuple #[v, .int .i64 (macE key)]) ∧ Has w' v (macU key t) ∧ Only (fun _ => False) w w' := by
  by_cases h : keyB key
  · unfold macU macE
    rw [decide_eq_true h, if_pos rfl, if_pos rfl]
    exact (mac_fine key t h hl kv tv w hk ht).mono fun e w' ⟨v, he, ho, hw⟩ => ⟨v, he, Has.ofOwns ho, hw⟩
  · unfold macU macE
    rw [decide_eq_false h]
    exact (mac_not key h kv tv w hk).mono fun e w' ⟨he, ho⟩ => ⟨_, he, Or.inl ⟨rfl, rfl⟩, by rw [ho]; exact Only.refl _ _⟩

theorem rmac_all (key t : List UInt8) (hl : t.length ≤ 140737488351232) (kv tv : Value) (w : World) (hk : Has w kv key) (ht : Has w tv t) :
    Calls Try.prog 11 #[kv, tv] w fun e w' => ∃ v, e = .returned (.tuple #[v, .int .i64 (macE key)]) ∧ Has w' v (macU key t) ∧ Only (fun _ => False) w w' := by
  by_cases h : keyB key
  · unfold macU macE
    rw [decide_eq_true h, if_pos rfl, if_pos rfl]
    exact rmac_fine key t h hl kv tv w hk ht
  · unfold macU macE
    rw [decide_eq_false h]
    exact (rmac_not key h kv tv w hk).mono fun e w' ⟨he, ho⟩ => ⟨_, he, Or.inl ⟨rfl, rfl⟩, by rw [ho]; exact Only.refl _ _⟩

set_option maxRecDepth 100000 in
set_option maxHeartbeats 4000000 in
theorem macs_any (k t box : List UInt8) (hk : k.length = 32) (n long : Int) (tv bw : Value) (w : World) (ht : Has w tv t) (hb : Has w bw box) (hl : t.length ≤ 140737488351232) (h1 : -9223372036854775808 ≤ long) (h2 : long ≤ 9223372036854775807) :
    Calls Try.prog 4 #[.agg (k.map bv).toArray, .int .i64 n, tv, bw, .int .i64 long] w fun e w' => e = .returned (.bool true) ∧ Only (fun _ => False) w w' := by
  have A5 := Arr.new w 29 k _ rfl
  have O5 := (Only.refl (fun _ => False) w).alloc (.cells (k.map bv).toArray 29)
  have HS := hide (some_any k [] t hk n long (.slice none 0 0) tv _ (Or.inl ⟨rfl, rfl⟩) (ht.only O5 (fun _ _ _ e => e)) h1 h2)
  have hr1 := A5.range
  have HO5 := hide O5
  have hts := tS_length t long hl
  have HBX := hide (hb.only O5 (fun _ _ _ e => e))
  clear ht hb O5 A5 h1 h2 hl
  generalize keyS k n = key0 at *
  generalize ivS [] = iw at *
  generalize tS t long = tt at *
  go_enter Try.func4, Try.ntmps4
  go_wp2_with (refine wpList_load_mid rfl 29 (.tmp 5) rfl w.heap.size 0 rfl (k.map bv) _ hr1 Ae.Try.under32 rfl (by rw [Ae.Try.size32]; simp [hk]) ?_)
  refine (unhide HS).mono ?_
  rintro e w1 ⟨ka, ia, ta, rfl, ha, hb, hc, o1⟩
  have HK : Hid (Has w1 ka key0) := ha
  have HB := hide ((unhide HBX).only o1 (fun _ _ _ e => e))
  have HC := hide hc
  have O1 := hide ((unhide HO5).trans o1 (fun _ _ e => e))
  clear ha hb hc o1 HS hr1 HBX HO5
  go_wp2_with fail
  refine (mac_all key0 tt hts ka ta w1 (unhide HK) (unhide HC)).mono ?_
  rintro e w2 ⟨xv, rfl, hx, o2⟩
  have HX := hide hx
  have HK2 := hide ((unhide HK).only o2 (fun _ _ _ e => e))
  have HC2 := hide ((unhide HC).only o2 (fun _ _ _ e => e))
  have HB2 := hide ((unhide HB).only o2 (fun _ _ _ e => e))
  have O2 := hide ((unhide O1).trans o2 (fun _ _ e => e))
  clear hx o2 HK HC HB O1
  go_wp2_with fail
  refine (rmac_all key0 tt hts ka ta w2 (unhide HK2) (unhide HC2)).mono ?_
  rintro e w3 ⟨yv, rfl, hy, o3⟩
  have HY := hide hy
  have HX3 := hide ((unhide HX).only o3 (fun _ _ _ e => e))
  have HC3 := hide ((unhide HC2).only o3 (fun _ _ _ e => e))
  have HB3 := hide ((unhide HB2).only o3 (fun _ _ _ e => e))
  have O3 := hide ((unhide O2).trans o3 (fun _ _ e => e))
  clear hy o3 HK2 HC2 HB2 O2 HX
  go_wp2_with fail
  refine (mac_all box tt hts bw ta w3 (unhide HB3) (unhide HC3)).mono ?_
  rintro e w4 ⟨uv, rfl, hu, o4⟩
  have HU := hide hu
  have HX4 := hide ((unhide HX3).only o4 (fun _ _ _ e => e))
  have HY4 := hide ((unhide HY).only o4 (fun _ _ _ e => e))
  have HC4 := hide ((unhide HC3).only o4 (fun _ _ _ e => e))
  have HB4 := hide ((unhide HB3).only o4 (fun _ _ _ e => e))
  have O4 := hide ((unhide O3).trans o4 (fun _ _ e => e))
  clear hu o4 HC3 HB3 O3 HX3 HY
  go_wp2_with fail
  refine (rmac_all box tt hts bw ta w4 (unhide HB4) (unhide HC4)).mono ?_
  rintro e w5 ⟨vv, rfl, hv, o5⟩
  have HV := hide hv
  have HX5 := hide ((unhide HX4).only o5 (fun _ _ _ e => e))
  have HY5 := hide ((unhide HY4).only o5 (fun _ _ _ e => e))
  have HU5 := hide ((unhide HU).only o5 (fun _ _ _ e => e))
  have O5 := hide ((unhide O4).trans o5 (fun _ _ e => e))
  clear hv o5 HC4 HB4 O4 HX4 HY4 HU
  generalize macU key0 tt = m1 at *
  generalize macU box tt = m2 at *
  generalize macE key0 = e1 at *
  generalize macE box = e2 at *
  go_wp2_with fail
  refine (known_any _).mono ?_
  rintro e w7 ⟨rfl, o7⟩
  have q1 := str_conv ((unhide HX5).only o7 (fun _ _ _ e => e))
  have q2 := str_conv ((unhide HY5).only o7 (fun _ _ _ e => e))
  have q3 := str_conv ((unhide HU5).only o7 (fun _ _ _ e => e))
  have q4 := str_conv ((unhide HV).only o7 (fun _ _ _ e => e))
  have O7 := hide ((unhide O5).trans o7 (fun _ _ e => e))
  clear o7
  generalize str m1 = S1 at *
  generalize str m2 = S2 at *
  go_wp2
  go_ret
  exact ⟨rfl, unhide O7⟩
end Md
end Go.Proofs.Ytdmcnblnoiahcaa
