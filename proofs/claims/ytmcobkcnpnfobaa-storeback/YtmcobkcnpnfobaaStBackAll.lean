/-
  locksmithlaw5's same, where both are the same changes.
  StoreBack: changes that may be are read back from their bytes.
-/
import Derived.Test.YtmcobkcnpnfobaaStText
import Derived.Test.YtmcobkcnpnfobaaStr
import Derived.Test.YtmcobkcnpnfobaaWalAt
import Derived.Deep.QuietTactic
import Derived.BigQuiet
import Derived.Test.YtmcobkcnpnfobaaStKnown
import Derived.Test.YtmcobkcnpnfobaaStList
import Derived.Test.YtmcobkcnpnfobaaStKeepAll
namespace Go.Proofs.Ytmcobkcnpnfobaa
open Go.RowKit
set_option linter.unusedSimpArgs false
set_option linter.unusedVariables false

namespace St

set_option maxHeartbeats 2000000 in
set_option maxRecDepth 100000 in
theorem same_any {Q R : Nat → Prop} {w : World} {av bv : Value} {cs : List Chg} (ha : HasC Q w av cs) (hb : HasC R w bv cs) (hcs : cs.length ≤ 140737488355328) :
    Calls Try.prog 24 #[av, bv] w fun e w' => e = .returned (.bool true) ∧ Only (fun _ => False) w w' := by
  have HA := hide ha
  have HB := hide hb
  obtain ⟨ao, ac, hav, hal, ham⟩ := ha.shape
  obtain ⟨bo, bc, hbv, hbl, hbm⟩ := hb.shape
  subst hav
  subst hbv
  clear ha hb
  obtain ⟨n, hn⟩ : ∃ n, n = cs.length := ⟨_, rfl⟩
  have HN := hide hn
  rw [← hn] at HA HB hal hbl hcs ⊢
  clear hn
  go_enter Try.func24, Try.ntmps24
  go_wp2
  go_loopw [5] (fun i wr => ∃ k : Nat, k ≤ n ∧ i = .int .i64 k ∧ Only (fun _ => False) w wr) (fun i _ => n - (intOf i).toNat)
  case atStart => exact ⟨0, Nat.zero_le _, rfl, Only.refl _ _⟩
  case round =>
    obtain ⟨k, hk, rfl, ho⟩ := hrel
    have HO := hide ho
    clear ho
    by_cases hlt : k < n
    · have hku : k < cs.length := by have := unhide HN; omega
      have hlt' : (k : Int) < n := by omega
      obtain ⟨ab, aoff, x, hao, a0, a1, a2, hxh, _⟩ := ((unhide HA).same (unhide HO)).at k hku
      obtain ⟨bb, boff, y, hbo, b0, b1, b2, hyh, _⟩ := ((unhide HB).same (unhide HO)).at k hku
      subst hao
      subst hbo
      have hcx : ∀ q, (convert 30 9 x).run Try.prog (wr.drewN q) = .ok (.string (str cs[k].value)) (wr.drewN q) := fun q => str_conv (hxh.only (Only.drews q) (fun _ _ _ e => e))
      have hcy : ∀ q, (convert 30 9 y).run Try.prog (wr.drewN q) = .ok (.string (str cs[k].value)) (wr.drewN q) := fun q => str_conv (hyh.only (Only.drews q) (fun _ _ _ e => e))
      obtain ⟨xo, xc, hxs, _⟩ := hxh.shape
      obtain ⟨yo, yc, hys, _⟩ := hyh.shape
      generalize cs[k].key = key at *
      generalize cs[k].has = has at *
      generalize cs[k].value = val at *
      subst hxs
      subst hys
      clear hxh hyh
      go_wp2
      go_quiet (fail)
      go_wp2
      go_roundw
      case rel => exact ⟨k + 1, by omega, by go_num, (unhide HO).trans (Only.drews _) (fun _ _ e => e)⟩
      case measure => simp [intOf]; omega
    · obtain rfl : n = k := by omega
      go_wp2
      go_ret
      exact ⟨rfl, unhide HO⟩
end St
end Go.Proofs.Ytmcobkcnpnfobaa

namespace Go.Proofs.Ytmcobkcnpnfobaa
open Go.RowKit
set_option linter.unusedSimpArgs false
set_option linter.unusedVariables false

namespace St

set_option maxHeartbeats 4000000 in
set_option maxRecDepth 100000 in
theorem storeBack_any (lv bv : Value) (m : Nat) (X : Nat → RawV) (us : List UInt8) (w : World) (hl : Raws w lv m X) (hb : Has w bv us) (hu : us.length ≤ 140737488355328) :
    Calls Try.prog 6 #[lv, bv] w fun e w' => e = .returned (.bool true) ∧ Only (fun _ => False) w w' := by
  have HLI := hide (list_any hl 20 (by decide))
  have HB := hide hb
  obtain ⟨bo, bc, hbs, _⟩ := hb.shape
  obtain ⟨lo, lc, hls, _⟩ := hl.shape
  subst hbs
  subst hls
  clear hb hl
  have HREST : Hid (∀ (w1 : World), Only (fun _ => False) w w1 → Calls Try.prog 15 #[.slice bo us.length bc] w1 fun e w2 => ReadAs w1 w2 e (readChanges us) ∧ Only (fun _ => False) w1 w2) := fun w1 o =>
    readChanges_any _ us w1 ((unhide HB).only o (fun _ _ _ e => e)) hu
  go_enter Try.func6, Try.ntmps6
  go_wp2_with fail
  refine (unhide HLI).mono ?_
  rintro e w1 ⟨uv, cs, rfl, hrow, hcl, hok, o1⟩
  have hhas := hrow.hasC (fun k hk => hk)
  have HH := hide hhas
  have HO1 := hide o1
  have HLA := hide (layChanges_any uv cs w1 hhas (by omega))
  obtain ⟨uo, uc, hus, _⟩ := hhas.shape
  subst hus
  clear hrow hok hhas o1
  go_wp2_with fail
  refine (unhide HLA).mono ?_
  rintro e w2 ⟨hla, o2⟩
  have HO2 := hide ((unhide HO1).trans o2 (fun _ _ e => e))
  have HH2 := hide ((unhide HH).same o2)
  clear HLA
  rcases hlc : layChanges cs with _ | b
  · rw [hlc] at hla
    have he : e = .returned (.tuple #[.slice none 0 0, .int .i64 1]) := hla
    subst he
    clear hla o2 hlc
    go_wp2_with fail
    refine (unhide HREST _ (unhide HO2)).mono ?_
    rintro e w4 ⟨hra, o4⟩
    have HO4 := hide ((unhide HO2).trans o4 (fun _ _ e => e))
    rcases hrc : readChanges us with _ | l
    · rw [hrc] at hra
      have he : e = .returned (.tuple #[.slice none 0 0, .int .i64 5]) := hra
      subst he
      clear hra o4 hrc
      go_wp2_with fail
      refine (known_any w4).mono ?_
      rintro e w5 ⟨rfl, o5⟩
      have HO5 := hide ((unhide HO4).trans o5 (fun _ _ e => e))
      clear o5
      go_wp2_with fail
      refine (known_any w5).mono ?_
      rintro e w6 ⟨rfl, o6⟩
      have HO6 := hide ((unhide HO5).trans o6 (fun _ _ e => e))
      clear o6
      go_wp2
      go_ret
      exact ⟨rfl, unhide HO6⟩
    · rw [hrc] at hra
      obtain ⟨dv, he, hrow4⟩ := (hra : ∃ v, e = .returned (.tuple #[v, .int .i64 0]) ∧ RowC _ _ w4 v l)
      subst he
      have HLY := hide (lay_read hrc)
      have hll := (lay_parts (lay_read hrc)).1
      have hD := hrow4.hasC (fun k hk => hk)
      have HD := hide hD
      obtain ⟨do', dc, hds, _⟩ := hD.shape
      subst hds
      clear o4 hrc hrow4 hD
      go_wp2_with fail
      refine (known_any w4).mono ?_
      rintro e w5 ⟨rfl, o5⟩
      have HO5 := hide ((unhide HO4).trans o5 (fun _ _ e => e))
      have HD5 := hide ((unhide HD).same o5)
      clear o5
      go_wp2_with fail
      refine (layChanges_any _ l w5 (unhide HD5) (by omega)).mono ?_
      rintro e w6 ⟨hla6, o6⟩
      rw [unhide HLY] at hla6
      obtain ⟨yv, he, hown⟩ := (hla6 : ∃ u, e = .returned (.tuple #[u, .int .i64 0]) ∧ Owns w5.heap.size w6 u us)
      subst he
      have HO6 := hide ((unhide HO5).trans o6 (fun _ _ e => e))
      have hY := Has.ofOwns hown.out
      have hcy := str_conv hY
      have hcb := str_conv ((unhide HB).only (unhide HO6) (fun _ _ _ e => e))
      obtain ⟨yo, yc, hys, _⟩ := hY.shape
      subst hys
      clear o6 hown hY
      go_wp2
      go_ret
      exact ⟨by simp, unhide HO6⟩
  · rw [hlc] at hla
    obtain ⟨xv, he, hown⟩ := (hla : ∃ u, e = .returned (.tuple #[u, .int .i64 0]) ∧ Owns w1.heap.size w2 u b)
    subst he
    have hX := Has.ofOwns hown.out
    have HX := hide hX
    have hbl := (lay_parts hlc).2.2
    have HRL := hide (read_lay hlc)
    have HRC := hide (readChanges_any xv b w2 hX (by omega))
    obtain ⟨xo, xc, hxs, _⟩ := hX.shape
    subst hxs
    clear o2 hlc hown hX
    go_wp2_with fail
    refine (unhide HRC).mono ?_
    rintro e w3 ⟨hra, o3⟩
    rw [unhide HRL] at hra
    obtain ⟨dv, he, hrow3⟩ := (hra : ∃ v, e = .returned (.tuple #[v, .int .i64 0]) ∧ RowC _ _ w3 v cs)
    subst he
    have hD := hrow3.hasC (fun k hk => hk)
    have HS := hide (same_any ((unhide HH2).same o3) hD (by omega))
    have HO3 := hide ((unhide HO2).trans o3 (fun _ _ e => e))
    obtain ⟨do3, dc3, hds, _⟩ := hD.shape
    subst hds
    clear o3 hrow3 hD HRC HRL
    go_wp2_with fail
    refine (unhide HS).mono ?_
    rintro e w3b ⟨rfl, o3b⟩
    have HO3b := hide ((unhide HO3).trans o3b (fun _ _ e => e))
    clear o3b
    go_wp2_with fail
    refine (unhide HREST _ (unhide HO3b)).mono ?_
    rintro e w4 ⟨hra, o4⟩
    have HO4 := hide ((unhide HO3b).trans o4 (fun _ _ e => e))
    rcases hrc : readChanges us with _ | l
    · rw [hrc] at hra
      have he : e = .returned (.tuple #[.slice none 0 0, .int .i64 5]) := hra
      subst he
      clear hra o4 hrc
      go_wp2_with fail
      refine (known_any w4).mono ?_
      rintro e w5 ⟨rfl, o5⟩
      have HO5 := hide ((unhide HO4).trans o5 (fun _ _ e => e))
      clear o5
      go_wp2_with fail
      refine (known_any w5).mono ?_
      rintro e w6 ⟨rfl, o6⟩
      have HO6 := hide ((unhide HO5).trans o6 (fun _ _ e => e))
      clear o6
      go_wp2
      go_ret
      exact ⟨rfl, unhide HO6⟩
    · rw [hrc] at hra
      obtain ⟨dv, he, hrow4⟩ := (hra : ∃ v, e = .returned (.tuple #[v, .int .i64 0]) ∧ RowC _ _ w4 v l)
      subst he
      have HLY := hide (lay_read hrc)
      have hll := (lay_parts (lay_read hrc)).1
      have hD := hrow4.hasC (fun k hk => hk)
      have HD := hide hD
      obtain ⟨do', dc, hds, _⟩ := hD.shape
      subst hds
      clear o4 hrc hrow4 hD
      go_wp2_with fail
      refine (known_any w4).mono ?_
      rintro e w5 ⟨rfl, o5⟩
      have HO5 := hide ((unhide HO4).trans o5 (fun _ _ e => e))
      have HD5 := hide ((unhide HD).same o5)
      clear o5
      go_wp2_with fail
      refine (layChanges_any _ l w5 (unhide HD5) (by omega)).mono ?_
      rintro e w6 ⟨hla6, o6⟩
      rw [unhide HLY] at hla6
      obtain ⟨yv, he, hown⟩ := (hla6 : ∃ u, e = .returned (.tuple #[u, .int .i64 0]) ∧ Owns w5.heap.size w6 u us)
      subst he
      have HO6 := hide ((unhide HO5).trans o6 (fun _ _ e => e))
      have hY := Has.ofOwns hown.out
      have hcy := str_conv hY
      have hcb := str_conv ((unhide HB).only (unhide HO6) (fun _ _ _ e => e))
      obtain ⟨yo, yc, hys, _⟩ := hY.shape
      subst hys
      clear o6 hown hY
      go_wp2
      go_ret
      exact ⟨by simp, unhide HO6⟩
end St
end Go.Proofs.Ytmcobkcnpnfobaa
