/-
  modes.Unpad.
-/
import Derived.Test.YtbhidmeobeecmaaMdPad
namespace Go.Proofs.Ytbhidmeobeecmaa
open Go.RowKit
set_option linter.unusedSimpArgs false
set_option linter.unusedVariables false
namespace Md
open Ae (gt gt_some)

theorem take_has {w : World} {xa : Option Addr} {xc : Nat} {us : List UInt8} (hx : Has w (.slice xa us.length xc) us) (n : Nat) (hn : n ≤ us.length) : Has w (.slice xa (us.length - n) xc) (us.take (us.length - n)) := hx.front (by omega)

set_option maxRecDepth 100000 in
set_option maxHeartbeats 2000000 in
theorem unpad_any (xv : Value) (us : List UInt8) (w : World) (hx : Has w xv us) (hl : us.length ≤ 140737488355328) :
    Calls Try.prog 12 #[xv] w fun e w' => ∃ v, e = .returned (.tuple #[v, .int .i64 (unpadE us)]) ∧ Has w' v (unpadU us) ∧ Only (fun _ => False) w w' := by
  obtain ⟨xa, xc, hxs, hlc, hm⟩ := hx.shape
  subst hxs
  have HF := hide (fun W => fills_any xa us.length xc W)
  by_cases hfb : (decide (0 < us.length) && decide (us.length % 16 = 0)) = true
  case neg =>
    have hok : okB us = false := by unfold okB; rw [Bool.not_eq_true] at hfb; rw [hfb]; rfl
    have hE : unpadE us = 11 := by unfold unpadE; rw [hok]; rfl
    have hU : unpadU us = [] := by unfold unpadU; rw [hok]; rfl
    rw [hE, hU]
    rw [Bool.not_eq_true] at hfb
    rw [hfb] at HF
    clear hfb hok hE hU hx
    go_enter Try.func12, Try.ntmps12
    go_wp2_with (go_at_call 31; refine (unhide HF _).mono ?_; rintro e w1 ⟨rfl, rfl⟩)
    go_ret2
    exact ⟨_, rfl, Or.inl ⟨rfl, rfl⟩, Only.refl _ _⟩
  case pos =>
    have hpos : 0 < us.length := by simp at hfb; omega
    have h16 : 16 ≤ us.length := by simp at hfb; omega
    obtain ⟨xb, xo, rfl, _, hcells⟩ := hx.at hpos
    have hlt : us.length - 1 < us.length := by omega
    have hc := hcells (us.length - 1) hlt
    have hgt : us[us.length - 1] = gt us (us.length - 1) := by
      have := gt_some us (us.length - 1) hlt
      rw [List.getElem?_eq_getElem hlt] at this
      exact Option.some.inj this
    rw [hgt] at hc
    have hok : okB us = (decide (1 ≤ lastN us) && decide (lastN us ≤ 16) && endsB us (List.replicate (lastN us) (gt us (us.length - 1)))) := by unfold okB; rw [hfb]; simp
    have HOK := hide hok
    rw [hfb] at HF
    have hLN : (gt us (us.length - 1)).toNat = lastN us := rfl
    simp only [bv, hLN] at hc
    have hx8 : gt us (us.length - 1) = UInt8.ofNat (lastN us) := by rw [← hLN]; simp
    rw [hx8] at HOK
    have hsub : (us.length : Int) - 1 = ((us.length - 1 : Nat) : Int) := by omega
    have hlt' : ((us.length - 1 : Nat) : Int) < (us.length : Int) := by omega
    have HX := hide hx
    have hE : unpadE us = if okB us then 0 else 11 := rfl
    have hU : unpadU us = if okB us then us.take (us.length - lastN us) else [] := rfl
    have HE := hide hE
    have HU := hide hU
    have hn256 : lastN us < 256 := by rw [← hLN]; exact UInt8.toNat_lt _
    clear hfb hok hcells hgt hLN hx8 hx hE hU
    generalize lastN us = n at *
    by_cases h1 : n < 1
    · have hok2 : okB us = false := by rw [unhide HOK]; simp; omega
      rw [unhide HE, unhide HU, hok2]
      have h1' : (n : Int) < 1 := by omega
      clear hok2 HE HU HOK
      go_enter Try.func12, Try.ntmps12
      go_wp2_with (go_at_call 31; refine (unhide HF _).mono ?_; rintro e w1 ⟨rfl, rfl⟩)
      go_ret2
      exact ⟨_, rfl, Or.inl ⟨rfl, rfl⟩, Only.refl _ _⟩
    · have h1' : ¬ (n : Int) < 1 := by omega
      by_cases h2 : 16 < n
      · have hok2 : okB us = false := by rw [unhide HOK]; simp; omega
        rw [unhide HE, unhide HU, hok2]
        have h2' : (16 : Int) < (n : Int) := by omega
        clear hok2 HE HU HOK
        go_enter Try.func12, Try.ntmps12
        go_wp2_with (go_at_call 31; refine (unhide HF _).mono ?_; rintro e w1 ⟨rfl, rfl⟩)
        go_ret2
        exact ⟨_, rfl, Or.inl ⟨rfl, rfl⟩, Only.refl _ _⟩
      · have h2' : ¬ (16 : Int) < (n : Int) := by omega
        have hoke : okB us = endsB us (List.replicate n (UInt8.ofNat n)) := by rw [unhide HOK]; simp; omega
        rw [← hoke] at HOK
        have HP := hide (fun W => padding_any n (by omega) (by omega) W)
        have HSX : Hid (∀ (v : Value) (W : World), Has W (.slice (some ⟨xb, xo, none⟩) us.length xc) us → Has W v (List.replicate n (UInt8.ofNat n)) → Calls Try.prog 34 #[.slice (some ⟨xb, xo, none⟩) us.length xc, v] W fun e W' => e = .returned (.bool (okB us)) ∧ W' = W) := fun v W h h' => by
          rw [hoke]
          exact suffix_any _ v us _ W h h' (by simp; omega)
        clear hoke HOK
        have hsub2 : (us.length : Int) - (n : Int) = ((us.length - n : Nat) : Int) := by omega
        have hle2 : ((us.length - n : Nat) : Int) ≤ (xc : Int) := by omega
        by_cases hb : okB us = true
        · rw [hb] at HSX HE HU
          rw [if_pos rfl] at HE HU
          rw [unhide HE, unhide HU]
          clear hb HE HU
          have hln : us.length - n ≤ us.length := by omega
          have HTK : Hid (∀ W, Has W (.slice (some ⟨xb, xo, none⟩) us.length xc) us → Calls Try.prog 36 #[.slice (some ⟨xb, xo, none⟩) (us.length - n) xc] W fun e w' => ∃ u, e = .returned u ∧ Owns W.heap.size w' u (us.take (us.length - n)) ∧ Only (fun _ => False) W w') := fun W h => bclone_any _ _ W (take_has h n (by omega)) (by rw [List.length_take]; omega)
          go_enter Try.func12, Try.ntmps12
          go_wp2_with (first
            | (go_at_call 31; refine (unhide HF _).mono ?_; rintro e w1 ⟨rfl, rfl⟩)
            | (go_at_call 35; refine (unhide HP _).mono ?_; rintro e w2 ⟨v, rfl, hv, ho⟩; have HV := hide hv; have HO := hide ho; have HX2 := hide ((unhide HX).only ho (fun _ _ _ e => e)); clear hv ho)
            | (go_at_call 34; refine (unhide HSX _ _ (unhide HX2) (unhide HV)).mono ?_; rintro e w3 ⟨rfl, rfl⟩)
            | (go_at_call 36; refine (unhide HTK _ (unhide HX2)).mono ?_; rintro e w4 ⟨u, rfl, hu, ho4⟩; have HU4 := hide (Has.ofOwns hu); have HO4 := hide ((unhide HO).trans ho4 (fun _ _ e => e)); clear hu ho4))
          go_ret2
          exact ⟨_, rfl, unhide HU4, unhide HO4⟩
        · rw [Bool.not_eq_true] at hb
          rw [hb] at HSX HE HU
          rw [if_neg (by decide)] at HE HU
          rw [unhide HE, unhide HU]
          clear hb HE HU
          go_enter Try.func12, Try.ntmps12
          go_wp2_with (first
            | (go_at_call 31; refine (unhide HF _).mono ?_; rintro e w1 ⟨rfl, rfl⟩)
            | (go_at_call 35; refine (unhide HP _).mono ?_; rintro e w2 ⟨v, rfl, hv, ho⟩; have HV := hide hv; have HO := hide ho; have HX2 := hide ((unhide HX).only ho (fun _ _ _ e => e)); clear hv ho)
            | (go_at_call 34; refine (unhide HSX _ _ (unhide HX2) (unhide HV)).mono ?_; rintro e w3 ⟨rfl, rfl⟩))
          go_ret2
          exact ⟨_, rfl, Or.inl ⟨rfl, rfl⟩, unhide HO⟩

end Md
end Go.Proofs.Ytbhidmeobeecmaa
