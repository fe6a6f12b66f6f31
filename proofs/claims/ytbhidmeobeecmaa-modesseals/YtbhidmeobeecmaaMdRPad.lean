/-
  The reference's Pad and Unpad.
-/
import Derived.Test.YtbhidmeobeecmaaMdUnp
namespace Go.Proofs.Ytbhidmeobeecmaa
open Go.RowKit
set_option linter.unusedSimpArgs false
set_option linter.unusedVariables false
namespace Md
open Ae (gt gt_some)

set_option maxRecDepth 100000 in
set_option maxHeartbeats 1000000 in
theorem rpad_any (xv : Value) (us : List UInt8) (w : World) (hx : Has w xv us) (hl : us.length ≤ 140737488351232) :
    Calls Try.prog 14 #[xv] w fun e w' => ∃ v, e = .returned v ∧ Owns w.heap.size w' v (padT us) ∧ Only (fun _ => False) w w' := by
  obtain ⟨i0, hi, hz0, hz1, hz2⟩ := info_parts Try.info5
  obtain ⟨xa, xc, hxs, hlc, hm⟩ := hx.shape
  subst hxs
  have hp := pd_pos us.length
  have hm1 : (us.length : Int).tmod 16 = ((us.length % 16 : Nat) : Int) := by rw [Int.tmod_eq_emod_of_nonneg (by omega)]; omega
  have hm2 : (us.length : Int) % 16 = ((us.length % 16 : Nat) : Int) := by omega
  have hpd : (16 : Int) - ((us.length % 16 : Nat) : Int) = (pd us.length : Int) := by unfold pd; omega
  have hr : us.length % 16 < 16 := Nat.mod_lt _ (by decide)
  have HPT : Hid (padT us = us ++ List.replicate (pd us.length) (UInt8.ofNat (pd us.length))) := rfl
  have hX0 := hx.only ((Only.refl (fun _ => False) w).alloc (.cells #[] 5)) (fun _ _ _ e => e)
  have HX := hide hX0
  have hown : (w.alloc (.cells #[] 5)).ownsRow w.heap.size 5 1 (.slice (some ⟨w.heap.size, 0, none⟩) 0 0) 0 [] := World.ownsRow_lit w #[] 0 (Nat.le_refl _) (Nat.zero_le _) rfl
  have HOWN := hide hown
  have hnl : us.length + pd us.length ≤ 140737488355328 := by omega
  generalize pd us.length = n at *
  clear hx hm hX0 hown
  generalize us.length % 16 = r at *
  go_enter Try.func14, Try.ntmps14
  go_wp2_with (at_builtin; refine wpList_append_has rfl (.tmp 10) (.tmp 11) 22 rfl w.heap.size 5 i0 Try.underlying22 hi hz0 hz1 hz2 _ 0 [] rfl (unhide HOWN) _ us rfl (unhide HX) (by omega) (by simp) ?_; intro ao2 cap2 w2 own2 gr2 at2)
  have OW2 := hide own2
  have O2 : Hid (Only (fun _ => False) w w2) := ((Only.refl _ _).alloc _).grown gr2 (fun k hk hl => by have hk2 : some w.heap.size = some k := hk; simp at hk2; omega)
  clear own2 gr2 at2 HOWN HX hm1 hm2 hpd
  generalize hq : us.length = q at *
  have HQ := hide hq
  clear hq
  go_loopw [4, 5] (fun s i wr => ∃ k : Nat, k ≤ n ∧ i = .int .i64 k ∧ Hid (wr.ownsRow w.heap.size 5 1 s (q + k) ((us ++ List.replicate k (UInt8.ofNat n)).map bv)) ∧ Hid (Only (fun _ => False) w wr)) (fun _ i _ => n - (intOf i).toNat)
  case atStart =>
    refine ⟨0, Nat.zero_le _, rfl, ?_, O2⟩
    have h := unhide OW2
    rw [List.replicate_zero, List.append_nil]
    rw [Nat.zero_add] at h
    exact h
  case round =>
    obtain ⟨k, hk, rfl, hown, hor⟩ := hrel
    by_cases hlt : k < n
    · have hw8 : IntKind.u8.wrap (n : Int) = (n : Int) := by rw [IntKind.wrap_u8]; omega
      have hw8' : (n : Int) % 256 = (n : Int) := by omega
      have hkn : (k : Int) < (n : Int) := by omega
      have hc : Hid (Has (wr.alloc (.cells #[.int .u8 (n : Int)] 5)) (.slice (some ⟨wr.heap.size, 0, none⟩) 1 1) [UInt8.ofNat n]) := by
        refine has_one ?_
        rw [bv_ofNat n hp.2]
        exact cell_of_row _ _ 0 _ _ _ (heap_alloc_last wr (.cells #[.int .u8 (n : Int)] 5))
      have hown2 := hide ((unhide hown).alloc (.cells #[.int .u8 (n : Int)] 5))
      have hbase : w.heap.size ≤ (wr.alloc (.cells #[.int .u8 (n : Int)] 5)).heap.size := by have := (unhide hor).size; simp; omega
      have HB := hide hbase
      clear hbase
      go_wp2_with (at_builtin; refine wpList_append_has rfl (.tmp 18) (.tmp 21) 22 rfl w.heap.size 5 i0 Try.underlying22 hi hz0 hz1 hz2 _ (q + k) _ rfl (unhide hown2) _ [UInt8.ofNat n] rfl (unhide hc) (by show q + k + 1 ≤ _; omega) (unhide HB) ?_; intro ao3 cap3 w3 own3 gr3 at3)
      go_roundw
      case rel =>
        refine ⟨k + 1, by omega, by go_num, ?_, ?_⟩
        · show _
          have h := own3
          rw [show us ++ List.replicate (k + 1) (UInt8.ofNat n) = us ++ List.replicate k (UInt8.ofNat n) ++ [UInt8.ofNat n] by rw [List.replicate_succ', List.append_assoc], List.map_append]
          exact h
        · exact ((unhide hor).alloc (.cells #[.int .u8 (n : Int)] 5)).grown gr3 (fun j hj hlt => by have := ((unhide hown2).lt j hj).1; omega)
      case measure => simp [intOf]; omega
    · obtain rfl : k = n := by omega
      have HH := hide (unhide hown)
      clear hown
      go_wp2
      go_ret
      refine ⟨_, rfl, ?_, unhide hor⟩
      rw [unhide HPT]
      unfold Owns
      rw [List.length_append, List.length_replicate, unhide HQ]
      exact unhide HH

/-- the last n bytes all are x, from place i on -/
theorem ends_all (us : List UInt8) (n : Nat) (x : UInt8) (hn : n ≤ us.length) : endsB us (List.replicate n x) = true ↔ ∀ j, us.length - n ≤ j → j < us.length → us[j]? = some x := by
  unfold endsB
  rw [List.length_replicate]
  simp only [Bool.and_eq_true, decide_eq_true_eq]
  constructor
  · rintro ⟨_, h⟩ j h1 h2
    have := congrArg (fun l => l[j - (us.length - n)]?) h
    simp only [List.getElem?_drop, List.getElem?_replicate] at this
    rw [show us.length - n + (j - (us.length - n)) = j by omega, if_pos (by omega)] at this
    exact this
  · intro h
    refine ⟨hn, ?_⟩
    apply List.ext_getElem?
    intro j
    rw [List.getElem?_drop, List.getElem?_replicate]
    by_cases hj : j < n
    · rw [if_pos hj]
      exact h _ (by omega) (by omega)
    · rw [if_neg hj, List.getElem?_eq_none (by omega)]

set_option maxRecDepth 100000 in
set_option maxHeartbeats 2000000 in
theorem runpad_any (xv : Value) (us : List UInt8) (w : World) (hx : Has w xv us) (hl : us.length ≤ 140737488355328) :
    Calls Try.prog 16 #[xv] w fun e w' => ∃ v, e = .returned (.tuple #[v, .int .i64 (unpadE us)]) ∧ Has w' v (unpadU us) ∧ Only (fun _ => False) w w' := by
  obtain ⟨xa, xc, hxs, hlc, hm⟩ := hx.shape
  subst hxs
  have hE : unpadE us = if okB us then 0 else 11 := rfl
  have hU : unpadU us = if okB us then us.take (us.length - lastN us) else [] := rfl
  have HE := hide hE
  have HU := hide hU
  clear hE hU
  by_cases hpos : us.length = 0
  · have hok : okB us = false := by unfold okB; rw [hpos]; rfl
    rw [unhide HE, unhide HU, hok]
    have hb0 : us.length = 0 := hpos
    clear hok HE HU hx hpos
    rw [hb0]
    clear hb0 hlc
    go_enter Try.func16, Try.ntmps16
    go_wp2
    go_ret2
    exact ⟨_, rfl, Or.inl ⟨rfl, rfl⟩, Only.refl _ _⟩
  have hm1 : (us.length : Int).tmod 16 = ((us.length % 16 : Nat) : Int) := by rw [Int.tmod_eq_emod_of_nonneg (by omega)]; omega
  have hm2 : (us.length : Int) % 16 = ((us.length % 16 : Nat) : Int) := by omega
  have hpb : ((us.length : Int) == 0) = false := by simpa using hpos
  by_cases hr : us.length % 16 = 0
  case neg =>
    have hok : okB us = false := by unfold okB; rw [show decide (us.length % 16 = 0) = false by simpa using hr]; simp
    rw [unhide HE, unhide HU, hok]
    have hr0 : 0 < us.length % 16 := Nat.pos_of_ne_zero hr
    have hr' : (0 : Int) < ((us.length % 16 : Nat) : Int) := Int.natCast_pos.2 hr0
    have hr15 : us.length % 16 < 16 := Nat.mod_lt _ (by decide)
    clear hok HE HU hx hr
    generalize us.length % 16 = r at *
    go_enter Try.func16, Try.ntmps16
    go_wp2
    go_ret2
    exact ⟨_, rfl, Or.inl ⟨rfl, rfl⟩, Only.refl _ _⟩
  case pos =>
    have h16 : 16 ≤ us.length := by omega
    obtain ⟨xb, xo, rfl, _, hcells⟩ := hx.at (by omega)
    have hlt : us.length - 1 < us.length := by omega
    have hgc : ∀ j, j < us.length → w.cell? ⟨xb, xo + j, none⟩ = some (.int .u8 ((gt us j).toNat : Int)) := fun j hj => by
      have hg : us[j] = gt us j := by
        have := gt_some us j hj
        rw [List.getElem?_eq_getElem hj] at this
        exact Option.some.inj this
      rw [hcells j hj, hg]
      rfl
    have hc := hgc (us.length - 1) hlt
    have HGC := hide hgc
    have hok : okB us = (decide (1 ≤ lastN us) && decide (lastN us ≤ 16) && endsB us (List.replicate (lastN us) (gt us (us.length - 1)))) := by unfold okB; rw [show decide (0 < us.length) = true by simp; omega, show decide (us.length % 16 = 0) = true by simpa using hr]; simp
    have HOK := hide hok
    have hLN : (gt us (us.length - 1)).toNat = lastN us := rfl
    rw [hLN] at hc
    have hx8 : gt us (us.length - 1) = UInt8.ofNat (lastN us) := by rw [← hLN]; simp
    rw [hx8] at HOK
    have hsub : (us.length : Int) - 1 = ((us.length - 1 : Nat) : Int) := by omega
    have hlt' : ((us.length - 1 : Nat) : Int) < (us.length : Int) := by omega
    have hr0 : ((us.length % 16 : Nat) : Int) = 0 := by omega
    rw [hr0] at hm1 hm2
    have HX := hide hx
    have hn256 : lastN us < 256 := by rw [← hLN]; exact UInt8.toNat_lt _
    clear hok hcells hgc hLN hx8 hx hr hr0
    generalize lastN us = n at *
    by_cases h1 : n < 1
    · have hok2 : okB us = false := by rw [unhide HOK]; simp; omega
      rw [unhide HE, unhide HU, hok2]
      have h1' : (n : Int) < 1 := by omega
      clear hok2 HE HU HOK
      go_enter Try.func16, Try.ntmps16
      go_wp2
      go_ret2
      exact ⟨_, rfl, Or.inl ⟨rfl, rfl⟩, Only.refl _ _⟩
    have h1' : ¬ (n : Int) < 1 := by omega
    by_cases h2 : 16 < n
    · have hok2 : okB us = false := by rw [unhide HOK]; simp; omega
      rw [unhide HE, unhide HU, hok2]
      have h2' : (16 : Int) < (n : Int) := by omega
      clear hok2 HE HU HOK
      go_enter Try.func16, Try.ntmps16
      go_wp2
      go_ret2
      exact ⟨_, rfl, Or.inl ⟨rfl, rfl⟩, Only.refl _ _⟩
    have h2' : ¬ (16 : Int) < (n : Int) := by omega
    have hoke : okB us = endsB us (List.replicate n (UInt8.ofNat n)) := by rw [unhide HOK]; simp; omega
    have hall := ends_all us n (UInt8.ofNat n) (by omega)
    rw [← hoke] at hall
    have HALL := hide hall
    have hsub2 : (us.length : Int) - (n : Int) = ((us.length - n : Nat) : Int) := by omega
    have hle2 : ((us.length - n : Nat) : Int) ≤ (xc : Int) := by omega
    clear hoke HOK hall
    go_enter Try.func16, Try.ntmps16
    go_wp2
    clear hc hm1 hm2 hpb
    go_loop [5] (fun i => ∃ k : Nat, us.length - n ≤ k ∧ k ≤ us.length ∧ i = .int .i64 k ∧ Hid (∀ j, us.length - n ≤ j → j < k → us[j]? = some (UInt8.ofNat n))) (fun i => us.length - (intOf i).toNat)
    case atStart => exact ⟨us.length - n, Nat.le_refl _, by omega, rfl, fun j h1 h2 => by omega⟩
    case round =>
      obtain ⟨k, hk1, hk2, rfl, hj⟩ := hrel
      by_cases hkl : k < us.length
      · have hck := unhide HGC k hkl
        have hkl' : (k : Int) < (us.length : Int) := by omega
        have hgs := gt_some us k hkl
        by_cases hg : (gt us k).toNat = n
        · have hx8 : gt us k = UInt8.ofNat n := by rw [← hg]; simp
          have HN2 : Hid (∀ j, us.length - n ≤ j → j < k + 1 → us[j]? = some (UInt8.ofNat n)) := fun j q1 q2 => by
            by_cases hjk : j < k
            · exact unhide hj j q1 hjk
            · obtain rfl : j = k := by omega
              rw [hgs, hx8]
          rw [hg] at hck
          clear hgs hx8 hg hj
          go_wp2
          go_round
          case rel => exact ⟨k + 1, by omega, by omega, by go_num, HN2⟩
          case measure => simp [intOf]; omega
        · have hok2 : okB us = false := by
            rw [← Bool.not_eq_true]
            intro e
            have := (unhide HALL).1 e k hk1 hkl
            rw [hgs, Option.some.injEq] at this
            rw [this, UInt8.toNat_ofNat'] at hg
            omega
          have HE2 : Hid (unpadE us = 11) := by show _ = _; rw [unhide HE, hok2]; rfl
          have HU2 : Hid (unpadU us = []) := by show _ = _; rw [unhide HU, hok2]; rfl
          have hne : ((((gt us k).toNat : Nat) : Int) == (n : Int)) = false := by simp; omega
          have hne2 : ¬ (((gt us k).toNat : Nat) : Int) = (n : Int) := by omega
          have hg256 : (gt us k).toNat < 256 := UInt8.toNat_lt _
          clear hok2 hgs HE HU hg
          generalize (gt us k).toNat = gk at *
          go_wp2
          go_ret2
          exact ⟨.slice none 0 0, (by rw [unhide HE2]; rfl), by rw [unhide HU2]; exact Or.inl ⟨rfl, rfl⟩, Only.refl _ _⟩
      · obtain rfl : k = us.length := by omega
        have hok2 : okB us = true := (unhide HALL).2 (unhide hj)
        have HE2 : Hid (unpadE us = 0) := by show _ = _; rw [unhide HE, hok2]; rfl
        have HU2 : Hid (unpadU us = us.take (us.length - n)) := by show _ = _; rw [unhide HU, hok2]; rfl
        clear hok2 HE HU hj
        go_wp2
        go_ret2
        exact ⟨.slice (some ⟨xb, xo, none⟩) (us.length - n) xc, (by rw [unhide HE2]; rfl), by rw [unhide HU2]; exact take_has (unhide HX) n (by omega), Only.refl _ _⟩

end Md
end Go.Proofs.Ytbhidmeobeecmaa
