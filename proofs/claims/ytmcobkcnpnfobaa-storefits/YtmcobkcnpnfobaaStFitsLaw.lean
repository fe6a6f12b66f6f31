/-
  StoreFits: what is said to fit is made sure of, as long as nothing falls.
-/
import Derived.Test.YtmcobkcnpnfobaaStKnown
import Derived.Test.YtmcobkcnpnfobaaStCalm
import Derived.Test.YtmcobkcnpnfobaaStList
namespace Go.Proofs.Ytmcobkcnpnfobaa
open Go.RowKit
set_option linter.unusedSimpArgs false
set_option linter.unusedVariables false
namespace St

/-- a store that does not fall, behind k rounds -/
structure FitAt (w wr : World) (B sb : Nat) (X : Nat → Prop) (s : LD) (P : Prs) (u k : Nat) : Prop where
  st : Stt w wr B sb X s P u (8 * k)
  good : Good s P u (2 * k) (2 * k) (8 * k)
  calm : Calm s.d
  ok : okL (2 * (30 - k)) s
  u : u ≤ 2 * k

theorem lists2 {w1 w2 : World} {v1 v2 : Value} {c1 c2 : List Chg} {w0 : World} (h1 : HasC (fun k => w0.heap.size ≤ k) w1 v1 c1) (h2 : HasC (fun k => w0.heap.size ≤ k) w2 v2 c2) (o : Only (fun _ => False) w1 w2) (o0 : w0.heap.size ≤ w2.heap.size) :
    HasCC (fun k => w0.heap.size ≤ k) (w2.alloc (.cells #[v1, v2] 33)) (.slice (some ⟨w2.heap.size, 0, none⟩) 2 2) [c1, c2] :=
  hasCC_lit [v1, v2] [c1, c2] (heap_alloc_new w2 _) ⟨(h1.same o).same ((Only.refl _ _).alloc _), h2.same ((Only.refl _ _).alloc _), trivial⟩ o0 (by simp)

set_option maxHeartbeats 4000000 in
set_option maxRecDepth 100000 in
theorem storeFits_any (n : Int) (lv : Value) (m : Nat) (X : Nat → St5) (w : World) (hX : Steps5 w lv m X) :
    Calls Try.prog 5 #[.int .i64 n, lv] w fun e w' => e = .returned (.bool true) ∧ Only (fun _ => False) w w' := by
  obtain ⟨lo, lc, hls, hlm, hcm, hcells⟩ := hX.shape
  subst hls
  have HEACH := hide hX.each
  have HCELLS := hide hcells
  have hmx : (m : Int) < 9223372036854775808 := by unfold maxLen at hcm; omega
  clear hX hcells
  obtain ⟨q, hq⟩ := Int.eq_ofNat_of_zero_le (Int.emod_nonneg n (by decide : (20 : Int) ≠ 0))
  have hq2 := Int.emod_lt_of_pos n (by decide : (0 : Int) < 20)
  have HQ := hide hq
  rw [hq] at hq2
  obtain ⟨N, hN⟩ : ∃ N, N = 8 + q := ⟨_, rfl⟩
  have HN8 : Hid ((8 : Int) + q = (N : Int)) := by show (8 : Int) + q = (N : Int); omega
  have hN8 : 8 ≤ N := by omega
  have hN37 : N ≤ 37 := by omega
  clear hq hN
  go_enter Try.func5, Try.ntmps5
  go_wp2_with fail
  refine (pick_any n 20 w (by decide) (by decide)).mono ?_
  rintro e w ⟨rfl, rfl⟩
  rw [unhide HQ]
  go_wp2_with fail
  rw [unhide HN8]
  refine (dks_new N hN8 (by omega) w w (Only.refl _ _)).mono ?_
  rintro e w1 ⟨B, F, rfl, hd, hF, o1⟩
  have HOP := hide (stt_open (s := ⟨⟨Wal.Hd.zero, 0, false⟩, Dk.new N⟩) hd (by show (Dk.new N).works ≤ _; simp [Dk.new]) (good_new N hN8 (by omega)) (by decide) (by decide))
  clear hd o1 hF
  go_wp2_with fail
  refine (unhide HOP).mono ?_
  rintro e w2 ⟨sb, X2, rfl, hs, hX2, o2⟩
  have HS := hide hs
  clear hs o2 HOP hX2
  go_wp2_with fail
  refine (known_any w2).mono ?_
  rintro e w3 ⟨rfl, o3⟩
  have HF3 : Hid (FitAt w w3 B sb X2 ⟨⟨Wal.Hd.zero, 0, false⟩, Dk.new N⟩ [] 0 0) := ⟨(unhide HS).same o3, good_new N hN8 (by omega), ⟨rfl, rfl⟩, ⟨by simp [Dk.new], by simp [Dk.new, Dk.half]; omega⟩, by omega⟩
  clear HS o3
  go_wp2_with fail
  go_loopw [9, 10, 11, 12, 13] (fun i _ _ _ _ wr => ∃ k X s P u, k ≤ m ∧ k ≤ 30 ∧ i = .int .i64 k ∧ FitAt w wr B sb X s P u k) (fun i _ _ _ _ _ => 30 - (intOf i).toNat)
  case atStart => exact ⟨0, X2, _, [], 0, Nat.zero_le _, by decide, rfl, unhide HF3⟩
  case round =>
    obtain ⟨k, Xr, s, P, u, hkm, hk30, rfl, hfa⟩ := hrel
    have HFA := hide hfa
    have HON := hide hfa.st.only
    clear hfa HF3
    by_cases hlt : k < m
    · by_cases hl30 : k < 30
      · have hli : (k : Int) < m := by omega
        have hl30i : (k : Int) < 30 := by omega
        obtain ⟨bb, off, hao, hbw, hcs⟩ := unhide HCELLS (by omega)
        subst hao
        obtain ⟨x0, x1, x2, x3, x4⟩ := hcs k hlt
        have y2 := (unhide HON).cell x2 (fun h => h)
        have y3 := (unhide HON).cell x3 (fun h => h)
        have HST := hide ((unhide HEACH k hlt).same (unhide HON))
        generalize X k = st at *
        obtain ⟨a2, a2c, ha2, _⟩ := (unhide HST).l.shape
        obtain ⟨a3, a3c, ha3, _⟩ := (unhide HST).m.shape
        have HL := hide (fun (W : World) (o : Only (fun _ => False) wr W) => list_any ((unhide HST).l.same o) 5 (by decide))
        have HM := hide (fun (W : World) (o : Only (fun _ => False) wr W) => list_any ((unhide HST).m.same o) 3 (by decide))
        rw [ha2] at y2 HL
        rw [ha3] at y3 HM
        clear x0 x1 x2 x3 x4 hcs ha2 ha3
        go_wp2_with fail
        refine wp_region_held_drew (S := (fun w' => w'.cell? ⟨bb, off + k * 5 + 2, none⟩ = some (.slice a2 st.lm a2c) ∧ w'.cell? ⟨bb, off + k * 5 + 3, none⟩ = some (.slice a3 st.mm a3c))) (by kernel_rfl) (⟨y2, y3⟩) (fun hHeld => ?_)
        refine wpAnyH_take (i := 0) (v := ?v1) rfl (by kernel_rfl) (by kernel_rfl) (by kernel_rfl) (fun _ _ _ h => h) (Or.inl ⟨by rfl, ?hy1⟩) (by assumption) ?rest1
        case hy1 =>
          intro w hSw
          go_simp
          try with_reducible rfl
        try simp only [Act.put, List.setIfInBounds_toArray, List.set_cons_zero, List.set_cons_succ, List.getElem_toArray, List.getElem_cons_succ, List.getElem_cons_zero]
        refine wpAnyH_take (i := 1) (v := ?v2) rfl (by kernel_rfl) (by kernel_rfl) (by kernel_rfl) (fun _ _ _ h => h) (Or.inl ⟨by rfl, ?hy2⟩) (by assumption) ?rest2
        case hy2 =>
          intro w hSw
          go_simp
          try with_reducible rfl
        try simp only [Act.put, List.setIfInBounds_toArray, List.set_cons_zero, List.set_cons_succ, List.getElem_toArray, List.getElem_cons_succ, List.getElem_cons_zero]
        refine wpAnyH_take (i := 2) (v := ?v3) rfl (by kernel_rfl) (by kernel_rfl) (by kernel_rfl) (fun _ _ _ h => h) (Or.inl ⟨by rfl, ?hy3⟩) (by assumption) ?rest3
        case hy3 =>
          intro w hSw
          go_simp
          try with_reducible rfl
        try simp only [Act.put, List.setIfInBounds_toArray, List.set_cons_zero, List.set_cons_succ, List.getElem_toArray, List.getElem_cons_succ, List.getElem_cons_zero]
        refine wpAnyH_take (i := 3) (v := ?v4) rfl (by kernel_rfl) (by kernel_rfl) (by kernel_rfl) (fun _ _ _ h => h) (Or.inl ⟨by rfl, ?hy4⟩) (by assumption) ?rest4
        case hy4 =>
          intro w hSw
          go_simp
          try with_reducible rfl
        try simp only [Act.put, List.setIfInBounds_toArray, List.set_cons_zero, List.set_cons_succ, List.getElem_toArray, List.getElem_cons_succ, List.getElem_cons_zero]
        refine wpAnyH_take (i := 4) (v := ?v5) rfl (by kernel_rfl) (by kernel_rfl) (by kernel_rfl) (fun _ _ _ h => h) (Or.inl ⟨by rfl, ?hy5⟩) (by assumption) ?rest5
        case hy5 =>
          intro w hSw
          (obtain ⟨q0, q1⟩ := hSw; go_simp; try with_reducible rfl)
        try simp only [Act.put, List.setIfInBounds_toArray, List.set_cons_zero, List.set_cons_succ, List.getElem_toArray, List.getElem_cons_succ, List.getElem_cons_zero]
        refine wpAnyH_take (i := 6) (v := ?v6) rfl (by kernel_rfl) (by kernel_rfl) (by kernel_rfl) (fun _ _ _ h => h) (Or.inl ⟨by rfl, ?hy6⟩) (by assumption) ?rest6
        case hy6 =>
          intro w hSw
          go_simp
          try with_reducible rfl
        try simp only [Act.put, List.setIfInBounds_toArray, List.set_cons_zero, List.set_cons_succ, List.getElem_toArray, List.getElem_cons_succ, List.getElem_cons_zero]
        refine wpAnyH_take (i := 7) (v := ?v7) rfl (by kernel_rfl) (by kernel_rfl) (by kernel_rfl) (fun _ _ _ h => h) (Or.inl ⟨by rfl, ?hy7⟩) (by assumption) ?rest7
        case hy7 =>
          intro w hSw
          go_simp
          try with_reducible rfl
        try simp only [Act.put, List.setIfInBounds_toArray, List.set_cons_zero, List.set_cons_succ, List.getElem_toArray, List.getElem_cons_succ, List.getElem_cons_zero]
        refine wpAnyH_take (i := 8) (v := ?v8) rfl (by kernel_rfl) (by kernel_rfl) (by kernel_rfl) (fun _ _ _ h => h) (Or.inl ⟨by rfl, ?hy8⟩) (by assumption) ?rest8
        case hy8 =>
          intro w hSw
          go_simp
          try with_reducible rfl
        try simp only [Act.put, List.setIfInBounds_toArray, List.set_cons_zero, List.set_cons_succ, List.getElem_toArray, List.getElem_cons_succ, List.getElem_cons_zero]
        refine wpAnyH_take (i := 9) (v := ?v9) rfl (by kernel_rfl) (by kernel_rfl) (by kernel_rfl) (fun _ _ _ h => h) (Or.inl ⟨by rfl, ?hy9⟩) (by assumption) ?rest9
        case hy9 =>
          intro w hSw
          go_simp
          try with_reducible rfl
        try simp only [Act.put, List.setIfInBounds_toArray, List.set_cons_zero, List.set_cons_succ, List.getElem_toArray, List.getElem_cons_succ, List.getElem_cons_zero]
        refine wpAnyH_take (i := 10) (v := ?v10) rfl (by kernel_rfl) (by kernel_rfl) (by kernel_rfl) (fun _ _ _ h => h) (Or.inl ⟨by rfl, ?hy10⟩) (by assumption) ?rest10
        case hy10 =>
          intro w hSw
          (obtain ⟨q0, q1⟩ := hSw; go_simp; try with_reducible rfl)
        try simp only [Act.put, List.setIfInBounds_toArray, List.set_cons_zero, List.set_cons_succ, List.getElem_toArray, List.getElem_cons_succ, List.getElem_cons_zero]
        refine wpAnyH_ready (rs := [5]) (by kernel_rfl) (by simp) ?_
        refine AllReadyH.cons rfl (fun K hK => ?_) AllReadyH.nil
        go_simp
        go_wp2_with fail; refine (unhide HL _ ((Only.refl _ _).drew)).mono ?_; rintro e w4 ⟨v4, c4, rfl, hr4, hl4, hk4, o4d⟩; have o4 : Only (fun _ => False) wr w4 := ((Only.refl _ _).drew).trans o4d (fun _ _ e => e)
        refine hK.out _ _ (⟨o4.cell y2 (fun e => e), o4.cell y3 (fun e => e)⟩) (fun hHeld => ?_)
        clear hK K
        try simp only [Act.put, List.setIfInBounds_toArray, List.set_cons_zero, List.set_cons_succ, List.getElem_toArray, List.getElem_cons_succ, List.getElem_cons_zero]
        have HC4 : Hid (HasC (fun j => wr.heap.size ≤ j) w4 v4 c4) := hr4.hasC (fun j hj => hj)
        have HO4 := hide o4
        obtain ⟨v4o, v4c, hv4, _⟩ := (unhide HC4).shape
        subst hv4
        clear hr4 o4d
        refine wpAnyH_ready (rs := [11]) (by kernel_rfl) (by simp) ?_
        refine AllReadyH.cons rfl (fun K hK => ?_) AllReadyH.nil
        go_simp
        go_wp2_with fail; refine (unhide HM _ (unhide HO4)).mono ?_; rintro e w5 ⟨v5, c5, rfl, hr5, hl5, hk5, o5d⟩; have o5 : Only (fun _ => False) wr w5 := o4.trans o5d (fun _ _ e => e)
        refine hK.out _ _ (⟨o5.cell y2 (fun e => e), o5.cell y3 (fun e => e)⟩) (fun hHeld => ?_)
        clear hK K
        try simp only [Act.put, List.setIfInBounds_toArray, List.set_cons_zero, List.set_cons_succ, List.getElem_toArray, List.getElem_cons_succ, List.getElem_cons_zero]
        have HC5 : Hid (HasC (fun j => wr.heap.size ≤ j) w5 v5 c5) := (hr5.hasC (fun j hj => hj)).mono (fun j _ (hj : w4.heap.size ≤ j) => by have := o4.size; omega)
        have HO5 := hide o5
        have HO45 := hide o5d
        obtain ⟨v5o, v5c, hv5, _⟩ := (unhide HC5).shape
        subst hv5
        clear hr5 o5d o4
        have HCC := hide (lists2 (unhide HC4) (unhide HC5) (unhide HO45) (unhide HO5).size)
        have o6 : Only (fun _ => False) wr (w5.alloc (.cells #[.slice v4o c4.length v4c, .slice v5o c5.length v5c] 33)) := o5.alloc _
        refine wpAnyH_ready (rs := [12]) (by kernel_rfl) (by simp) ?_
        refine AllReadyH.cons rfl (fun K hK => ?_) AllReadyH.nil
        go_simp
        refine hK.out _ _ (⟨o6.cell y2 (fun e => e), o6.cell y3 (fun e => e)⟩) (fun hHeld => ?_)
        clear hK K
        try simp only [Act.put, List.setIfInBounds_toArray, List.set_cons_zero, List.set_cons_succ, List.getElem_toArray, List.getElem_cons_succ, List.getElem_cons_zero]
        generalize w5.alloc (.cells #[.slice v4o c4.length v4c, .slice v5o c5.length v5c] 33) = w6 at *
        refine wpAnyH_take (i := 13) (v := ?v11) rfl (by kernel_rfl) (by kernel_rfl) (by kernel_rfl) (fun _ _ _ h => h) (Or.inl ⟨by rfl, ?hy11⟩) (by assumption) ?rest11
        case hy11 =>
          intro w hSw
          go_simp
          try with_reducible rfl
        try simp only [Act.put, List.setIfInBounds_toArray, List.set_cons_zero, List.set_cons_succ, List.getElem_toArray, List.getElem_cons_succ, List.getElem_cons_zero]
        refine wpAnyH_done (by kernel_rfl) ?_ _
        have hlt6 := (unhide HFA).st.lt
        have HS6 := hide ((unhide HFA).st.same o6)
        have HX6 : Hid (HasCC (fun j => ¬ Xr j) w6 (.slice (some ⟨w5.heap.size, 0, none⟩) 2 2) [c4, c5]) := (unhide HCC).mono (fun j _ hj e => by have := (hlt6 j e).2; omega)
        have htot : tot [c4, c5] ≤ 8 := by simp [tot]; omega
        have huk := (unhide HFA).u
        have hok2 : okL [c4, c5].length s := ⟨by have := (unhide HFA).ok.1; simp; omega, (unhide HFA).ok.2⟩
        have HFT := hide (fits_any (unhide HS6) _ [c4, c5] (unhide HX6) (by omega) (by simp; omega))
        have HCO := hide (fun (W : World) (o : Only (fun _ => False) w6 W) => stt_commit ((unhide HS6).same o) _ [c4, c5] ((unhide HX6).same o) (by omega) (by simp; omega) hok2)
        have hE := each_good [c4, c5] (unhide HFA).good (by simp; omega)
        have hC := each_calm [c4, c5] (unhide HFA).good (unhide HFA).calm (by simp; omega)
        have hK := each_ok w [c4, c5] (s := s) (P := P) (u := u) (2 * (30 - (k + 1))) ⟨by have := (unhide HFA).ok.1; simp; omega, (unhide HFA).ok.2⟩
        have hdead : s.l.dead = false := by obtain ⟨_, _, hs, _⟩ := (unhide HFA).good; exact hs.alive
        have hfit : fitsS s P u [c4, c5] = decide ((keepEachS apL reL [c4, c5] s P u).2.e = 0) := by
          unfold fitsS
          rw [hdead]
          have := hC.c.r
          unfold roomOf at this
          rw [this]
          simp
        rw [hfit] at HFT
        obtain ⟨qq, hqq⟩ : ∃ qq, qq = keepEachS apL reL [c4, c5] s P u := ⟨_, rfl⟩
        have HNEXT : Hid (∀ (w8 : World) (X8 : Nat → Prop), Stt w w8 B sb X8 qq.2.s qq.2.P qq.2.u (8 * k + tot [c4, c5]) → FitAt w w8 B sb X8 qq.2.s qq.2.P qq.2.u (k + 1)) := by
          intro w8 X8 h8
          rw [hqq] at h8 ⊢
          have hg : Good (keepEachS apL reL [c4, c5] s P u).2.s (keepEachS apL reL [c4, c5] s P u).2.P (keepEachS apL reL [c4, c5] s P u).2.u (2 * (k + 1)) (2 * (k + 1)) (8 * (k + 1)) := by
            rcases hE.out with ⟨_, _, c⟩ | ⟨_, _, c⟩ | ⟨a, _⟩
            · exact c.mono (by simp; omega) (by simp; omega) (by omega)
            · exact c.mono (by simp; omega) (by simp; omega) (by omega)
            · rcases hC.c.e with e | e | e <;> (rw [e] at a; cases a)
          refine ⟨h8.more (by omega), hg, hC.c.calm, hK, ?_⟩
          obtain ⟨_, _, _, _, _, hu, hm, _⟩ := hg
          omega
        have HTWO : Hid (qq.2.e = 0 → qq.1 = 2) := by
          intro e0
          rw [hqq] at e0 ⊢
          rcases hE.out with ⟨_, b, _⟩ | ⟨a, _, _⟩ | ⟨a, _⟩
          · exact b
          · rcases a with a | a <;> (rw [a] at e0; cases e0)
          · rw [a] at e0; cases e0
        rw [← hqq] at HFT HCO
        clear hE hC hK hfit hqq hdead hok2 y2 y3 o5 o6 hHeld HC4 HC5 HO4 HO5 HO45 HCC HL HM HST hk4 hk5
        go_wp2_with fail
        refine (unhide HFT).mono ?_
        rintro e w7 ⟨rfl, o7⟩
        have HO7 := hide o7
        clear o7
        go_wp2_with fail
        refine (unhide HCO _ (unhide HO7)).mono ?_
        rintro e w8 ⟨rfl, hw8⟩
        obtain ⟨X8, h8, _⟩ := hw8.now
        have HF8 := hide (unhide HNEXT w8 X8 h8)
        clear hw8 h8
        by_cases he : qq.2.e = 0
        · have hk2 := unhide HTWO he
          rw [he, hk2]
          clear he hk2
          go_wp2
          go_roundw
          case rel => exact ⟨k + 1, X8, _, _, _, by omega, by omega, by go_num, unhide HF8⟩
          case measure => simp [intOf]; omega
        · have heb : (qq.2.e == 0) = false := by simp [he]
          rw [decide_eq_false he]
          generalize qq.2.e = ee at *
          clear he
          go_wp2
          go_roundw
          case rel => exact ⟨k + 1, X8, _, _, _, by omega, by omega, by go_num, unhide HF8⟩
          case measure => simp [intOf]; omega
      · have hli : (k : Int) < m := by omega
        have hk30' : (k : Int) = 30 := by omega
        rw [hk30'] at hli
        rw [hk30']
        clear hk30' hl30 hlt hk30 hkm
        go_wp2
        go_ret
        exact ⟨rfl, unhide HON⟩
    · go_wp2
      go_ret
      exact ⟨rfl, unhide HON⟩
end St
end Go.Proofs.Ytmcobkcnpnfobaa
