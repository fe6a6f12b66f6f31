/-
  locksmithlaw3's DiskPlays, walked.
-/
import Derived.Test.YtjhcmhdekppplaaRkAt
import Derived.Test.YtjhcmhdekppplaaDkKnown
import Derived.Test.YtjhcmhdekppplaaHandPick
import Derived.Test.YtjhcmhdekppplaaArgStep3
import Derived.Test.YtjhcmhdekppplaaDkFlushedSpec
import Derived.Deep.RegionHeld
import Derived.Deep.DrawnRows
import Derived.Deep.CutBlock
import Derived.Deep.DeepCutAuto
namespace Go.Proofs.Ytjhcmhdekppplaa
open Go.RowKit
set_option linter.unusedSimpArgs false
set_option linter.unusedVariables false
attribute [local go_sem ↓] Go.wp_at_zero Go.wp_at_succ

theorem Dk.write_len (d : Dk) (k bs) : (d.write k bs).secs.length = d.secs.length ∧ (d.write k bs).works ≤ d.works + 1 := by
  unfold Dk.write
  split
  · split
    · exact ⟨rfl, Nat.le_succ _⟩
    · exact ⟨rfl, Nat.le_refl _⟩
  · exact ⟨rfl, Nat.le_succ _⟩
theorem Dk.flush_len (d : Dk) : d.flush.secs.length = d.secs.length ∧ d.flush.works ≤ d.works + 1 := by
  unfold Dk.flush
  split
  · exact ⟨rfl, Nat.le_succ _⟩
  · exact ⟨Secs.putAll_length _ _, Nat.le_refl _⟩
theorem Dk.crash_len (d : Dk) (fs) : (d.crash fs).secs.length = d.secs.length ∧ (d.crash fs).works = d.works := ⟨crashTo_length _ _ _ _, rfl⟩

theorem Writes.only {w w' : World} {base : Nat} {v : Value} {l : Pends} {A : Nat → Prop} {dvs : List (Nat × Value)} (h : Writes w base v l A dvs) (ho : Only (fun _ => False) w w') : Writes w' base v l A dvs :=
  ⟨ho.owns h.own (fun _ _ e => e), h.len, fun k p hp => by
    obtain ⟨dv, e, hd, hb⟩ := h.each k p hp
    exact ⟨dv, e, hd.only ho (fun _ _ _ e => e), fun j hj => by
      obtain ⟨m1, m2, m3⟩ := hb j hj
      exact ⟨m1, m2, Nat.lt_of_lt_of_le m3 ho.size⟩⟩, h.one⟩

/-- the t-th of what pends, as the law looks at it: in Pending's answer and in the reference -/
theorem both_at {w0 w : World} {F G : Nat → Prop} {B R : Nat} {d : Dk} {base : Nat} {po : Option Addr} {pc : Nat} {A : Nat → Prop} {dvs : List (Nat × Value)} (h : Both w0 w F G B R d d) (hw : Writes w base (.slice po d.pend.length pc) d.pend A dvs) {t : Nat} {p : Nat × List UInt8} (hp : d.pend[t]? = some p) :
    ∃ pg dv1 rg rc dv2, po = some ⟨pg, 0, none⟩ ∧ w.cell? ⟨pg, t * 2, none⟩ = some (.int .i64 p.1) ∧ w.cell? ⟨pg, t * 2 + 1, none⟩ = some dv1 ∧ w.cell? ⟨R, 2, none⟩ = some (.slice (some ⟨rg, 0, none⟩) d.pend.length rc) ∧ w.cell? ⟨rg, t * 2, none⟩ = some (.int .i64 p.1) ∧ w.cell? ⟨rg, t * 2 + 1, none⟩ = some dv2 ∧ Has w dv1 p.2 ∧ Has w dv2 p.2 := by
  have ht : t < d.pend.length := (List.getElem?_eq_some_iff.1 hp).1
  obtain ⟨dv1, e1, hd1, _⟩ := hw.each t p hp
  have hown := hw.own
  rw [hw.len] at hown
  obtain ⟨pg, rfl⟩ := row_form (n := d.pend.length) (ownsRow_base hown (Nat.zero_le _)) (by omega)
  have hr := row_range (f := wrt) hown (fun x _ => wrt_length x) hw.len t (p.1, dv1) e1
  obtain ⟨sg, sc, bg, bc, pv, svs, rvs, hl⟩ := h.rk.lie
  obtain ⟨dv2, rg, rc, hpv, _, hdat, q0, q1⟩ := hl.pendAt hp
  have c2 := (cells_six hl.blk).2.2.1
  rw [hpv] at c2
  exact ⟨pg, dv1, rg, rc, dv2, rfl, by simpa using hr 0 _ rfl, hr 1 _ rfl, c2, q0, q1, hd1, hdat.has p.2 rfl⟩

/-- the cells of the reference that the law looks at -/
theorem both_cells {w0 w : World} {F G : Nat → Prop} {B R : Nat} {d dd : Dk} (h : Both w0 w F G B R dd d) : w.cell? ⟨R, 5, none⟩ = some (.int .i64 d.works) ∧ ∃ ro rc, w.cell? ⟨R, 2, none⟩ = some (.slice ro d.pend.length rc) := by
  obtain ⟨sg, sc, bg, bc, pv, svs, rvs, hl⟩ := h.rk.lie
  obtain ⟨c0, c1, c2, c3, c4, c5, _⟩ := cells_six hl.blk
  obtain ⟨ro, rc, hpv⟩ := ownsRow_shape hl.prow
  rw [hpv] at c2
  exact ⟨c5, ro, rc, c2⟩

theorem writes_shape {w : World} {base : Nat} {v : Value} {l : Pends} {A : Nat → Prop} {dvs : List (Nat × Value)} (h : Writes w base v l A dvs) : ∃ ao cap, v = .slice ao l.length cap := by
  obtain ⟨ao, cap, e⟩ := ownsRow_shape h.own
  exact ⟨ao, cap, by rw [e, h.len]⟩

/-- a third disk, apart from both, was turned -/
theorem Both.third {w0 w w' : World} {F G FC FC' : Nat → Prop} {B R C : Nat} {dd dr d' : Dk} (h : Both w0 w F G B R dd dr) (hC : ∀ k, FC k → ¬ F k ∧ ¬ G k ∧ w0.heap.size ≤ k) (hw : Went w0 w w' FC FC' C d') :
    Both w0 w' F G B R dd dr ∧ ∀ k, FC' k → ¬ F k ∧ ¬ G k ∧ w0.heap.size ≤ k :=
  ⟨h.beside hw.only (fun k _ hk => hC k hk), fun k hk => by
    rcases hw.grew k hk with e | e
    · exact hC k e
    · exact ⟨fun e2 => by have := h.dk.lt k e2; omega, fun e2 => by have := h.rk.lt k e2; omega, by have := h.dk.only.size; omega⟩⟩

theorem Rks.old {w0 w : World} {F : Nat → Prop} {b : Nat} {d : Dk} (h : Rks w0 w F b d) {v : Value} {vs : List Value} (hv : HasV w0 v vs) (hne : vs ≠ []) : ∀ j, blk v = some j → ¬ F j := fun j hj hF => by
  have := h.up j hF
  have := hv.blk_lt hne j hj
  omega

theorem has_old {w0 : World} {F : Nat → Prop} (hup : ∀ k, F k → w0.heap.size ≤ k) {v : Value} {bs : List UInt8} (hv : Has w0 v bs) (hne : bs ≠ []) : ∀ j, blk v = some j → ¬ F j := fun j hj hF => by
  have := hup j hF
  have := hv.blk_lt hne j hj
  omega

set_option maxRecDepth 100000 in
set_option maxHeartbeats 16000000 in
theorem diskPlays_any (n0 : Int) (lv : Value) (m : Nat) (X : Nat → St3) (w : World) (hs : Steps3 w lv m X) :
    Calls Try.prog 4 #[.int .i64 n0, lv] w fun e w' => e = .returned (.bool true) ∧ Only (fun _ => False) w w' := by
  obtain ⟨lo, lc, rfl, hlc, hlm, hsc⟩ := hs.shape
  have hm' : m ≤ 9223372036854775807 := by unfold maxLen at hlm; omega
  have HST := hide hs
  have HSC := hide hsc
  clear hs hsc hlm
  go_enter Try.func4, Try.ntmps4
  go_wp2_with fail
  refine (pick_any n0 6 w (by decide) (by decide)).mono ?_
  rintro e w1 ⟨rfl, rfl⟩
  obtain ⟨nn, hnn⟩ : ∃ nn : Nat, n0 % 6 = nn := ⟨(n0 % 6).toNat, by have := Int.emod_nonneg n0 (show (6 : Int) ≠ 0 by decide); omega⟩
  have hnn6 : nn < 6 := by have := Int.emod_lt_of_pos n0 (show (0 : Int) < 6 by decide); omega
  rw [hnn]
  clear hnn
  go_wp2_with fail
  have hsum : (8 : Int) + (nn : Int) = ((nn + 8 : Nat) : Int) := by omega
  rw [hsum]
  obtain ⟨n, hn⟩ : ∃ n, n = nn + 8 := ⟨_, rfl⟩
  rw [← hn]
  have hn1 : 8 ≤ n := by omega
  have hn2 : n ≤ 13 := by omega
  clear hsum hn hnn6
  refine (dks_new n hn1 (by omega) w1 w1 (Only.refl _ _)).mono ?_
  rintro e w2 ⟨B, F1, rfl, h1, hF1, _⟩
  have H1 := hide h1
  clear h1
  go_wp2_with fail
  refine (known_any w2).mono ?_
  rintro e w3 ⟨rfl, ho3⟩
  have H3 := hide ((unhide H1).same ho3)
  clear ho3 H1
  go_wp2_with fail
  refine (rks_new n hn1 (by omega) w3 w1 (unhide H3).only).mono ?_
  rintro e w4 ⟨R, rfl, h4, ho4⟩
  have HB : Hid (Both w1 w4 F1 (fun j => w3.heap.size ≤ j ∧ j < w4.heap.size) B R (Dk.new n) (Dk.new n)) := hide ⟨(unhide H3).same ho4, h4, fun k hk hg => by have := (unhide H3).lt k hk; omega⟩
  generalize (fun j => w3.heap.size ≤ j ∧ j < w4.heap.size) = G1 at HB
  clear h4 ho4 H3 hF1
  go_wp2_with fail
  go_loopw [8] (fun i wr => ∃ (k : Nat) (F G : Nat → Prop) (d : Dk), k ≤ m ∧ k ≤ 50 ∧ i = .int .i64 k ∧ Both w1 wr F G B R d d ∧ d.secs.length = n ∧ d.works ≤ k) (fun i _ => 50 - (intOf i).toNat)
  case atStart => exact ⟨0, F1, G1, _, Nat.zero_le _, by decide, rfl, unhide HB, by simp [Dk.new], Nat.le_refl _⟩
  case round =>
    obtain ⟨k, F, G, d, hk, hk50, rfl, hB, hdn, hdw⟩ := hrel
    by_cases hlt : k < m
    · have hlt' : (k : Int) < (m : Int) := by omega
      by_cases hl50 : k < 50
      · have hl50' : (k : Int) < 50 := by omega
        obtain ⟨bb, off, rfl, hbb, hcs⟩ := unhide HSC (by omega)
        obtain ⟨s0, s1, s2, s3, s4⟩ := hcs k hlt
        obtain ⟨⟨p1, p2⟩, ⟨q1, q2⟩⟩ := (unhide HST).nums k hlt
        have HFT := hide ((unhide HST).fates k hlt)
        have HOD := hide ((unhide HST).odd k hlt)
        have t0 := hB.dk.only.cell s0 (fun h => h)
        have t1 := hB.dk.only.cell s1 (fun h => h)
        have t2 := hB.dk.only.cell s2 (fun h => h)
        have t3 := hB.dk.only.cell s3 (fun h => h)
        have t4 := hB.dk.only.cell s4 (fun h => h)
        generalize X k = x at *
        obtain ⟨what, place, num, fv, fs, ov, os⟩ := x
        simp only at t0 t1 t2 t3 t4 p1 p2 q1 q2 HFT HOD
        obtain ⟨fo, fl, fc, rfl⟩ : ∃ fo fl fc, fv = .slice fo fl fc := by obtain ⟨a, c, e, _⟩ := (unhide HFT).shape; exact ⟨a, _, c, e⟩
        obtain ⟨oo, ol, oc, rfl⟩ : ∃ oo ol oc, ov = .slice oo ol oc := by obtain ⟨a, c, e, _⟩ := (unhide HOD).shape; exact ⟨a, _, c, e⟩
        have HBr := hide hB
        clear hB hcs s0 s1 s2 s3 s4
        go_wp2_with fail
        have hxa : Arr (wr.alloc (.cells #[.int .i64 what, .int .i64 place, .int .i64 num, .slice fo fl fc, .slice oo ol oc] 43)) wr.heap.size 43 [.int .i64 what, .int .i64 place, .int .i64 num, .slice fo fl fc, .slice oo ol oc] := heap_alloc_new wr _
        have HBx := hide ((unhide HBr).same ((Only.refl (fun _ => False) wr).alloc (.cells #[.int .i64 what, .int .i64 place, .int .i64 num, .slice fo fl fc, .slice oo ol oc] 43)))
        have hHF : ¬ F wr.heap.size := (unhide HBr).dk.fresh_blk
        have hHG : ¬ G wr.heap.size := fun e => by have := (unhide HBr).rk.lt _ e; omega
        have hHu : w1.heap.size ≤ wr.heap.size := (unhide HBr).dk.only.size
        have HXA := hide hxa
        clear hxa HBr t0 t1 t2 t3 t4
        generalize hWx : wr.alloc (.cells #[.int .i64 what, .int .i64 place, .int .i64 num, .slice fo fl fc, .slice oo ol oc] 43) = Wx at *
        generalize wr.heap.size = Hx at *
        clear hWx
        refine (pick_any place ((n : Int) + 2) _ (by omega) (by omega)).mono ?_
        rintro e w5 ⟨rfl, rfl⟩
        have ha1 := Int.emod_nonneg place (show (n : Int) + 2 ≠ 0 by omega)
        have ha2 := Int.emod_lt_of_pos place (show (0 : Int) < (n : Int) + 2 by omega)
        generalize place % ((n : Int) + 2) = pa at *
        have x0 := ((unhide HXA).cell 0 _ rfl).1
        go_wp2_with fail
        refine (pick_any what 10 _ (by decide) (by decide)).mono ?_
        rintro e w6 ⟨rfl, rfl⟩
        have hq1 := Int.emod_nonneg what (show (10 : Int) ≠ 0 by decide)
        have hq2 := Int.emod_lt_of_pos what (show (0 : Int) < 10 by decide)
        generalize what % 10 = q at *
        go_upto_block 2 with fail
        go_cut [67] (fun s67 wx => ∃ F2 G2 d2, Both w1 wx F2 G2 B R d2 d2 ∧ d2.secs.length = n ∧ d2.works ≤ k + 1)
        case first =>
          have hqs : q = 4 ∨ q = 5 ∨ q = 6 ∨ q = 7 ∨ q = 8 ∨ q = 9 ∨ q < 4 := by omega
          rcases hqs with hq | hq | hq | hq | hq | hq | hq
          · subst hq
            clear hq1 hq2
            as_aux_lemma =>
              go_wp2_with fail
              refine (dks_flush (unhide HBx).dk (by omega)).mono ?_
              rintro e w7 ⟨rfl, F7, h7⟩
              have HB7 := hide ((unhide HBx).went h7)
              clear h7
              go_wp2_with fail
              refine (rks_flush (unhide HB7).rk (by omega)).mono ?_
              rintro e w8 ⟨rfl, h8⟩
              have HB8 := hide ((unhide HB7).rwent h8)
              clear h8
              go_wp2_with fail
              go_meet
              case rel => exact ⟨F7, G, d.flush, unhide HB8, d.flush_len.1.trans hdn, by have := d.flush_len.2; omega⟩
          · subst hq
            clear hq1 hq2
            as_aux_lemma =>
              go_wp2_with fail
              refine (dks_read (unhide HBx).dk (by omega) (pa - 1)).mono ?_
              rintro e w7 ⟨v7, rfl, own7, ho7⟩
              have HB7 := hide ((unhide HBx).same ho7)
              have cv7 := str_conv (Has.ofOwns own7.out)
              clear own7 ho7
              go_wp2_with fail
              refine (rks_read (unhide HB7).rk (by omega) (pa - 1)).mono ?_
              rintro e w8 ⟨v8, rfl, hv8, rfl⟩
              have cv8 := str_conv hv8
              clear hv8
              go_wp2_with fail
              go_meet
              case rel => exact ⟨F, G, d, unhide HB7, hdn, by omega⟩
          · subst hq
            clear hq1 hq2
            as_aux_lemma =>
              go_wp2_with fail
              refine (dks_read (unhide HBx).dk (by omega) (pa - 1)).mono ?_
              rintro e w7 ⟨v7, rfl, own7, ho7⟩
              have HB7 := hide ((unhide HBx).same ho7)
              have cv7 := str_conv (Has.ofOwns own7.out)
              clear own7 ho7
              go_wp2_with fail
              refine (rks_read (unhide HB7).rk (by omega) (pa - 1)).mono ?_
              rintro e w8 ⟨v8, rfl, hv8, rfl⟩
              have cv8 := str_conv hv8
              clear hv8
              go_wp2_with fail
              go_meet
              case rel => exact ⟨F, G, d, unhide HB7, hdn, by omega⟩
          · subst hq
            clear hq1 hq2
            as_aux_lemma =>
              have x2 := ((unhide HXA).cell 2 _ rfl).1
              go_wp2_with fail
              refine (pick_any num 12 _ (by decide) (by decide)).mono ?_
              rintro e w7 ⟨rfl, rfl⟩
              have hr1 := Int.emod_nonneg num (show (12 : Int) ≠ 0 by decide)
              have hr2 := Int.emod_lt_of_pos num (show (0 : Int) < 12 by decide)
              generalize num % 12 = pn at *
              go_wp2_with fail
              refine (dks_fuse (unhide HBx).dk (pn - 2) (by omega) (by omega)).mono ?_
              rintro e w8 ⟨rfl, F8, h8⟩
              have HB8 := hide ((unhide HBx).went h8)
              clear h8
              go_wp2_with fail
              refine (rks_fuse (unhide HB8).rk (pn - 2) (by omega) (by omega)).mono ?_
              rintro e w9 ⟨rfl, h9⟩
              have HB9 := hide ((unhide HB8).rwent h9)
              clear h9
              go_wp2_with fail
              go_meet
              case rel => exact ⟨F8, G, d.fused (pn - 2), unhide HB9, hdn, by show d.works ≤ k + 1; omega⟩
          · subst hq
            clear hq1 hq2
            as_aux_lemma =>
              have x3 := ((unhide HXA).cell 3 _ rfl).1
              go_wp2_with fail
              refine (dks_crash' (unhide HBx).dk (by omega) _ fs ((unhide HFT).only (unhide HBx).dk.only (fun _ _ _ h => h)) (fun hne => (unhide HBx).dk.old (unhide HFT) (fun e => hne (List.map_eq_nil_iff.1 e)))).mono ?_
              rintro e w7 ⟨rfl, F7, h7⟩
              have HB7 := hide ((unhide HBx).went h7)
              have x37 := (((h7.arr (unhide HXA) hHF).1).cell 3 _ rfl).1
              clear h7
              go_wp2_with fail
              refine (rks_crash (unhide HB7).rk (by omega) _ fs ((unhide HFT).only (unhide HB7).dk.only (fun _ _ _ h => h)) (fun hne => (unhide HB7).rk.old (unhide HFT) (fun e => hne (List.map_eq_nil_iff.1 e)))).mono ?_
              rintro e w8 ⟨rfl, h8⟩
              have HB8 := hide ((unhide HB7).rwent h8)
              clear h8
              go_wp2_with fail
              go_meet
              case rel => exact ⟨F7, G, d.crash fs, unhide HB8, (d.crash_len fs).1.trans hdn, by show d.works ≤ k + 1; omega⟩
          · subst hq
            clear hq1 hq2
            as_aux_lemma =>
              go_wp2_with fail
              refine (dks_copy (unhide HBx).dk (by omega)).mono ?_
              rintro e w7 ⟨C, FC, rfl, hC, hCf, hoC⟩
              have hFC : ∀ j, FC j → ¬ F j ∧ ¬ G j ∧ w1.heap.size ≤ j := fun j hj => by
                have h1 := hCf j hj
                exact ⟨fun e => by have := (unhide HBx).dk.lt j e; omega, fun e => by have := (unhide HBx).rk.lt j e; omega, hC.up j hj⟩
              have HB7 := hide ((unhide HBx).same hoC)
              have HC7 := hide hC
              clear hC hCf hoC
              go_wp2_with fail
              refine (dks_works (unhide HC7)).mono ?_
              rintro e w8 ⟨rfl, rfl⟩
              go_wp2_with fail
              refine (dks_works (unhide HB7).dk).mono ?_
              rintro e w9 ⟨rfl, rfl⟩
              go_wp2_with fail
              refine (dks_down (unhide HC7)).mono ?_
              rintro e w10 ⟨rfl, rfl⟩
              go_wp2_with fail
              refine (dks_down (unhide HB7).dk).mono ?_
              rintro e w11 ⟨rfl, rfl⟩
              go_wp2_with fail
              have oa := (Only.refl (fun _ => False) w11).alloc (.cells #[.int .i64 2, .int .i64 2] 3)
              refine (dks_crash ((unhide HC7).same oa) (by omega) _ [2, 2] (hasV_lit (vs := [.int .i64 2, .int .i64 2]) (heap_alloc_new _ _) (by simp [maxLen])) ((unhide HC7).fresh (fun j hj => by cases hj; exact Nat.le_refl _))).mono ?_
              rintro e w12 ⟨rfl, FC12, h12⟩
              obtain ⟨hB12, hFC12⟩ := ((unhide HB7).same oa).third hFC h12
              have HB12 := hide hB12
              have HC12 := hide h12.dk
              clear h12 hB12 oa
              go_wp2_with fail
              refine (sector_any 9 _ (by decide) (by decide)).mono ?_
              rintro e w13 ⟨v13, rfl, hv13, hf13, ho13⟩
              have HB13 := hide ((unhide HB12).same ho13)
              have HC13 := hide ((unhide HC12).same ho13)
              have hx13 := (unhide HC12).fresh hf13
              go_wp2_with fail
              refine (dks_write (unhide HC13) (by show d.works ≤ 1000000; omega) 0 v13 _ hv13 hx13).mono ?_
              rintro e w14 ⟨rfl, FC14, h14⟩
              obtain ⟨hB14, hFC14⟩ := (unhide HB13).third hFC12 h14
              have HB14 := hide hB14
              have HC14 := hide h14.dk
              have hcw := ((d.crash [2, 2]).write_len 0 (S64 9)).2
              clear h14 hB14 hv13 hx13 hf13 ho13
              go_wp2_with fail
              refine (dks_flush (unhide HC14) (by have h9 : (d.crash [2, 2]).works = d.works := rfl; omega)).mono ?_
              rintro e w15 ⟨rfl, FC15, h15⟩
              obtain ⟨hB15, _⟩ := (unhide HB14).third hFC14 h15
              have HB15 := hide hB15
              clear h15 hB15 hcw
              go_wp2_with fail
              go_meet
              case rel => exact ⟨F, G, d, unhide HB15, hdn, by omega⟩
          · have z4 : ¬ q = 4 := by omega
            have z5 : ¬ q = 5 := by omega
            have z6 : ¬ q = 6 := by omega
            have z7 : ¬ q = 7 := by omega
            have z8 : ¬ q = 8 := by omega
            have z9 : ¬ q = 9 := by omega
            by_cases hodd : num.tmod 9 = 8
            · as_aux_lemma =>
                have x2 := ((unhide HXA).cell 2 _ rfl).1
                go_wp2_with fail
                refine (sector_any num _ q1 q2).mono ?_
                rintro e w7 ⟨v7, rfl, hv7, hf7, ho7⟩
                have HB7 := hide ((unhide HBx).same ho7)
                have hA7 := (unhide HXA).only ho7 (fun h => h)
                have x27 := (hA7.cell 2 _ rfl).1
                have x47 := (hA7.cell 4 _ rfl).1
                have hx7F := (unhide HBx).dk.fresh hf7
                have hx7G : ∀ j, blk v7 = some j → ¬ G j := fun j hj hG => by have := (unhide HBx).rk.lt j hG; have := hf7 j hj; omega
                clear hA7 hf7 ho7 x2
                have HX7 := hide ((unhide HOD).only (unhide HB7).dk.only (fun _ _ _ h => h))
                go_wp2_with fail
                refine (dks_write' (unhide HB7).dk (by omega) (pa - 1) _ os (unhide HX7) (fun hne => has_old (unhide HB7).dk.up (unhide HOD) hne)).mono ?_
                rintro e w8 ⟨rfl, F8, h8⟩
                have HB8 := hide ((unhide HB7).went h8)
                clear h8
                go_wp2_with fail
                refine (rks_write (unhide HB8).rk (by omega) (pa - 1) _ os ((unhide HOD).only (unhide HB8).dk.only (fun _ _ _ h => h)) (fun hne => has_old (unhide HB8).rk.up (unhide HOD) hne)).mono ?_
                rintro e w9 ⟨rfl, G9, h9⟩
                have HB9 := hide ((unhide HB8).rwent h9)
                clear h9
                go_wp2_with fail
                go_meet
                case rel => exact ⟨F8, G9, d.write (pa - 1) os, unhide HB9, (d.write_len _ _).1.trans hdn, by have := (d.write_len (pa - 1) os).2; omega⟩
            · as_aux_lemma =>
                have x2 := ((unhide HXA).cell 2 _ rfl).1
                go_wp2_with fail
                refine (sector_any num _ q1 q2).mono ?_
                rintro e w7 ⟨v7, rfl, hv7, hf7, ho7⟩
                have HB7 := hide ((unhide HBx).same ho7)
                have hA7 := (unhide HXA).only ho7 (fun h => h)
                have x27 := (hA7.cell 2 _ rfl).1
                have x47 := (hA7.cell 4 _ rfl).1
                have hx7F := (unhide HBx).dk.fresh hf7
                have hx7G : ∀ j, blk v7 = some j → ¬ G j := fun j hj hG => by have := (unhide HBx).rk.lt j hG; have := hf7 j hj; omega
                clear hA7 hf7 ho7 x2
                go_wp2_with fail
                refine (dks_write (unhide HB7).dk (by omega) (pa - 1) _ _ hv7 hx7F).mono ?_
                rintro e w8 ⟨rfl, F8, h8⟩
                have HB8 := hide ((unhide HB7).went h8)
                have hv8 := (h8.has hv7 (S64_ne num) hx7F).1
                clear h8
                go_wp2_with fail
                refine (rks_write (unhide HB8).rk (by omega) (pa - 1) _ _ hv8 (fun _ => hx7G)).mono ?_
                rintro e w9 ⟨rfl, G9, h9⟩
                have HB9 := hide ((unhide HB8).rwent h9)
                clear h9
                go_wp2_with fail
                go_meet
                case rel => exact ⟨F8, G9, d.write (pa - 1) (S64 num), unhide HB9, (d.write_len _ _).1.trans hdn, by have := (d.write_len (pa - 1) (S64 num)).2; omega⟩
        case rest =>
          obtain ⟨F2, G2, d2, hB2, hdn2, hdw2⟩ := hcut
          have HB2 := hide hB2
          clear hB2 x0 HXA HBx
          as_aux_lemma =>
            go_wp2_with fail
            refine (dks_pending (unhide HB2).dk (by omega)).mono ?_
            rintro e w20 ⟨vp, dvs, rfl, hp20, ho20⟩
            obtain ⟨po, pc, hvp⟩ := writes_shape hp20
            subst hvp
            have HB20 := hide (((unhide HB2).same ho20).same ((Only.refl (fun _ => False) w20).drew))
            have HP20 := hide (hp20.only ((Only.refl (fun _ => False) w20).drew))
            obtain ⟨r5, ro, rc, r2⟩ := both_cells (unhide HB20)
            clear hp20 ho20
            go_wp2_with fail
            refine wp_region_held_drew (S := fun w' => w'.cell? ⟨R, 5, none⟩ = some (.int .i64 d2.works) ∧ w'.cell? ⟨R, 2, none⟩ = some (.slice ro d2.pend.length rc)) (by kernel_rfl) ⟨r5, r2⟩ (fun hHeld => ?_)
            refine wpAnyH_take (i := 0) (v := ?v1) rfl (by kernel_rfl) (by kernel_rfl) (by kernel_rfl) (fun _ _ _ h => h) (Or.inl ⟨by rfl, ?hy1⟩) (by assumption) ?rest1
            case hy1 =>
              intro w hSw
              obtain ⟨hS1, hS2⟩ := hSw
              go_simp
              try with_reducible rfl
            try simp only [Act.put, List.setIfInBounds_toArray, List.set_cons_zero, List.set_cons_succ, List.getElem_toArray, List.getElem_cons_succ, List.getElem_cons_zero]
            refine wpAnyH_take (i := 2) (v := ?v2) rfl (by kernel_rfl) (by kernel_rfl) (by kernel_rfl) (fun _ _ _ h => h) (Or.inl ⟨by rfl, ?hy2⟩) (by assumption) ?rest2
            case hy2 =>
              intro w hSw
              obtain ⟨hS1, hS2⟩ := hSw
              go_simp
              try with_reducible rfl
            try simp only [Act.put, List.setIfInBounds_toArray, List.set_cons_zero, List.set_cons_succ, List.getElem_toArray, List.getElem_cons_succ, List.getElem_cons_zero]
            refine wpAnyH_ready (rs := [1]) (by kernel_rfl) (by simp) ?_
            refine AllReadyH.cons rfl (fun K hK => ?_) AllReadyH.nil
            go_simp
            go_wp2_with (go_at_call 26; refine (dks_down (unhide HB20).dk).mono ?_; rintro e w21 ⟨rfl, rfl⟩)
            refine hK.out _ _ (by assumption) (fun hHeld => ?_)
            clear hK K
            try simp only [Act.put, List.setIfInBounds_toArray, List.set_cons_zero, List.set_cons_succ, List.getElem_toArray, List.getElem_cons_succ, List.getElem_cons_zero]
            refine wpAnyH_ready (rs := [3]) (by kernel_rfl) (by simp) ?_
            refine AllReadyH.cons rfl (fun K hK => ?_) AllReadyH.nil
            go_simp
            go_wp2_with (go_at_call 28; refine (rks_down (unhide HB20).rk).mono ?_; rintro e w21 ⟨rfl, rfl⟩)
            refine hK.out _ _ (by assumption) (fun hHeld => ?_)
            clear hK K
            try simp only [Act.put, List.setIfInBounds_toArray, List.set_cons_zero, List.set_cons_succ, List.getElem_toArray, List.getElem_cons_succ, List.getElem_cons_zero]
            refine wpAnyH_take (i := 4) (v := ?v3) rfl (by kernel_rfl) (by kernel_rfl) (by kernel_rfl) (fun _ _ _ h => h) (Or.inl ⟨by rfl, ?hy3⟩) (by assumption) ?rest3
            case hy3 =>
              intro w hSw
              obtain ⟨hS1, hS2⟩ := hSw
              go_simp
              try with_reducible rfl
            try simp only [Act.put, List.setIfInBounds_toArray, List.set_cons_zero, List.set_cons_succ, List.getElem_toArray, List.getElem_cons_succ, List.getElem_cons_zero]
            refine wpAnyH_take (i := 5) (v := ?v4) rfl (by kernel_rfl) (by kernel_rfl) (by kernel_rfl) (fun _ _ _ h => h) (Or.inl ⟨by rfl, ?hy4⟩) (by assumption) ?rest4
            case hy4 =>
              intro w hSw
              obtain ⟨hS1, hS2⟩ := hSw
              go_simp
              try with_reducible rfl
            try simp only [Act.put, List.setIfInBounds_toArray, List.set_cons_zero, List.set_cons_succ, List.getElem_toArray, List.getElem_cons_succ, List.getElem_cons_zero]
            refine wpAnyH_take (i := 6) (v := ?v5) rfl (by kernel_rfl) (by kernel_rfl) (by kernel_rfl) (fun _ _ _ h => h) (Or.inl ⟨by rfl, ?hy5⟩) (by assumption) ?rest5
            case hy5 =>
              intro w hSw
              obtain ⟨hS1, hS2⟩ := hSw
              go_simp
              try with_reducible rfl
            try simp only [Act.put, List.setIfInBounds_toArray, List.set_cons_zero, List.set_cons_succ, List.getElem_toArray, List.getElem_cons_succ, List.getElem_cons_zero]
            refine wpAnyH_take (i := 8) (v := ?v6) rfl (by kernel_rfl) (by kernel_rfl) (by kernel_rfl) (fun _ _ _ h => h) (Or.inl ⟨by rfl, ?hy6⟩) (by assumption) ?rest6
            case hy6 =>
              intro w hSw
              obtain ⟨hS1, hS2⟩ := hSw
              go_simp
              try with_reducible rfl
            try simp only [Act.put, List.setIfInBounds_toArray, List.set_cons_zero, List.set_cons_succ, List.getElem_toArray, List.getElem_cons_succ, List.getElem_cons_zero]
            refine wpAnyH_take (i := 9) (v := ?v7) rfl (by kernel_rfl) (by kernel_rfl) (by kernel_rfl) (fun _ _ _ h => h) (Or.inl ⟨by rfl, ?hy7⟩) (by assumption) ?rest7
            case hy7 =>
              intro w hSw
              obtain ⟨hS1, hS2⟩ := hSw
              go_simp
              try with_reducible rfl
            try simp only [Act.put, List.setIfInBounds_toArray, List.set_cons_zero, List.set_cons_succ, List.getElem_toArray, List.getElem_cons_succ, List.getElem_cons_zero]
            refine wpAnyH_take (i := 10) (v := ?v8) rfl (by kernel_rfl) (by kernel_rfl) (by kernel_rfl) (fun _ _ _ h => h) (Or.inl ⟨by rfl, ?hy8⟩) (by assumption) ?rest8
            case hy8 =>
              intro w hSw
              obtain ⟨hS1, hS2⟩ := hSw
              go_simp
              try with_reducible rfl
            try simp only [Act.put, List.setIfInBounds_toArray, List.set_cons_zero, List.set_cons_succ, List.getElem_toArray, List.getElem_cons_succ, List.getElem_cons_zero]
            refine wpAnyH_take (i := 11) (v := ?v9) rfl (by kernel_rfl) (by kernel_rfl) (by kernel_rfl) (fun _ _ _ h => h) (Or.inl ⟨by rfl, ?hy9⟩) (by assumption) ?rest9
            case hy9 =>
              intro w hSw
              obtain ⟨hS1, hS2⟩ := hSw
              go_simp
              try with_reducible rfl
            try simp only [Act.put, List.setIfInBounds_toArray, List.set_cons_zero, List.set_cons_succ, List.getElem_toArray, List.getElem_cons_succ, List.getElem_cons_zero]
            refine wpAnyH_ready (rs := [7]) (by kernel_rfl) (by simp) ?_
            refine AllReadyH.cons rfl (fun K hK => ?_) AllReadyH.nil
            go_simp
            go_wp2_with (go_at_call 16; refine (dks_works (unhide HB20).dk).mono ?_; rintro e w21 ⟨rfl, rfl⟩)
            refine hK.out _ _ (by assumption) (fun hHeld => ?_)
            clear hK K
            try simp only [Act.put, List.setIfInBounds_toArray, List.set_cons_zero, List.set_cons_succ, List.getElem_toArray, List.getElem_cons_succ, List.getElem_cons_zero]
            refine wpAnyH_take (i := 12) (v := ?v10) rfl (by kernel_rfl) (by kernel_rfl) (by kernel_rfl) (fun _ _ _ h => h) (Or.inl ⟨by rfl, ?hy10⟩) (by assumption) ?rest10
            case hy10 =>
              intro w hSw
              obtain ⟨hS1, hS2⟩ := hSw
              go_simp
              try with_reducible rfl
            try simp only [Act.put, List.setIfInBounds_toArray, List.set_cons_zero, List.set_cons_succ, List.getElem_toArray, List.getElem_cons_succ, List.getElem_cons_zero]
            refine wpAnyH_take (i := 13) (v := ?v11) rfl (by kernel_rfl) (by kernel_rfl) (by kernel_rfl) (fun _ _ _ h => h) (Or.inl ⟨by rfl, ?hy11⟩) (by assumption) ?rest11
            case hy11 =>
              intro w hSw
              obtain ⟨hS1, hS2⟩ := hSw
              go_simp
              try with_reducible rfl
            try simp only [Act.put, List.setIfInBounds_toArray, List.set_cons_zero, List.set_cons_succ, List.getElem_toArray, List.getElem_cons_succ, List.getElem_cons_zero]
            refine wpAnyH_take (i := 14) (v := ?v12) rfl (by kernel_rfl) (by kernel_rfl) (by kernel_rfl) (fun _ _ _ h => h) (Or.inl ⟨by rfl, ?hy12⟩) (by assumption) ?rest12
            case hy12 =>
              intro w hSw
              obtain ⟨hS1, hS2⟩ := hSw
              go_simp
              try with_reducible rfl
            try simp only [Act.put, List.setIfInBounds_toArray, List.set_cons_zero, List.set_cons_succ, List.getElem_toArray, List.getElem_cons_succ, List.getElem_cons_zero]
            refine wpAnyH_take (i := 15) (v := ?v13) rfl (by kernel_rfl) (by kernel_rfl) (by kernel_rfl) (fun _ _ _ h => h) (Or.inl ⟨by rfl, ?hy13⟩) (by assumption) ?rest13
            case hy13 =>
              intro w hSw
              obtain ⟨hS1, hS2⟩ := hSw
              go_simp
              try with_reducible rfl
            try simp only [Act.put, List.setIfInBounds_toArray, List.set_cons_zero, List.set_cons_succ, List.getElem_toArray, List.getElem_cons_succ, List.getElem_cons_zero]
            refine wpAnyH_take (i := 16) (v := ?v14) rfl (by kernel_rfl) (by kernel_rfl) (by kernel_rfl) (fun _ _ _ h => h) (Or.inl ⟨by rfl, ?hy14⟩) (by assumption) ?rest14
            case hy14 =>
              intro w hSw
              obtain ⟨hS1, hS2⟩ := hSw
              go_simp
              try with_reducible rfl
            try simp only [Act.put, List.setIfInBounds_toArray, List.set_cons_zero, List.set_cons_succ, List.getElem_toArray, List.getElem_cons_succ, List.getElem_cons_zero]
            refine wpAnyH_take (i := 17) (v := ?v15) rfl (by kernel_rfl) (by kernel_rfl) (by kernel_rfl) (fun _ _ _ h => h) (Or.inl ⟨by rfl, ?hy15⟩) (by assumption) ?rest15
            case hy15 =>
              intro w hSw
              obtain ⟨hS1, hS2⟩ := hSw
              go_simp
              try with_reducible rfl
            try simp only [Act.put, List.setIfInBounds_toArray, List.set_cons_zero, List.set_cons_succ, List.getElem_toArray, List.getElem_cons_succ, List.getElem_cons_zero]
            refine wpAnyH_take (i := 18) (v := ?v16) rfl (by kernel_rfl) (by kernel_rfl) (by kernel_rfl) (fun _ _ _ h => h) (Or.inl ⟨by rfl, ?hy16⟩) (by assumption) ?rest16
            case hy16 =>
              intro w hSw
              obtain ⟨hS1, hS2⟩ := hSw
              go_simp
              try with_reducible rfl
            try simp only [Act.put, List.setIfInBounds_toArray, List.set_cons_zero, List.set_cons_succ, List.getElem_toArray, List.getElem_cons_succ, List.getElem_cons_zero]
            refine wpAnyH_take (i := 19) (v := ?v17) rfl (by kernel_rfl) (by kernel_rfl) (by kernel_rfl) (fun _ _ _ h => h) (Or.inl ⟨by rfl, ?hy17⟩) (by assumption) ?rest17
            case hy17 =>
              intro w hSw
              obtain ⟨hS1, hS2⟩ := hSw
              go_simp
              try with_reducible rfl
            try simp only [Act.put, List.setIfInBounds_toArray, List.set_cons_zero, List.set_cons_succ, List.getElem_toArray, List.getElem_cons_succ, List.getElem_cons_zero]
            refine wpAnyH_take (i := 20) (v := ?v18) rfl (by kernel_rfl) (by kernel_rfl) (by kernel_rfl) (fun _ _ _ h => h) (Or.inl ⟨by rfl, ?hy18⟩) (by assumption) ?rest18
            case hy18 =>
              intro w hSw
              obtain ⟨hS1, hS2⟩ := hSw
              go_simp
              try with_reducible rfl
            try simp only [Act.put, List.setIfInBounds_toArray, List.set_cons_zero, List.set_cons_succ, List.getElem_toArray, List.getElem_cons_succ, List.getElem_cons_zero]
            refine wpAnyH_take (i := 21) (v := ?v19) rfl (by kernel_rfl) (by kernel_rfl) (by kernel_rfl) (fun _ _ _ h => h) (Or.inl ⟨by rfl, ?hy19⟩) (by assumption) ?rest19
            case hy19 =>
              intro w hSw
              obtain ⟨hS1, hS2⟩ := hSw
              go_simp
              try with_reducible rfl
            try simp only [Act.put, List.setIfInBounds_toArray, List.set_cons_zero, List.set_cons_succ, List.getElem_toArray, List.getElem_cons_succ, List.getElem_cons_zero]
            refine wpAnyH_take (i := 22) (v := ?v20) rfl (by kernel_rfl) (by kernel_rfl) (by kernel_rfl) (fun _ _ _ h => h) (Or.inl ⟨by rfl, ?hy20⟩) (by assumption) ?rest20
            case hy20 =>
              intro w hSw
              obtain ⟨hS1, hS2⟩ := hSw
              go_simp
              try with_reducible rfl
            try simp only [Act.put, List.setIfInBounds_toArray, List.set_cons_zero, List.set_cons_succ, List.getElem_toArray, List.getElem_cons_succ, List.getElem_cons_zero]
            refine wpAnyH_take (i := 23) (v := ?v21) rfl (by kernel_rfl) (by kernel_rfl) (by kernel_rfl) (fun _ _ _ h => h) (Or.inl ⟨by rfl, ?hy21⟩) (by assumption) ?rest21
            case hy21 =>
              intro w hSw
              obtain ⟨hS1, hS2⟩ := hSw
              go_simp
              try with_reducible rfl
            try simp only [Act.put, List.setIfInBounds_toArray, List.set_cons_zero, List.set_cons_succ, List.getElem_toArray, List.getElem_cons_succ, List.getElem_cons_zero]
            refine wpAnyH_done (by kernel_rfl) ?_ _
            clear r5 r2 hHeld
            go_wp2_with fail
            have hpl := (unhide HB2).dk.fine.many
            go_loopw [19] (fun i wq => ∃ (t : Nat), t ≤ d2.pend.length ∧ i = .int .i64 t ∧ Both w1 wq F2 G2 B R d2 d2 ∧ Writes wq _ (.slice po d2.pend.length pc) d2.pend _ dvs) (fun i _ => d2.pend.length - (intOf i).toNat)
            case atStart => exact ⟨0, Nat.zero_le _, rfl, unhide HB20, unhide HP20⟩
            case round =>
              obtain ⟨t, ht, rfl, hB3, hW3⟩ := hrel
              by_cases hlt3 : t < d2.pend.length
              · have hlt3' : (t : Int) < (d2.pend.length : Int) := by omega
                have hpk : d2.pend[t]? = some d2.pend[t] := List.getElem?_eq_getElem hlt3
                generalize d2.pend[t] = pp at hpk
                have hB4 := hB3.same ((Only.refl (fun _ => False) wr).drew)
                have hW4 := hW3.only ((Only.refl (fun _ => False) wr).drew)
                obtain ⟨pg, dv1, rg, rc2, dv2, rfl, a0, a1, r22, b0, b1, hd1, hd2⟩ := both_at hB4 hW4 hpk
                have cv1 := str_conv hd1
                have cv2 := str_conv hd2
                generalize str pp.2 = sq at cv1 cv2
                generalize pp.1 = pk at a0 b0
                have HB4 := hide hB4
                have HW4 := hide hW4
                clear hB3 hW3 hB4 hW4 hd1 hd2 hpk
                go_wp2_with fail
                refine wp_region_held_drew (S := fun w' => w'.cell? ⟨pg, t * 2, none⟩ = some (.int .i64 pk) ∧ w'.cell? ⟨pg, t * 2 + 1, none⟩ = some dv1 ∧ w'.cell? ⟨R, 2, none⟩ = some (.slice (some ⟨rg, 0, none⟩) d2.pend.length rc2) ∧ w'.cell? ⟨rg, t * 2, none⟩ = some (.int .i64 pk) ∧ w'.cell? ⟨rg, t * 2 + 1, none⟩ = some dv2 ∧ (convert 28 9 dv1).run Try.prog w' = .ok (.string sq) w' ∧ (convert 28 9 dv2).run Try.prog w' = .ok (.string sq) w') (by kernel_rfl) ⟨a0, a1, r22, b0, b1, cv1, cv2⟩ (fun hHeld => ?_)
                refine wpAnyH_take (i := 0) (v := ?v22) rfl (by kernel_rfl) (by kernel_rfl) (by kernel_rfl) (fun _ _ _ h => h) (Or.inl ⟨by rfl, ?hy22⟩) (by assumption) ?rest22
                case hy22 =>
                  intro w hSw
                  obtain ⟨hS1, hS2, hS3, hS4, hS5, hS6, hS7⟩ := hSw
                  go_simp
                  try with_reducible rfl
                try simp only [Act.put, List.setIfInBounds_toArray, List.set_cons_zero, List.set_cons_succ, List.getElem_toArray, List.getElem_cons_succ, List.getElem_cons_zero]
                refine wpAnyH_take (i := 1) (v := ?v23) rfl (by kernel_rfl) (by kernel_rfl) (by kernel_rfl) (fun _ _ _ h => h) (Or.inl ⟨by rfl, ?hy23⟩) (by assumption) ?rest23
                case hy23 =>
                  intro w hSw
                  obtain ⟨hS1, hS2, hS3, hS4, hS5, hS6, hS7⟩ := hSw
                  go_simp
                  try with_reducible rfl
                try simp only [Act.put, List.setIfInBounds_toArray, List.set_cons_zero, List.set_cons_succ, List.getElem_toArray, List.getElem_cons_succ, List.getElem_cons_zero]
                refine wpAnyH_take (i := 2) (v := ?v24) rfl (by kernel_rfl) (by kernel_rfl) (by kernel_rfl) (fun _ _ _ h => h) (Or.inl ⟨by rfl, ?hy24⟩) (by assumption) ?rest24
                case hy24 =>
                  intro w hSw
                  obtain ⟨hS1, hS2, hS3, hS4, hS5, hS6, hS7⟩ := hSw
                  go_simp
                  try with_reducible rfl
                try simp only [Act.put, List.setIfInBounds_toArray, List.set_cons_zero, List.set_cons_succ, List.getElem_toArray, List.getElem_cons_succ, List.getElem_cons_zero]
                refine wpAnyH_take (i := 3) (v := ?v25) rfl (by kernel_rfl) (by kernel_rfl) (by kernel_rfl) (fun _ _ _ h => h) (Or.inl ⟨by rfl, ?hy25⟩) (by assumption) ?rest25
                case hy25 =>
                  intro w hSw
                  obtain ⟨hS1, hS2, hS3, hS4, hS5, hS6, hS7⟩ := hSw
                  go_simp
                  try with_reducible rfl
                try simp only [Act.put, List.setIfInBounds_toArray, List.set_cons_zero, List.set_cons_succ, List.getElem_toArray, List.getElem_cons_succ, List.getElem_cons_zero]
                refine wpAnyH_take (i := 4) (v := ?v26) rfl (by kernel_rfl) (by kernel_rfl) (by kernel_rfl) (fun _ _ _ h => h) (Or.inl ⟨by rfl, ?hy26⟩) (by assumption) ?rest26
                case hy26 =>
                  intro w hSw
                  obtain ⟨hS1, hS2, hS3, hS4, hS5, hS6, hS7⟩ := hSw
                  go_simp
                  try with_reducible rfl
                try simp only [Act.put, List.setIfInBounds_toArray, List.set_cons_zero, List.set_cons_succ, List.getElem_toArray, List.getElem_cons_succ, List.getElem_cons_zero]
                refine wpAnyH_take (i := 5) (v := ?v27) rfl (by kernel_rfl) (by kernel_rfl) (by kernel_rfl) (fun _ _ _ h => h) (Or.inl ⟨by rfl, ?hy27⟩) (by assumption) ?rest27
                case hy27 =>
                  intro w hSw
                  obtain ⟨hS1, hS2, hS3, hS4, hS5, hS6, hS7⟩ := hSw
                  go_simp
                  try with_reducible rfl
                try simp only [Act.put, List.setIfInBounds_toArray, List.set_cons_zero, List.set_cons_succ, List.getElem_toArray, List.getElem_cons_succ, List.getElem_cons_zero]
                refine wpAnyH_take (i := 6) (v := ?v28) rfl (by kernel_rfl) (by kernel_rfl) (by kernel_rfl) (fun _ _ _ h => h) (Or.inl ⟨by rfl, ?hy28⟩) (by assumption) ?rest28
                case hy28 =>
                  intro w hSw
                  obtain ⟨hS1, hS2, hS3, hS4, hS5, hS6, hS7⟩ := hSw
                  go_simp
                  try with_reducible rfl
                try simp only [Act.put, List.setIfInBounds_toArray, List.set_cons_zero, List.set_cons_succ, List.getElem_toArray, List.getElem_cons_succ, List.getElem_cons_zero]
                refine wpAnyH_take (i := 7) (v := ?v29) rfl (by kernel_rfl) (by kernel_rfl) (by kernel_rfl) (fun _ _ _ h => h) (Or.inl ⟨by rfl, ?hy29⟩) (by assumption) ?rest29
                case hy29 =>
                  intro w hSw
                  obtain ⟨hS1, hS2, hS3, hS4, hS5, hS6, hS7⟩ := hSw
                  go_simp
                  try with_reducible rfl
                try simp only [Act.put, List.setIfInBounds_toArray, List.set_cons_zero, List.set_cons_succ, List.getElem_toArray, List.getElem_cons_succ, List.getElem_cons_zero]
                refine wpAnyH_take (i := 8) (v := ?v30) rfl (by kernel_rfl) (by kernel_rfl) (by kernel_rfl) (fun _ _ _ h => h) (Or.inl ⟨by rfl, ?hy30⟩) (by assumption) ?rest30
                case hy30 =>
                  intro w hSw
                  obtain ⟨hS1, hS2, hS3, hS4, hS5, hS6, hS7⟩ := hSw
                  go_simp
                  try with_reducible rfl
                try simp only [Act.put, List.setIfInBounds_toArray, List.set_cons_zero, List.set_cons_succ, List.getElem_toArray, List.getElem_cons_succ, List.getElem_cons_zero]
                refine wpAnyH_take (i := 9) (v := ?v31) rfl (by kernel_rfl) (by kernel_rfl) (by kernel_rfl) (fun _ _ _ h => h) (Or.inl ⟨by rfl, ?hy31⟩) (by assumption) ?rest31
                case hy31 =>
                  intro w hSw
                  obtain ⟨hS1, hS2, hS3, hS4, hS5, hS6, hS7⟩ := hSw
                  go_simp
                  try with_reducible rfl
                try simp only [Act.put, List.setIfInBounds_toArray, List.set_cons_zero, List.set_cons_succ, List.getElem_toArray, List.getElem_cons_succ, List.getElem_cons_zero]
                refine wpAnyH_take (i := 10) (v := ?v32) rfl (by kernel_rfl) (by kernel_rfl) (by kernel_rfl) (fun _ _ _ h => h) (Or.inl ⟨by rfl, ?hy32⟩) (by assumption) ?rest32
                case hy32 =>
                  intro w hSw
                  obtain ⟨hS1, hS2, hS3, hS4, hS5, hS6, hS7⟩ := hSw
                  go_simp
                  try with_reducible rfl
                try simp only [Act.put, List.setIfInBounds_toArray, List.set_cons_zero, List.set_cons_succ, List.getElem_toArray, List.getElem_cons_succ, List.getElem_cons_zero]
                refine wpAnyH_take (i := 11) (v := ?v33) rfl (by kernel_rfl) (by kernel_rfl) (by kernel_rfl) (fun _ _ _ h => h) (Or.inl ⟨by rfl, ?hy33⟩) (by assumption) ?rest33
                case hy33 =>
                  intro w hSw
                  obtain ⟨hS1, hS2, hS3, hS4, hS5, hS6, hS7⟩ := hSw
                  go_simp
                  try with_reducible rfl
                try simp only [Act.put, List.setIfInBounds_toArray, List.set_cons_zero, List.set_cons_succ, List.getElem_toArray, List.getElem_cons_succ, List.getElem_cons_zero]
                refine wpAnyH_take (i := 12) (v := ?v34) rfl (by kernel_rfl) (by kernel_rfl) (by kernel_rfl) (fun _ _ _ h => h) (Or.inl ⟨by rfl, ?hy34⟩) (by assumption) ?rest34
                case hy34 =>
                  intro w hSw
                  obtain ⟨hS1, hS2, hS3, hS4, hS5, hS6, hS7⟩ := hSw
                  go_simp
                  try with_reducible rfl
                try simp only [Act.put, List.setIfInBounds_toArray, List.set_cons_zero, List.set_cons_succ, List.getElem_toArray, List.getElem_cons_succ, List.getElem_cons_zero]
                refine wpAnyH_take (i := 13) (v := ?v35) rfl (by kernel_rfl) (by kernel_rfl) (by kernel_rfl) (fun _ _ _ h => h) (Or.inl ⟨by rfl, ?hy35⟩) (by assumption) ?rest35
                case hy35 =>
                  intro w hSw
                  obtain ⟨hS1, hS2, hS3, hS4, hS5, hS6, hS7⟩ := hSw
                  go_simp
                  try with_reducible rfl
                try simp only [Act.put, List.setIfInBounds_toArray, List.set_cons_zero, List.set_cons_succ, List.getElem_toArray, List.getElem_cons_succ, List.getElem_cons_zero]
                refine wpAnyH_take (i := 14) (v := ?v36) rfl (by kernel_rfl) (by kernel_rfl) (by kernel_rfl) (fun _ _ _ h => h) (Or.inl ⟨by rfl, ?hy36⟩) (by assumption) ?rest36
                case hy36 =>
                  intro w hSw
                  obtain ⟨hS1, hS2, hS3, hS4, hS5, hS6, hS7⟩ := hSw
                  go_simp
                  try with_reducible rfl
                try simp only [Act.put, List.setIfInBounds_toArray, List.set_cons_zero, List.set_cons_succ, List.getElem_toArray, List.getElem_cons_succ, List.getElem_cons_zero]
                refine wpAnyH_take (i := 15) (v := ?v37) rfl (by kernel_rfl) (by kernel_rfl) (by kernel_rfl) (fun _ _ _ h => h) (Or.inl ⟨by rfl, ?hy37⟩) (by assumption) ?rest37
                case hy37 =>
                  intro w hSw
                  obtain ⟨hS1, hS2, hS3, hS4, hS5, hS6, hS7⟩ := hSw
                  go_simp
                  try with_reducible rfl
                try simp only [Act.put, List.setIfInBounds_toArray, List.set_cons_zero, List.set_cons_succ, List.getElem_toArray, List.getElem_cons_succ, List.getElem_cons_zero]
                refine wpAnyH_take (i := 16) (v := ?v38) rfl (by kernel_rfl) (by kernel_rfl) (by kernel_rfl) (fun _ _ _ h => h) (Or.inl ⟨by rfl, ?hy38⟩) (by assumption) ?rest38
                case hy38 =>
                  intro w hSw
                  obtain ⟨hS1, hS2, hS3, hS4, hS5, hS6, hS7⟩ := hSw
                  go_simp
                  try with_reducible rfl
                try simp only [Act.put, List.setIfInBounds_toArray, List.set_cons_zero, List.set_cons_succ, List.getElem_toArray, List.getElem_cons_succ, List.getElem_cons_zero]
                refine wpAnyH_take (i := 17) (v := ?v39) rfl (by kernel_rfl) (by kernel_rfl) (by kernel_rfl) (fun _ _ _ h => h) (Or.inl ⟨by rfl, ?hy39⟩) (by assumption) ?rest39
                case hy39 =>
                  intro w hSw
                  obtain ⟨hS1, hS2, hS3, hS4, hS5, hS6, hS7⟩ := hSw
                  go_simp
                  try with_reducible rfl
                try simp only [Act.put, List.setIfInBounds_toArray, List.set_cons_zero, List.set_cons_succ, List.getElem_toArray, List.getElem_cons_succ, List.getElem_cons_zero]
                refine wpAnyH_take (i := 18) (v := ?v40) rfl (by kernel_rfl) (by kernel_rfl) (by kernel_rfl) (fun _ _ _ h => h) (Or.inl ⟨by rfl, ?hy40⟩) (by assumption) ?rest40
                case hy40 =>
                  intro w hSw
                  obtain ⟨hS1, hS2, hS3, hS4, hS5, hS6, hS7⟩ := hSw
                  go_simp
                  try with_reducible rfl
                try simp only [Act.put, List.setIfInBounds_toArray, List.set_cons_zero, List.set_cons_succ, List.getElem_toArray, List.getElem_cons_succ, List.getElem_cons_zero]
                refine wpAnyH_take (i := 19) (v := ?v41) rfl (by kernel_rfl) (by kernel_rfl) (by kernel_rfl) (fun _ _ _ h => h) (Or.inl ⟨by rfl, ?hy41⟩) (by assumption) ?rest41
                case hy41 =>
                  intro w hSw
                  obtain ⟨hS1, hS2, hS3, hS4, hS5, hS6, hS7⟩ := hSw
                  go_simp
                  try with_reducible rfl
                try simp only [Act.put, List.setIfInBounds_toArray, List.set_cons_zero, List.set_cons_succ, List.getElem_toArray, List.getElem_cons_succ, List.getElem_cons_zero]
                refine wpAnyH_take (i := 20) (v := ?v42) rfl (by kernel_rfl) (by kernel_rfl) (by kernel_rfl) (fun _ _ _ h => h) (Or.inl ⟨by rfl, ?hy42⟩) (by assumption) ?rest42
                case hy42 =>
                  intro w hSw
                  obtain ⟨hS1, hS2, hS3, hS4, hS5, hS6, hS7⟩ := hSw
                  go_simp
                  try with_reducible rfl
                try simp only [Act.put, List.setIfInBounds_toArray, List.set_cons_zero, List.set_cons_succ, List.getElem_toArray, List.getElem_cons_succ, List.getElem_cons_zero]
                refine wpAnyH_take (i := 21) (v := ?v43) rfl (by kernel_rfl) (by kernel_rfl) (by kernel_rfl) (fun _ _ _ h => h) (Or.inl ⟨by rfl, ?hy43⟩) (by assumption) ?rest43
                case hy43 =>
                  intro w hSw
                  obtain ⟨hS1, hS2, hS3, hS4, hS5, hS6, hS7⟩ := hSw
                  go_simp
                  try with_reducible rfl
                try simp only [Act.put, List.setIfInBounds_toArray, List.set_cons_zero, List.set_cons_succ, List.getElem_toArray, List.getElem_cons_succ, List.getElem_cons_zero]
                refine wpAnyH_take (i := 22) (v := ?v44) rfl (by kernel_rfl) (by kernel_rfl) (by kernel_rfl) (fun _ _ _ h => h) (Or.inl ⟨by rfl, ?hy44⟩) (by assumption) ?rest44
                case hy44 =>
                  intro w hSw
                  obtain ⟨hS1, hS2, hS3, hS4, hS5, hS6, hS7⟩ := hSw
                  go_simp
                  try with_reducible rfl
                try simp only [Act.put, List.setIfInBounds_toArray, List.set_cons_zero, List.set_cons_succ, List.getElem_toArray, List.getElem_cons_succ, List.getElem_cons_zero]
                refine wpAnyH_take (i := 23) (v := ?v45) rfl (by kernel_rfl) (by kernel_rfl) (by kernel_rfl) (fun _ _ _ h => h) (Or.inl ⟨by rfl, ?hy45⟩) (by assumption) ?rest45
                case hy45 =>
                  intro w hSw
                  obtain ⟨hS1, hS2, hS3, hS4, hS5, hS6, hS7⟩ := hSw
                  go_simp
                  try with_reducible rfl
                try simp only [Act.put, List.setIfInBounds_toArray, List.set_cons_zero, List.set_cons_succ, List.getElem_toArray, List.getElem_cons_succ, List.getElem_cons_zero]
                refine wpAnyH_take (i := 24) (v := ?v46) rfl (by kernel_rfl) (by kernel_rfl) (by kernel_rfl) (fun _ _ _ h => h) (Or.inl ⟨by rfl, ?hy46⟩) (by assumption) ?rest46
                case hy46 =>
                  intro w hSw
                  obtain ⟨hS1, hS2, hS3, hS4, hS5, hS6, hS7⟩ := hSw
                  go_simp
                  try with_reducible rfl
                try simp only [Act.put, List.setIfInBounds_toArray, List.set_cons_zero, List.set_cons_succ, List.getElem_toArray, List.getElem_cons_succ, List.getElem_cons_zero]
                refine wpAnyH_take (i := 25) (v := ?v47) rfl (by kernel_rfl) (by kernel_rfl) (by kernel_rfl) (fun _ _ _ h => h) (Or.inl ⟨by rfl, ?hy47⟩) (by assumption) ?rest47
                case hy47 =>
                  intro w hSw
                  obtain ⟨hS1, hS2, hS3, hS4, hS5, hS6, hS7⟩ := hSw
                  go_simp
                  try with_reducible rfl
                try simp only [Act.put, List.setIfInBounds_toArray, List.set_cons_zero, List.set_cons_succ, List.getElem_toArray, List.getElem_cons_succ, List.getElem_cons_zero]
                refine wpAnyH_take (i := 26) (v := ?v48) rfl (by kernel_rfl) (by kernel_rfl) (by kernel_rfl) (fun _ _ _ h => h) (Or.inl ⟨by rfl, ?hy48⟩) (by assumption) ?rest48
                case hy48 =>
                  intro w hSw
                  obtain ⟨hS1, hS2, hS3, hS4, hS5, hS6, hS7⟩ := hSw
                  go_simp
                  try with_reducible rfl
                try simp only [Act.put, List.setIfInBounds_toArray, List.set_cons_zero, List.set_cons_succ, List.getElem_toArray, List.getElem_cons_succ, List.getElem_cons_zero]
                refine wpAnyH_take (i := 27) (v := ?v49) rfl (by kernel_rfl) (by kernel_rfl) (by kernel_rfl) (fun _ _ _ h => h) (Or.inl ⟨by rfl, ?hy49⟩) (by assumption) ?rest49
                case hy49 =>
                  intro w hSw
                  obtain ⟨hS1, hS2, hS3, hS4, hS5, hS6, hS7⟩ := hSw
                  go_simp
                  try with_reducible rfl
                try simp only [Act.put, List.setIfInBounds_toArray, List.set_cons_zero, List.set_cons_succ, List.getElem_toArray, List.getElem_cons_succ, List.getElem_cons_zero]
                refine wpAnyH_take (i := 28) (v := ?v50) rfl (by kernel_rfl) (by kernel_rfl) (by kernel_rfl) (fun _ _ _ h => h) (Or.inl ⟨by rfl, ?hy50⟩) (by assumption) ?rest50
                case hy50 =>
                  intro w hSw
                  obtain ⟨hS1, hS2, hS3, hS4, hS5, hS6, hS7⟩ := hSw
                  go_simp
                  try with_reducible rfl
                try simp only [Act.put, List.setIfInBounds_toArray, List.set_cons_zero, List.set_cons_succ, List.getElem_toArray, List.getElem_cons_succ, List.getElem_cons_zero]
                refine wpAnyH_take (i := 29) (v := ?v51) rfl (by kernel_rfl) (by kernel_rfl) (by kernel_rfl) (fun _ _ _ h => h) (Or.inl ⟨by rfl, ?hy51⟩) (by assumption) ?rest51
                case hy51 =>
                  intro w hSw
                  obtain ⟨hS1, hS2, hS3, hS4, hS5, hS6, hS7⟩ := hSw
                  go_simp
                  try with_reducible rfl
                try simp only [Act.put, List.setIfInBounds_toArray, List.set_cons_zero, List.set_cons_succ, List.getElem_toArray, List.getElem_cons_succ, List.getElem_cons_zero]
                refine wpAnyH_take (i := 30) (v := ?v52) rfl (by kernel_rfl) (by kernel_rfl) (by kernel_rfl) (fun _ _ _ h => h) (Or.inl ⟨by rfl, ?hy52⟩) (by assumption) ?rest52
                case hy52 =>
                  intro w hSw
                  obtain ⟨hS1, hS2, hS3, hS4, hS5, hS6, hS7⟩ := hSw
                  go_simp
                  try with_reducible rfl
                try simp only [Act.put, List.setIfInBounds_toArray, List.set_cons_zero, List.set_cons_succ, List.getElem_toArray, List.getElem_cons_succ, List.getElem_cons_zero]
                refine wpAnyH_take (i := 31) (v := ?v53) rfl (by kernel_rfl) (by kernel_rfl) (by kernel_rfl) (fun _ _ _ h => h) (Or.inl ⟨by rfl, ?hy53⟩) (by assumption) ?rest53
                case hy53 =>
                  intro w hSw
                  obtain ⟨hS1, hS2, hS3, hS4, hS5, hS6, hS7⟩ := hSw
                  go_simp
                  try with_reducible rfl
                try simp only [Act.put, List.setIfInBounds_toArray, List.set_cons_zero, List.set_cons_succ, List.getElem_toArray, List.getElem_cons_succ, List.getElem_cons_zero]
                refine wpAnyH_done (by kernel_rfl) ?_ _
                go_wp2_with fail
                go_roundw
                case rel => exact ⟨t + 1, by omega, by go_num, unhide HB4, unhide HW4⟩
                case measure => simp [intOf]; omega
              · have hlt3' : ¬ (t : Int) < (d2.pend.length : Int) := by omega
                have HB4 := hide hB3
                clear hB3 hW3
                go_wp2_with fail
                go_roundw
                case rel => exact ⟨k + 1, F2, G2, d2, by omega, by omega, by go_num, unhide HB4, hdn2, hdw2⟩
                case measure => simp [intOf]; omega
      · have hl50' : ¬ (k : Int) < 50 := by omega
        as_aux_lemma =>
          have HB2 := hide hB
          clear hB
          go_wp2_with fail
          go_loopw [20] (fun i wq => ∃ (t : Nat), t ≤ n ∧ i = .int .i64 t ∧ Both w1 wq F G B R d d) (fun i _ => n - (intOf i).toNat)
          case atStart => exact ⟨0, Nat.zero_le _, rfl, unhide HB2⟩
          case round =>
            obtain ⟨t, ht, rfl, hB3⟩ := hrel
            by_cases hlt3 : t < n
            · have hlt3' : (t : Int) < (n : Int) := by omega
              have HB3 := hide hB3
              clear hB3
              go_wp2_with fail
              refine (dks_read (unhide HB3).dk (by omega) t).mono ?_
              rintro e w7 ⟨v7, rfl, own7, ho7⟩
              have HB7 := hide ((unhide HB3).same ho7)
              have cv7 := str_conv (Has.ofOwns own7.out)
              clear own7 ho7
              go_wp2_with fail
              refine (rks_read (unhide HB7).rk (by omega) t).mono ?_
              rintro e w8 ⟨v8, rfl, hv8, rfl⟩
              have cv8 := str_conv hv8
              clear hv8
              go_wp2_with fail
              go_roundw
              case rel => exact ⟨t + 1, by omega, by go_num, unhide HB7⟩
              case measure => simp [intOf]; omega
            · have hlt3' : ¬ (t : Int) < (n : Int) := by omega
              go_wp2_with fail
              go_ret
              exact ⟨rfl, hB3.dk.only⟩
    · have hlt' : ¬ (k : Int) < (m : Int) := by omega
      as_aux_lemma =>
        have HB2 := hide hB
        clear hB
        go_wp2_with fail
        go_loopw [20] (fun i wq => ∃ (t : Nat), t ≤ n ∧ i = .int .i64 t ∧ Both w1 wq F G B R d d) (fun i _ => n - (intOf i).toNat)
        case atStart => exact ⟨0, Nat.zero_le _, rfl, unhide HB2⟩
        case round =>
          obtain ⟨t, ht, rfl, hB3⟩ := hrel
          by_cases hlt3 : t < n
          · have hlt3' : (t : Int) < (n : Int) := by omega
            have HB3 := hide hB3
            clear hB3
            go_wp2_with fail
            refine (dks_read (unhide HB3).dk (by omega) t).mono ?_
            rintro e w7 ⟨v7, rfl, own7, ho7⟩
            have HB7 := hide ((unhide HB3).same ho7)
            have cv7 := str_conv (Has.ofOwns own7.out)
            clear own7 ho7
            go_wp2_with fail
            refine (rks_read (unhide HB7).rk (by omega) t).mono ?_
            rintro e w8 ⟨v8, rfl, hv8, rfl⟩
            have cv8 := str_conv hv8
            clear hv8
            go_wp2_with fail
            go_roundw
            case rel => exact ⟨t + 1, by omega, by go_num, unhide HB7⟩
            case measure => simp [intOf]; omega
          · have hlt3' : ¬ (t : Int) < (n : Int) := by omega
            go_wp2_with fail
            go_ret
            exact ⟨rfl, hB3.dk.only⟩

end Go.Proofs.Ytjhcmhdekppplaa
