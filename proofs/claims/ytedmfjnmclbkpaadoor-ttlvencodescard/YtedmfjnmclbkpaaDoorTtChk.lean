/-
  The decoder's readers that are checked: Boolean, Big, Text.
-/
import Derived.Test.YtedmfjnmclbkpaaDoorTtDc
namespace Go.Proofs.YtedmfjnmclbkpaaDoor
open Go.RowKit
set_option linter.unusedSimpArgs false
set_option linter.unusedVariables false
namespace Tt

def chk (B : Int → List UInt8 → Bool) : RB → RB
  | .err e => .err e
  | .ok n d ks r c => if B n d = true then .ok n d ks r c else .err 5

theorem rOut_lift {w W w' : World} {db rb cb depth : Nat} {v : Value} {r0 : List UInt8} {c0 m : Nat} {R : RB} {e : Ending} (h : DcAt w db rb cb depth v r0 c0) (ho : Only (fun _ => False) w W) (hr : ROut W db rb cb depth v m R e w') : ROut w db rb cb depth v m R e w' := by
  have hs := ho.size
  cases R with
  | err er => exact ⟨hr.1, (ho.mono (fun _ _ e => e.elim)).trans hr.2 (fun _ _ e => e)⟩
  | ok n d ks r c =>
    obtain ⟨dv, kv, v', h1, h2, h3⟩ := hr
    exact ⟨dv, kv, v', h1, ItAt.mono (fun k _ hk => by omega) _ h2, (h.to ho).trans h3⟩

section
variable {w : World} {db rb cb depth : Nat} {v : Value} {r : List UInt8} {c : Nat}

set_option maxHeartbeats 2000000 in
set_option maxRecDepth 100000 in
theorem checked_boolean (h : DcAt w db rb cb depth v r c) (hT : Tabs w) (L m : Nat) (R1 : RB) (B : Int → List UInt8 → Bool)
    (H1 : Hid (∀ W, DcAt W db rb cb depth v r c → Calls Tryd.prog 43 #[.pointer (some ⟨db, 0, none⟩), .int .i64 L] W (ROut W db rb cb depth v m R1))) (hR : R1 = .err 5 ∨ ∃ n d r' c', R1 = .ok n d [] r' c')
    (HQ : Hid (∀ n d W da dc ka kc, Has W (.slice da d.length dc) d → Tabs W → Calls Tryd.prog 83 #[iv 0 0 n da d.length dc ka 0 kc] W fun e w' => e = .returned (.bool (B n d)) ∧ Only (fun _ => False) W w')) :
    Calls Tryd.prog 81 #[.func (.func 43) #[.pointer (some ⟨db, 0, none⟩)] #[], .int .i64 L, .func (.func 83) #[] #[]] w (ROut w db rb cb depth v m (chk B R1)) := by
  obtain ⟨w1, hw1, h1, hb, o1⟩ := zeroed h
  obtain ⟨R, hE⟩ : ∃ R, chk B R1 = R := ⟨_, rfl⟩
  rw [hE]
  have HE := hide hE
  have HD := hide h
  have HB := hide hb
  have HO := hide o1
  have HC := hide (unhide H1 _ h1)
  have HT := hide hT
  have hs1 : w1.heap.size = w.heap.size + 1 := by rw [hw1]; simp
  have hne : ¬ (w.heap.size = rb ∨ w.heap.size = cb) := by
    have h1 := lt_of_block h.rd.blk
    have h2 := lt_of_block h.cnt
    omega
  clear h h1 hE hb o1 H1 hT
  go_enter Tryd.func81, Tryd.ntmps81
  subst hw1
  rcases hR with rfl | ⟨n, d, r', c', rfl⟩
  case inl =>
    go_wp2_with fail
    refine (unhide HC).mono ?_
    rintro e w2 ⟨rfl, o2⟩
    have hb2 := o2.heap (unhide HB) hne
    have HO2 := hide (((unhide HO).mono (fun _ _ e => e.elim)).trans o2 (fun _ _ e => e))
    have oA : Only (fun _ => False) w2 (w2.alloc (.cells #[.int .i64 0, .int .i64 0, .int .i64 0, .slice none 0 0, .slice none 0 0] 25)) := (Only.refl _ _).alloc _
    have hb3 := oA.heap hb2 (fun e => e)
    have hf : ∀ i, (w2.alloc (.cells #[.int .i64 0, .int .i64 0, .int .i64 0, .slice none 0 0, .slice none 0 0] 25)).frozen? ⟨w.heap.size, i, none⟩ = false := by simp [World.frozen?, hb3]
    obtain ⟨s0, s1, s2, s3, s4⟩ := cells_of5 hb3
    have hlt := lt_of_block hb2
    have HO3 := hide ((unhide HO2).trans oA (fun _ _ e => e.elim))
    have HB3 := hide hb3
    have HS := hide hs1
    clear o2 hb2 oA hb3 HC hs1
    go_upto_region 2 with fail
    generalize w2.alloc (.cells #[.int .i64 0, .int .i64 0, .int .i64 0, .slice none 0 0, .slice none 0 0] 25) = w3 at *
    go_wp2
    obtain ⟨hb4, o4⟩ := put5 (unhide HB3) (.int .i64 0) (.int .i64 0) (.int .i64 0) (.slice none 0 0) (.slice none 0 0)
    refine bodyPost_ret (results_it2 rfl _ _ w.heap.size 0 0 0 none 0 0 none 0 0 rfl (cells_of5 hb4)) rfl ?_
    exact rOut_err (unhide HE).symm (only_set (unhide HO3) (o4.mono (fun k _ e => by omega)))
  case inr =>
    go_wp2_with fail
    refine (unhide HC).mono ?_
    rintro e w2 ⟨dv, kv, v2, rfl, hit, hd2⟩
    have hx := hit.1
    have hk := hit.2.2
    obtain ⟨da, dc, hds, _⟩ := hx.shape
    obtain ⟨ka, kc, hks, _⟩ := hk.shape
    simp only [It.data, It.kids, List.length_nil] at hds hks hx
    subst hds
    subst hks
    have hb2 := hd2.only.heap (unhide HB) hne
    have HDT := hide (((unhide HD).to (unhide HO)).trans hd2)
    have hlt := lt_of_block hb2
    obtain ⟨⟨x0, x1, x2, x3, x4⟩, oA⟩ := boxed w2 (.int .i64 0) (.int .i64 0) (.int .i64 n) (.slice da d.length dc) (.slice ka 0 kc)
    have hb3 := oA.heap hb2 (fun e => e)
    have HQ3 := hide (unhide HQ n d _ da dc ka kc (hx.only oA (fun _ _ _ e => e)) (((unhide HDT).same oA).tabs (unhide HT)))
    have HDT3 := hide ((unhide HDT).same oA)
    have HIT : Hid (ItAt (fun k => w.heap.size + 1 ≤ k) (w2.alloc (.cells #[.int .i64 0, .int .i64 0, .int .i64 n, .slice da d.length dc, .slice ka 0 kc] 25)) (m + 1) (.mk 0 0 n d []) (.slice da d.length dc) (.slice ka 0 kc)) := by
      have := hit.same oA
      rw [hs1] at this
      exact this
    have HB3 := hide hb3
    have hgt : ¬ w2.heap.size = w.heap.size := by omega
    clear hd2 hb2 oA hb3 HC hs1 hit hx hk HDT HQ
    unfold iv at HQ3
    generalize d.length = dl at *
    go_upto_region 2 with fail
    generalize w2.alloc (.cells #[.int .i64 0, .int .i64 0, .int .i64 n, .slice da dl dc, .slice ka 0 kc] 25) = w3 at *
    go_wp2_with fail
    refine (unhide HQ3).mono ?_
    rintro e w4 ⟨rfl, o4⟩
    have y0 := o4.cell x0 (fun e => e)
    have y1 := o4.cell x1 (fun e => e)
    have y2 := o4.cell x2 (fun e => e)
    have y3 := o4.cell x3 (fun e => e)
    have y4 := o4.cell x4 (fun e => e)
    have hb4 := o4.heap (unhide HB3) (fun e => e)
    have HB4 := hide hb4
    have hf : ∀ i, w4.frozen? ⟨w.heap.size, i, none⟩ = false := by simp [World.frozen?, hb4]
    obtain ⟨s0, s1, s2, s3, s4⟩ := cells_of5 hb4
    have HDT4 := hide ((unhide HDT3).same o4)
    have HIT4 := hide ((unhide HIT).same o4)
    clear o4 hb4 x0 x1 x2 x3 x4 HQ3 HDT3 HIT
    cases hB : B n d with
    | false =>
      have HE2 : Hid (R = .err 5) := by show _ = _; rw [← unhide HE, chk, hB, if_neg (by decide)]
      clear hB
      go_wp2
      obtain ⟨hb5, o5⟩ := put5 (unhide HB4) (.int .i64 0) (.int .i64 0) (.int .i64 0) (.slice none 0 0) (.slice none 0 0)
      refine bodyPost_ret (results_it2 rfl _ _ w.heap.size 0 0 0 none 0 0 none 0 0 rfl (cells_of5 hb5)) rfl ?_
      exact rOut_err (unhide HE2) (only_set (unhide HDT4).only (o5.mono (fun k _ e => by omega)))
    | true =>
      have HE2 : Hid (R = .ok n d [] r' c') := by show _ = _; rw [← unhide HE, chk, hB, if_pos rfl]
      clear hB
      go_wp2
      obtain ⟨hb5, o5⟩ := put5 (unhide HB4) (.int .i64 0) (.int .i64 0) (.int .i64 n) (.slice da dl dc) (.slice ka 0 kc)
      refine bodyPost_ret (results_it2 rfl _ _ w.heap.size 0 0 n da dl dc ka 0 kc rfl (cells_of5 hb5)) rfl ?_
      exact rOut_ok (unhide HE2) (ItAt.mono (fun k _ hk => by omega) _ (ItAt.only o5 (fun k _ hk e => by omega) _ (unhide HIT4))) ((unhide HD).set (unhide HDT4) (o5.mono (fun k _ e => by omega)))

set_option maxHeartbeats 2000000 in
set_option maxRecDepth 100000 in
theorem wrap_boolean (h : DcAt w db rb cb depth v r c) (L m : Nat) (R : RB) (H1 : Hid (∀ W, Only (fun _ => False) w W → Calls Tryd.prog 81 #[.func (.func 43) #[.pointer (some ⟨db, 0, none⟩)] #[], .int .i64 L, .func (.func 83) #[] #[]] W (ROut W db rb cb depth v m R))) :
    Calls Tryd.prog 46 #[.pointer (some ⟨db, 0, none⟩), .int .i64 L] w (ROut w db rb cb depth v m R) := by
  obtain ⟨w1, hw1, h1, hb, o1⟩ := zeroed h
  have HD := hide h
  have HB := hide hb
  have HO := hide o1
  have HC := hide (unhide H1 _ o1)
  have hs1 : w1.heap.size = w.heap.size + 1 := by rw [hw1]; simp
  have hne : ¬ (w.heap.size = rb ∨ w.heap.size = cb) := by
    have h1 := lt_of_block h.rd.blk
    have h2 := lt_of_block h.cnt
    omega
  clear h h1 hb o1 H1
  go_enter Tryd.func46, Tryd.ntmps46
  subst hw1
  go_wp2_with fail
  refine (unhide HC).mono ?_
  cases R with
  | err er =>
    rintro e w2 ⟨rfl, o2⟩
    have hb2 := o2.heap (unhide HB) hne
    have hf : ∀ i, w2.frozen? ⟨w.heap.size, i, none⟩ = false := by simp [World.frozen?, hb2]
    obtain ⟨s0, s1, s2, s3, s4⟩ := cells_of5 hb2
    have HB2 := hide hb2
    have HO2 := hide (((unhide HO).mono (fun _ _ e => e.elim)).trans o2 (fun _ _ e => e))
    clear o2 hb2 HC hs1
    go_wp2
    obtain ⟨hb4, o4⟩ := put5 (unhide HB2) (.int .i64 0) (.int .i64 0) (.int .i64 0) (.slice none 0 0) (.slice none 0 0)
    refine bodyPost_ret (results_it2 rfl _ _ w.heap.size 0 0 0 none 0 0 none 0 0 rfl (cells_of5 hb4)) rfl ?_
    exact rOut_err rfl (only_set (unhide HO2) (o4.mono (fun k _ e => by omega)))
  | ok n d ks r' c' =>
    rintro e w2 ⟨dv, kv, v2, rfl, hit, hd2⟩
    obtain ⟨⟨da, dc, hds⟩, ka, kc, hks⟩ := hit.shapes
    simp only [It.data, It.kids] at hds hks
    subst hds
    subst hks
    rw [hs1] at hit
    have hb2 := hd2.only.heap (unhide HB) hne
    have hf : ∀ i, w2.frozen? ⟨w.heap.size, i, none⟩ = false := by simp [World.frozen?, hb2]
    obtain ⟨s0, s1, s2, s3, s4⟩ := cells_of5 hb2
    have HB2 := hide hb2
    have HDT := hide (((unhide HD).to (unhide HO)).trans hd2)
    have HIT := hide hit
    clear hd2 hb2 HC hs1 hit
    generalize hdl : d.length = dl at *
    generalize hkl : ks.length = kl at *
    clear hdl hkl
    go_wp2
    obtain ⟨hb4, o4⟩ := put5 (unhide HB2) (.int .i64 0) (.int .i64 0) (.int .i64 n) (.slice da dl dc) (.slice ka kl kc)
    refine bodyPost_ret (results_it2 rfl _ _ w.heap.size 0 0 n da dl dc ka kl kc rfl (cells_of5 hb4)) rfl ?_
    exact rOut_ok rfl (ItAt.mono (fun k _ hk => by omega) _ (ItAt.only o4 (fun k _ hk e => by omega) _ (unhide HIT))) ((unhide HD).set (unhide HDT) (o4.mono (fun k _ e => by omega)))

set_option maxHeartbeats 2000000 in
set_option maxRecDepth 100000 in
theorem checked_blocks (h : DcAt w db rb cb depth v r c) (hT : Tabs w) (L m : Nat) (R1 : RB) (B : Int → List UInt8 → Bool)
    (H1 : Hid (∀ W, DcAt W db rb cb depth v r c → Calls Tryd.prog 48 #[.pointer (some ⟨db, 0, none⟩), .int .i64 L] W (ROut W db rb cb depth v m R1))) (hR : R1 = .err 5 ∨ ∃ n d r' c', R1 = .ok n d [] r' c')
    (HQ : Hid (∀ n d W da dc ka kc, Has W (.slice da d.length dc) d → Tabs W → Calls Tryd.prog 82 #[iv 0 0 n da d.length dc ka 0 kc] W fun e w' => e = .returned (.bool (B n d)) ∧ Only (fun _ => False) W w')) :
    Calls Tryd.prog 81 #[.func (.func 48) #[.pointer (some ⟨db, 0, none⟩)] #[], .int .i64 L, .func (.func 82) #[] #[]] w (ROut w db rb cb depth v m (chk B R1)) := by
  obtain ⟨w1, hw1, h1, hb, o1⟩ := zeroed h
  obtain ⟨R, hE⟩ : ∃ R, chk B R1 = R := ⟨_, rfl⟩
  rw [hE]
  have HE := hide hE
  have HD := hide h
  have HB := hide hb
  have HO := hide o1
  have HC := hide (unhide H1 _ h1)
  have HT := hide hT
  have hs1 : w1.heap.size = w.heap.size + 1 := by rw [hw1]; simp
  have hne : ¬ (w.heap.size = rb ∨ w.heap.size = cb) := by
    have h1 := lt_of_block h.rd.blk
    have h2 := lt_of_block h.cnt
    omega
  clear h h1 hE hb o1 H1 hT
  go_enter Tryd.func81, Tryd.ntmps81
  subst hw1
  rcases hR with rfl | ⟨n, d, r', c', rfl⟩
  case inl =>
    go_wp2_with fail
    refine (unhide HC).mono ?_
    rintro e w2 ⟨rfl, o2⟩
    have hb2 := o2.heap (unhide HB) hne
    have HO2 := hide (((unhide HO).mono (fun _ _ e => e.elim)).trans o2 (fun _ _ e => e))
    have oA : Only (fun _ => False) w2 (w2.alloc (.cells #[.int .i64 0, .int .i64 0, .int .i64 0, .slice none 0 0, .slice none 0 0] 25)) := (Only.refl _ _).alloc _
    have hb3 := oA.heap hb2 (fun e => e)
    have hf : ∀ i, (w2.alloc (.cells #[.int .i64 0, .int .i64 0, .int .i64 0, .slice none 0 0, .slice none 0 0] 25)).frozen? ⟨w.heap.size, i, none⟩ = false := by simp [World.frozen?, hb3]
    obtain ⟨s0, s1, s2, s3, s4⟩ := cells_of5 hb3
    have hlt := lt_of_block hb2
    have HO3 := hide ((unhide HO2).trans oA (fun _ _ e => e.elim))
    have HB3 := hide hb3
    have HS := hide hs1
    clear o2 hb2 oA hb3 HC hs1
    go_upto_region 2 with fail
    generalize w2.alloc (.cells #[.int .i64 0, .int .i64 0, .int .i64 0, .slice none 0 0, .slice none 0 0] 25) = w3 at *
    go_wp2
    obtain ⟨hb4, o4⟩ := put5 (unhide HB3) (.int .i64 0) (.int .i64 0) (.int .i64 0) (.slice none 0 0) (.slice none 0 0)
    refine bodyPost_ret (results_it2 rfl _ _ w.heap.size 0 0 0 none 0 0 none 0 0 rfl (cells_of5 hb4)) rfl ?_
    exact rOut_err (unhide HE).symm (only_set (unhide HO3) (o4.mono (fun k _ e => by omega)))
  case inr =>
    go_wp2_with fail
    refine (unhide HC).mono ?_
    rintro e w2 ⟨dv, kv, v2, rfl, hit, hd2⟩
    have hx := hit.1
    have hk := hit.2.2
    obtain ⟨da, dc, hds, _⟩ := hx.shape
    obtain ⟨ka, kc, hks, _⟩ := hk.shape
    simp only [It.data, It.kids, List.length_nil] at hds hks hx
    subst hds
    subst hks
    have hb2 := hd2.only.heap (unhide HB) hne
    have HDT := hide (((unhide HD).to (unhide HO)).trans hd2)
    have hlt := lt_of_block hb2
    obtain ⟨⟨x0, x1, x2, x3, x4⟩, oA⟩ := boxed w2 (.int .i64 0) (.int .i64 0) (.int .i64 n) (.slice da d.length dc) (.slice ka 0 kc)
    have hb3 := oA.heap hb2 (fun e => e)
    have HQ3 := hide (unhide HQ n d _ da dc ka kc (hx.only oA (fun _ _ _ e => e)) (((unhide HDT).same oA).tabs (unhide HT)))
    have HDT3 := hide ((unhide HDT).same oA)
    have HIT : Hid (ItAt (fun k => w.heap.size + 1 ≤ k) (w2.alloc (.cells #[.int .i64 0, .int .i64 0, .int .i64 n, .slice da d.length dc, .slice ka 0 kc] 25)) (m + 1) (.mk 0 0 n d []) (.slice da d.length dc) (.slice ka 0 kc)) := by
      have := hit.same oA
      rw [hs1] at this
      exact this
    have HB3 := hide hb3
    have hgt : ¬ w2.heap.size = w.heap.size := by omega
    clear hd2 hb2 oA hb3 HC hs1 hit hx hk HDT HQ
    unfold iv at HQ3
    generalize d.length = dl at *
    go_upto_region 2 with fail
    generalize w2.alloc (.cells #[.int .i64 0, .int .i64 0, .int .i64 n, .slice da dl dc, .slice ka 0 kc] 25) = w3 at *
    go_wp2_with fail
    refine (unhide HQ3).mono ?_
    rintro e w4 ⟨rfl, o4⟩
    have y0 := o4.cell x0 (fun e => e)
    have y1 := o4.cell x1 (fun e => e)
    have y2 := o4.cell x2 (fun e => e)
    have y3 := o4.cell x3 (fun e => e)
    have y4 := o4.cell x4 (fun e => e)
    have hb4 := o4.heap (unhide HB3) (fun e => e)
    have HB4 := hide hb4
    have hf : ∀ i, w4.frozen? ⟨w.heap.size, i, none⟩ = false := by simp [World.frozen?, hb4]
    obtain ⟨s0, s1, s2, s3, s4⟩ := cells_of5 hb4
    have HDT4 := hide ((unhide HDT3).same o4)
    have HIT4 := hide ((unhide HIT).same o4)
    clear o4 hb4 x0 x1 x2 x3 x4 HQ3 HDT3 HIT
    cases hB : B n d with
    | false =>
      have HE2 : Hid (R = .err 5) := by show _ = _; rw [← unhide HE, chk, hB, if_neg (by decide)]
      clear hB
      go_wp2
      obtain ⟨hb5, o5⟩ := put5 (unhide HB4) (.int .i64 0) (.int .i64 0) (.int .i64 0) (.slice none 0 0) (.slice none 0 0)
      refine bodyPost_ret (results_it2 rfl _ _ w.heap.size 0 0 0 none 0 0 none 0 0 rfl (cells_of5 hb5)) rfl ?_
      exact rOut_err (unhide HE2) (only_set (unhide HDT4).only (o5.mono (fun k _ e => by omega)))
    | true =>
      have HE2 : Hid (R = .ok n d [] r' c') := by show _ = _; rw [← unhide HE, chk, hB, if_pos rfl]
      clear hB
      go_wp2
      obtain ⟨hb5, o5⟩ := put5 (unhide HB4) (.int .i64 0) (.int .i64 0) (.int .i64 n) (.slice da dl dc) (.slice ka 0 kc)
      refine bodyPost_ret (results_it2 rfl _ _ w.heap.size 0 0 n da dl dc ka 0 kc rfl (cells_of5 hb5)) rfl ?_
      exact rOut_ok (unhide HE2) (ItAt.mono (fun k _ hk => by omega) _ (ItAt.only o5 (fun k _ hk e => by omega) _ (unhide HIT4))) ((unhide HD).set (unhide HDT4) (o5.mono (fun k _ e => by omega)))

set_option maxHeartbeats 2000000 in
set_option maxRecDepth 100000 in
theorem wrap_blocks (h : DcAt w db rb cb depth v r c) (L m : Nat) (R : RB) (H1 : Hid (∀ W, Only (fun _ => False) w W → Calls Tryd.prog 81 #[.func (.func 48) #[.pointer (some ⟨db, 0, none⟩)] #[], .int .i64 L, .func (.func 82) #[] #[]] W (ROut W db rb cb depth v m R))) :
    Calls Tryd.prog 44 #[.pointer (some ⟨db, 0, none⟩), .int .i64 L] w (ROut w db rb cb depth v m R) := by
  obtain ⟨w1, hw1, h1, hb, o1⟩ := zeroed h
  have HD := hide h
  have HB := hide hb
  have HO := hide o1
  have HC := hide (unhide H1 _ o1)
  have hs1 : w1.heap.size = w.heap.size + 1 := by rw [hw1]; simp
  have hne : ¬ (w.heap.size = rb ∨ w.heap.size = cb) := by
    have h1 := lt_of_block h.rd.blk
    have h2 := lt_of_block h.cnt
    omega
  clear h h1 hb o1 H1
  go_enter Tryd.func44, Tryd.ntmps44
  subst hw1
  go_wp2_with fail
  refine (unhide HC).mono ?_
  cases R with
  | err er =>
    rintro e w2 ⟨rfl, o2⟩
    have hb2 := o2.heap (unhide HB) hne
    have hf : ∀ i, w2.frozen? ⟨w.heap.size, i, none⟩ = false := by simp [World.frozen?, hb2]
    obtain ⟨s0, s1, s2, s3, s4⟩ := cells_of5 hb2
    have HB2 := hide hb2
    have HO2 := hide (((unhide HO).mono (fun _ _ e => e.elim)).trans o2 (fun _ _ e => e))
    clear o2 hb2 HC hs1
    go_wp2
    obtain ⟨hb4, o4⟩ := put5 (unhide HB2) (.int .i64 0) (.int .i64 0) (.int .i64 0) (.slice none 0 0) (.slice none 0 0)
    refine bodyPost_ret (results_it2 rfl _ _ w.heap.size 0 0 0 none 0 0 none 0 0 rfl (cells_of5 hb4)) rfl ?_
    exact rOut_err rfl (only_set (unhide HO2) (o4.mono (fun k _ e => by omega)))
  | ok n d ks r' c' =>
    rintro e w2 ⟨dv, kv, v2, rfl, hit, hd2⟩
    obtain ⟨⟨da, dc, hds⟩, ka, kc, hks⟩ := hit.shapes
    simp only [It.data, It.kids] at hds hks
    subst hds
    subst hks
    rw [hs1] at hit
    have hb2 := hd2.only.heap (unhide HB) hne
    have hf : ∀ i, w2.frozen? ⟨w.heap.size, i, none⟩ = false := by simp [World.frozen?, hb2]
    obtain ⟨s0, s1, s2, s3, s4⟩ := cells_of5 hb2
    have HB2 := hide hb2
    have HDT := hide (((unhide HD).to (unhide HO)).trans hd2)
    have HIT := hide hit
    clear hd2 hb2 HC hs1 hit
    generalize hdl : d.length = dl at *
    generalize hkl : ks.length = kl at *
    clear hdl hkl
    go_wp2
    obtain ⟨hb4, o4⟩ := put5 (unhide HB2) (.int .i64 0) (.int .i64 0) (.int .i64 n) (.slice da dl dc) (.slice ka kl kc)
    refine bodyPost_ret (results_it2 rfl _ _ w.heap.size 0 0 n da dl dc ka kl kc rfl (cells_of5 hb4)) rfl ?_
    exact rOut_ok rfl (ItAt.mono (fun k _ hk => by omega) _ (ItAt.only o4 (fun k _ hk e => by omega) _ (unhide HIT))) ((unhide HD).set (unhide HDT) (o4.mono (fun k _ e => by omega)))

set_option maxHeartbeats 2000000 in
set_option maxRecDepth 100000 in
theorem checked_text (h : DcAt w db rb cb depth v r c) (hT : Tabs w) (L m : Nat) (R1 : RB) (B : Int → List UInt8 → Bool)
    (H1 : Hid (∀ W, DcAt W db rb cb depth v r c → Calls Tryd.prog 48 #[.pointer (some ⟨db, 0, none⟩), .int .i64 L] W (ROut W db rb cb depth v m R1))) (hR : R1 = .err 5 ∨ ∃ n d r' c', R1 = .ok n d [] r' c')
    (HQ : Hid (∀ n d W da dc ka kc, Has W (.slice da d.length dc) d → Tabs W → Calls Tryd.prog 84 #[iv 0 0 n da d.length dc ka 0 kc] W fun e w' => e = .returned (.bool (B n d)) ∧ Only (fun _ => False) W w')) :
    Calls Tryd.prog 81 #[.func (.func 48) #[.pointer (some ⟨db, 0, none⟩)] #[], .int .i64 L, .func (.func 84) #[] #[]] w (ROut w db rb cb depth v m (chk B R1)) := by
  obtain ⟨w1, hw1, h1, hb, o1⟩ := zeroed h
  obtain ⟨R, hE⟩ : ∃ R, chk B R1 = R := ⟨_, rfl⟩
  rw [hE]
  have HE := hide hE
  have HD := hide h
  have HB := hide hb
  have HO := hide o1
  have HC := hide (unhide H1 _ h1)
  have HT := hide hT
  have hs1 : w1.heap.size = w.heap.size + 1 := by rw [hw1]; simp
  have hne : ¬ (w.heap.size = rb ∨ w.heap.size = cb) := by
    have h1 := lt_of_block h.rd.blk
    have h2 := lt_of_block h.cnt
    omega
  clear h h1 hE hb o1 H1 hT
  go_enter Tryd.func81, Tryd.ntmps81
  subst hw1
  rcases hR with rfl | ⟨n, d, r', c', rfl⟩
  case inl =>
    go_wp2_with fail
    refine (unhide HC).mono ?_
    rintro e w2 ⟨rfl, o2⟩
    have hb2 := o2.heap (unhide HB) hne
    have HO2 := hide (((unhide HO).mono (fun _ _ e => e.elim)).trans o2 (fun _ _ e => e))
    have oA : Only (fun _ => False) w2 (w2.alloc (.cells #[.int .i64 0, .int .i64 0, .int .i64 0, .slice none 0 0, .slice none 0 0] 25)) := (Only.refl _ _).alloc _
    have hb3 := oA.heap hb2 (fun e => e)
    have hf : ∀ i, (w2.alloc (.cells #[.int .i64 0, .int .i64 0, .int .i64 0, .slice none 0 0, .slice none 0 0] 25)).frozen? ⟨w.heap.size, i, none⟩ = false := by simp [World.frozen?, hb3]
    obtain ⟨s0, s1, s2, s3, s4⟩ := cells_of5 hb3
    have hlt := lt_of_block hb2
    have HO3 := hide ((unhide HO2).trans oA (fun _ _ e => e.elim))
    have HB3 := hide hb3
    have HS := hide hs1
    clear o2 hb2 oA hb3 HC hs1
    go_upto_region 2 with fail
    generalize w2.alloc (.cells #[.int .i64 0, .int .i64 0, .int .i64 0, .slice none 0 0, .slice none 0 0] 25) = w3 at *
    go_wp2
    obtain ⟨hb4, o4⟩ := put5 (unhide HB3) (.int .i64 0) (.int .i64 0) (.int .i64 0) (.slice none 0 0) (.slice none 0 0)
    refine bodyPost_ret (results_it2 rfl _ _ w.heap.size 0 0 0 none 0 0 none 0 0 rfl (cells_of5 hb4)) rfl ?_
    exact rOut_err (unhide HE).symm (only_set (unhide HO3) (o4.mono (fun k _ e => by omega)))
  case inr =>
    go_wp2_with fail
    refine (unhide HC).mono ?_
    rintro e w2 ⟨dv, kv, v2, rfl, hit, hd2⟩
    have hx := hit.1
    have hk := hit.2.2
    obtain ⟨da, dc, hds, _⟩ := hx.shape
    obtain ⟨ka, kc, hks, _⟩ := hk.shape
    simp only [It.data, It.kids, List.length_nil] at hds hks hx
    subst hds
    subst hks
    have hb2 := hd2.only.heap (unhide HB) hne
    have HDT := hide (((unhide HD).to (unhide HO)).trans hd2)
    have hlt := lt_of_block hb2
    obtain ⟨⟨x0, x1, x2, x3, x4⟩, oA⟩ := boxed w2 (.int .i64 0) (.int .i64 0) (.int .i64 n) (.slice da d.length dc) (.slice ka 0 kc)
    have hb3 := oA.heap hb2 (fun e => e)
    have HQ3 := hide (unhide HQ n d _ da dc ka kc (hx.only oA (fun _ _ _ e => e)) (((unhide HDT).same oA).tabs (unhide HT)))
    have HDT3 := hide ((unhide HDT).same oA)
    have HIT : Hid (ItAt (fun k => w.heap.size + 1 ≤ k) (w2.alloc (.cells #[.int .i64 0, .int .i64 0, .int .i64 n, .slice da d.length dc, .slice ka 0 kc] 25)) (m + 1) (.mk 0 0 n d []) (.slice da d.length dc) (.slice ka 0 kc)) := by
      have := hit.same oA
      rw [hs1] at this
      exact this
    have HB3 := hide hb3
    have hgt : ¬ w2.heap.size = w.heap.size := by omega
    clear hd2 hb2 oA hb3 HC hs1 hit hx hk HDT HQ
    unfold iv at HQ3
    generalize d.length = dl at *
    go_upto_region 2 with fail
    generalize w2.alloc (.cells #[.int .i64 0, .int .i64 0, .int .i64 n, .slice da dl dc, .slice ka 0 kc] 25) = w3 at *
    go_wp2_with fail
    refine (unhide HQ3).mono ?_
    rintro e w4 ⟨rfl, o4⟩
    have y0 := o4.cell x0 (fun e => e)
    have y1 := o4.cell x1 (fun e => e)
    have y2 := o4.cell x2 (fun e => e)
    have y3 := o4.cell x3 (fun e => e)
    have y4 := o4.cell x4 (fun e => e)
    have hb4 := o4.heap (unhide HB3) (fun e => e)
    have HB4 := hide hb4
    have hf : ∀ i, w4.frozen? ⟨w.heap.size, i, none⟩ = false := by simp [World.frozen?, hb4]
    obtain ⟨s0, s1, s2, s3, s4⟩ := cells_of5 hb4
    have HDT4 := hide ((unhide HDT3).same o4)
    have HIT4 := hide ((unhide HIT).same o4)
    clear o4 hb4 x0 x1 x2 x3 x4 HQ3 HDT3 HIT
    cases hB : B n d with
    | false =>
      have HE2 : Hid (R = .err 5) := by show _ = _; rw [← unhide HE, chk, hB, if_neg (by decide)]
      clear hB
      go_wp2
      obtain ⟨hb5, o5⟩ := put5 (unhide HB4) (.int .i64 0) (.int .i64 0) (.int .i64 0) (.slice none 0 0) (.slice none 0 0)
      refine bodyPost_ret (results_it2 rfl _ _ w.heap.size 0 0 0 none 0 0 none 0 0 rfl (cells_of5 hb5)) rfl ?_
      exact rOut_err (unhide HE2) (only_set (unhide HDT4).only (o5.mono (fun k _ e => by omega)))
    | true =>
      have HE2 : Hid (R = .ok n d [] r' c') := by show _ = _; rw [← unhide HE, chk, hB, if_pos rfl]
      clear hB
      go_wp2
      obtain ⟨hb5, o5⟩ := put5 (unhide HB4) (.int .i64 0) (.int .i64 0) (.int .i64 n) (.slice da dl dc) (.slice ka 0 kc)
      refine bodyPost_ret (results_it2 rfl _ _ w.heap.size 0 0 n da dl dc ka 0 kc rfl (cells_of5 hb5)) rfl ?_
      exact rOut_ok (unhide HE2) (ItAt.mono (fun k _ hk => by omega) _ (ItAt.only o5 (fun k _ hk e => by omega) _ (unhide HIT4))) ((unhide HD).set (unhide HDT4) (o5.mono (fun k _ e => by omega)))

set_option maxHeartbeats 2000000 in
set_option maxRecDepth 100000 in
theorem wrap_text (h : DcAt w db rb cb depth v r c) (L m : Nat) (R : RB) (H1 : Hid (∀ W, Only (fun _ => False) w W → Calls Tryd.prog 81 #[.func (.func 48) #[.pointer (some ⟨db, 0, none⟩)] #[], .int .i64 L, .func (.func 84) #[] #[]] W (ROut W db rb cb depth v m R))) :
    Calls Tryd.prog 47 #[.pointer (some ⟨db, 0, none⟩), .int .i64 L] w (ROut w db rb cb depth v m R) := by
  obtain ⟨w1, hw1, h1, hb, o1⟩ := zeroed h
  have HD := hide h
  have HB := hide hb
  have HO := hide o1
  have HC := hide (unhide H1 _ o1)
  have hs1 : w1.heap.size = w.heap.size + 1 := by rw [hw1]; simp
  have hne : ¬ (w.heap.size = rb ∨ w.heap.size = cb) := by
    have h1 := lt_of_block h.rd.blk
    have h2 := lt_of_block h.cnt
    omega
  clear h h1 hb o1 H1
  go_enter Tryd.func47, Tryd.ntmps47
  subst hw1
  go_wp2_with fail
  refine (unhide HC).mono ?_
  cases R with
  | err er =>
    rintro e w2 ⟨rfl, o2⟩
    have hb2 := o2.heap (unhide HB) hne
    have hf : ∀ i, w2.frozen? ⟨w.heap.size, i, none⟩ = false := by simp [World.frozen?, hb2]
    obtain ⟨s0, s1, s2, s3, s4⟩ := cells_of5 hb2
    have HB2 := hide hb2
    have HO2 := hide (((unhide HO).mono (fun _ _ e => e.elim)).trans o2 (fun _ _ e => e))
    clear o2 hb2 HC hs1
    go_wp2
    obtain ⟨hb4, o4⟩ := put5 (unhide HB2) (.int .i64 0) (.int .i64 0) (.int .i64 0) (.slice none 0 0) (.slice none 0 0)
    refine bodyPost_ret (results_it2 rfl _ _ w.heap.size 0 0 0 none 0 0 none 0 0 rfl (cells_of5 hb4)) rfl ?_
    exact rOut_err rfl (only_set (unhide HO2) (o4.mono (fun k _ e => by omega)))
  | ok n d ks r' c' =>
    rintro e w2 ⟨dv, kv, v2, rfl, hit, hd2⟩
    obtain ⟨⟨da, dc, hds⟩, ka, kc, hks⟩ := hit.shapes
    simp only [It.data, It.kids] at hds hks
    subst hds
    subst hks
    rw [hs1] at hit
    have hb2 := hd2.only.heap (unhide HB) hne
    have hf : ∀ i, w2.frozen? ⟨w.heap.size, i, none⟩ = false := by simp [World.frozen?, hb2]
    obtain ⟨s0, s1, s2, s3, s4⟩ := cells_of5 hb2
    have HB2 := hide hb2
    have HDT := hide (((unhide HD).to (unhide HO)).trans hd2)
    have HIT := hide hit
    clear hd2 hb2 HC hs1 hit
    generalize hdl : d.length = dl at *
    generalize hkl : ks.length = kl at *
    clear hdl hkl
    go_wp2
    obtain ⟨hb4, o4⟩ := put5 (unhide HB2) (.int .i64 0) (.int .i64 0) (.int .i64 n) (.slice da dl dc) (.slice ka kl kc)
    refine bodyPost_ret (results_it2 rfl _ _ w.heap.size 0 0 n da dl dc ka kl kc rfl (cells_of5 hb4)) rfl ?_
    exact rOut_ok rfl (ItAt.mono (fun k _ hk => by omega) _ (ItAt.only o4 (fun k _ hk e => by omega) _ (unhide HIT))) ((unhide HD).set (unhide HDT) (o4.mono (fun k _ e => by omega)))

theorem numOf_wide (b : List UInt8) : numOf 3 b = sgn 18446744073709551616 (de b) := by unfold numOf; rw [if_neg (by decide), if_neg (by decide)]
theorem boolean_any (h : DcAt w db rb cb depth v r c) (hT : Tabs w) (L m n : Nat) (hL : L ≤ r.length) (hr : r.length ≤ 140737488355328) :
    Calls Tryd.prog 46 #[.pointer (some ⟨db, 0, none⟩), .int .i64 L] w (ROut w db rb cb depth v m (rdr n 6 L r c)) := by
  have e : rdr n 6 L r c = chk (fun x d => (decide (d.length = 0) && decide ((0 : Nat) = 0)) && (decide (x = 0) || decide (x = 1))) (if L = 8 then .ok (sgn 18446744073709551616 (de (r.take 8))) [] [] (r.drop 8) c else .err 5) := by
    rw [rdr_bool n L r c hL, ← numOf_wide]
    by_cases h8 : L = 8
    · rw [if_pos h8, chk]
      by_cases h5 : numOf 3 (r.take 8) = 0 ∨ numOf 3 (r.take 8) = 1
      · rw [if_pos ⟨h8, h5⟩, if_pos (by simpa using h5)]
      · rw [if_neg (fun h => h5 h.2), if_neg (by simpa using h5)]
    · rw [if_neg h8, if_neg (fun h => h8 h.1)]; rfl
  rw [e]
  refine wrap_boolean h L m _ (fun W o => checked_boolean (h.same o) (hT.same o) L m _ _ (fun W' h' => number_any h' L m hL hr) ?_ (fun n d W' da dc ka kc hx _ => isBoolean_any 0 0 n da d.length dc ka 0 kc W'))
  by_cases h8 : L = 8
  · rw [if_pos h8]; exact Or.inr ⟨_, _, _, _, rfl⟩
  · rw [if_neg h8]; exact Or.inl rfl
theorem blocks_any (h : DcAt w db rb cb depth v r c) (hT : Tabs w) (L m n : Nat) (hL : L ≤ r.length) (hr : r.length ≤ 140737488355328) :
    Calls Tryd.prog 44 #[.pointer (some ⟨db, 0, none⟩), .int .i64 L] w (ROut w db rb cb depth v m (rdr n 4 L r c)) := by
  have e : rdr n 4 L r c = chk (fun x d => (decide (x = 0) && decide ((0 : Nat) = 0)) && (decide (0 < d.length) && decide (d.length % 8 = 0))) (.ok 0 (r.take L) [] (r.drop L) c) := by
    rw [rdr_data n 4 L r c (by decide), chk]
    congr 1
  rw [e]
  exact wrap_blocks h L m _ (fun W o => checked_blocks (h.same o) (hT.same o) L m _ _ (fun W' h' => data_any h' L m hL hr) (Or.inr ⟨_, _, _, _, rfl⟩) (fun n d W' da dc ka kc hx _ => isBlocks_any 0 0 n da d.length dc ka 0 kc W'))
theorem text_any (h : DcAt w db rb cb depth v r c) (hT : Tabs w) (L m n : Nat) (hL : L ≤ r.length) (hr : r.length ≤ 140737488355328) :
    Calls Tryd.prog 47 #[.pointer (some ⟨db, 0, none⟩), .int .i64 L] w (ROut w db rb cb depth v m (rdr n 7 L r c)) := by
  have e : rdr n 7 L r c = chk (fun x d => (decide (x = 0) && decide ((0 : Nat) = 0)) && Lib.validD d) (.ok 0 (r.take L) [] (r.drop L) c) := by
    rw [rdr_data n 7 L r c (by decide), chk]
    congr 1
  rw [e]
  exact wrap_text h L m _ (fun W o => checked_text (h.same o) (hT.same o) L m _ _ (fun W' h' => data_any h' L m hL hr) (Or.inr ⟨_, _, _, _, rfl⟩) (fun n d W' da dc ka kc hx hT' => isText_any 0 0 n da d dc ka 0 kc W' hx hT'))
theorem data_rdr (n L : Nat) (r : List UInt8) (c : Nat) : rdr n 8 L r c = .ok 0 (r.take L) [] (r.drop L) c := by
  rw [rdr_data n 8 L r c (by decide), if_pos (by simp [bodyB, isData])]

set_option maxHeartbeats 2000000 in
set_option maxRecDepth 100000 in
theorem padding_any (h : DcAt w db rb cb depth v r c) (L : Nat) (hL : L ≤ 140737488355320) (hr : r.length ≤ 140737488355328) :
    Calls Tryd.prog 49 #[.pointer (some ⟨db, 0, none⟩), .int .i64 L] w fun e w' => match pads (pad8 L - L) r with
      | .err er => e = .returned (.int .i64 er) ∧ Only (fun k => k = rb ∨ k = cb) w w'
      | .ok r' => e = .returned (.int .i64 0) ∧ ∃ v', DTo w db rb cb depth v w' v' r' c := by
  obtain ⟨p, hp⟩ : ∃ p, pad8 L = p := ⟨_, rfl⟩
  have hple := pad8_ge L
  have hplt : pad8 L < L + 8 := by unfold pad8; omega
  have HF := hide (filled_any L w (by omega))
  rw [hp] at HF hple hplt ⊢
  obtain ⟨q, hq⟩ : ∃ q, p - L = q := ⟨_, rfl⟩
  rw [hq]
  have hsub : (p : Int) - (L : Int) = (q : Int) := by omega
  obtain ⟨X, hX⟩ : ∃ X : Ending → World → Prop, X = fun e w' => (match pads q r with
      | .err er => e = .returned (.int .i64 er) ∧ Only (fun k => k = rb ∨ k = cb) w w'
      | .ok r' => e = .returned (.int .i64 0) ∧ ∃ v', DTo w db rb cb depth v w' v' r' c) := ⟨_, rfl⟩
  have HX : Hid (∀ e w', X e w' ↔ (match pads q r with
      | .err er => e = .returned (.int .i64 er) ∧ Only (fun k => k = rb ∨ k = cb) w w'
      | .ok r' => e = .returned (.int .i64 0) ∧ ∃ v', DTo w db rb cb depth v w' v' r' c)) := fun e w' => by rw [hX]
  show Calls Tryd.prog _ _ w (fun e w' => (match pads q r with
      | .err er => e = .returned (.int .i64 er) ∧ Only (fun k => k = rb ∨ k = cb) w w'
      | .ok r' => e = .returned (.int .i64 0) ∧ ∃ v', DTo w db rb cb depth v w' v' r' c))
  rw [← hX]
  have HD := hide h
  have hql : (q : Int) < 9223372036854775808 := by omega
  clear hX hp hq h
  go_enter Tryd.func49, Tryd.ntmps49
  go_wp2_with fail
  refine (unhide HF).mono ?_
  rintro e w1 ⟨rfl, rfl⟩
  clear HF
  go_wp2_with fail
  go_loopw [9] (fun j wr => ∃ k : Nat, k ≤ q ∧ j = .int .i64 k ∧ ∃ v' r', pads q r = pads (q - k) r' ∧ r'.length ≤ r.length ∧ DTo w1 db rb cb depth v wr v' r' c) (fun j _ => q - (intOf j).toNat)
  case atStart => exact ⟨0, Nat.zero_le _, rfl, v, r, rfl, Nat.le_refl _, (unhide HD).to (Only.refl _ _)⟩
  case round =>
    obtain ⟨k, hk, rfl, v2, r2, hpd, hr2, hdt⟩ := hrel
    have HDT := hide hdt
    have HPD := hide hpd
    by_cases hlt : k < q
    case neg =>
      obtain rfl : q = k := by omega
      rw [Nat.sub_self, pads] at HPD
      clear hdt hpd
      go_wp2
      rw [unhide HX, unhide HPD]
      exact ⟨rfl, v2, unhide HDT⟩
    case pos =>
    have hlt' : (k : Int) < (q : Int) := by omega
    obtain ⟨c0, c1, c2, c3, c4⟩ := hdt.now.cells
    have HLf := hide (dc_left hdt.now)
    obtain ⟨q', hq'⟩ : ∃ q', q - k = q' + 1 := ⟨q - k - 1, by omega⟩
    rw [hq'] at HPD
    cases r2 with
    | nil =>
      rw [pads] at HPD
      simp only [List.length_nil] at HLf
      clear hdt hpd
      go_wp2_with fail
      refine (unhide HLf).mono ?_
      rintro e w2 ⟨rfl, rfl⟩
      go_wp2
      rw [unhide HX, unhide HPD]
      exact ⟨rfl, (unhide HDT).only⟩
    | cons b r3 =>
      have HU := hide (dc_u8 hdt.now (by simp) (by omega))
      have hde : de ((b :: r3).take 1) = b.toNat := by simp [de]
      rw [hde] at HU
      simp only [List.drop_succ_cons, List.drop_zero, List.length_cons] at HU HLf hr2
      rw [pads] at HPD
      have hl0 : (((r3.length + 1 : Nat) : Int) == 0) = false := by rw [beq_eq_false_iff_ne]; omega
      clear hdt hpd hde
      have hr3 : r3.length ≤ r.length := by omega
      generalize r3.length + 1 = rl at *
      go_wp2_with fail
      refine (unhide HLf).mono ?_
      rintro e w2 ⟨rfl, rfl⟩
      clear HLf
      go_wp2_with fail
      refine (unhide HU).mono ?_
      rintro e w3 ⟨rfl, v3, hd3⟩
      have HDT3 := hide ((unhide HDT).trans hd3)
      clear hd3 c0 c1 c2 c3 c4 HU HDT
      by_cases hb : b = 0
      case neg =>
        have HB0 : Hid (((b.toNat : Int) != 0) = true) := by
          show _ = _
          rw [bne_iff_ne]
          intro e
          exact hb (UInt8.toNat_inj.1 (by simp; omega))
        rw [if_pos hb] at HPD
        clear hb
        generalize b.toNat = x at *
        go_upto_if 22 with fail
        rw [unhide HB0]
        go_wp2
        rw [unhide HX, unhide HPD]
        exact ⟨rfl, (unhide HDT3).only⟩
      case pos =>
        subst hb
        rw [if_neg (by decide)] at HPD
        have hb0 : (((0 : UInt8).toNat : Nat) : Int) = 0 := rfl
        rw [hb0]
        clear hb0
        have HQ' : Hid (q - (k + 1) = q') := by show _ = _; omega
        go_wp2
        go_roundw
        case rel => exact ⟨k + 1, by omega, by go_num, v3, r3, by rw [unhide HQ']; exact unhide HPD, by omega, unhide HDT3⟩
        case measure => simp [intOf]; omega
end
end Tt
end Go.Proofs.YtedmfjnmclbkpaaDoor
