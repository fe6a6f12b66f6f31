/-
  The decoder at any bytes: item, Decode.
-/
import Derived.Test.YtedmfjnmclbkpaaDoorTtKids
namespace Go.Proofs.YtedmfjnmclbkpaaDoor
open Go.RowKit
set_option linter.unusedSimpArgs false
set_option linter.unusedVariables false
namespace Tt

theorem rdr_len {n : Nat} {y : Int} {L : Nat} {r : List UInt8} {c : Nat} {nn : Int} {d : List UInt8} {ks : List It} {r' : List UInt8} {c' : Nat} (h : rdr n y L r c = .ok nn d ks r' c') : r'.length ≤ r.length := by
  unfold rdr at h
  by_cases h1 : y = 1
  · rw [if_pos h1] at h
    cases hm : many (dOne n) L (r.take L) c [] with
    | err e' => rw [hm] at h; cases h
    | ok ks c' => rw [hm] at h; simp only [RB.ok.injEq] at h; rw [← h.2.2.2.1, List.length_drop]; omega
  · rw [if_neg h1] at h
    by_cases h2 : leafB y (r.take L) = true
    · rw [if_pos h2] at h; simp only [RB.ok.injEq] at h; rw [← h.2.2.2.1, List.length_drop]; omega
    · rw [if_neg h2] at h; cases h
theorem numOf_2 (b : List UInt8) : numOf 2 b = sgn 4294967296 (de b) := by unfold numOf; rw [if_pos rfl]
theorem numOf_5 (b : List UInt8) : numOf 5 b = (de b : Int) := by unfold numOf; rw [if_neg (by decide), if_pos (by decide)]
theorem numOf_10 (b : List UInt8) : numOf 10 b = (de b : Int) := by unfold numOf; rw [if_neg (by decide), if_pos (by decide)]
theorem hdr_err {n : Nat} {bs : List UInt8} {c : Nat} {e : Int} (h : hdr n bs c = .err e) : 0 < e := by
  unfold hdr at h
  repeat' split at h
  all_goals first | (simp only [RH.err.injEq] at h; omega) | cases h
theorem hdr_ok {n : Nat} {bs : List UInt8} {c T Y L : Nat} (h : hdr n bs c = .ok T Y L) : tagB T = true ∧ typB Y = true ∧ c < 600 ∧ 8 ≤ bs.length ∧ L ≤ bs.length - 8 := by
  unfold hdr at h
  by_cases h8 : bs.length < 8
  · rw [if_pos h8] at h; cases h
  rw [if_neg h8] at h
  by_cases hn : n = 0
  · rw [if_pos hn] at h; cases h
  rw [if_neg hn] at h
  by_cases hc : 600 ≤ c
  · rw [if_pos hc] at h; cases h
  rw [if_neg hc] at h
  by_cases ht : (tagB (tagOf bs) && typB (typOf bs)) = false
  · rw [if_pos ht] at h; cases h
  rw [if_neg ht] at h
  by_cases hl : bs.length - 8 < lnOf bs
  · rw [if_pos hl] at h; cases h
  rw [if_neg hl] at h
  simp only [RH.ok.injEq] at h
  obtain ⟨rfl, rfl, rfl⟩ := h
  rw [Bool.not_eq_false, Bool.and_eq_true] at ht
  exact ⟨ht.1, ht.2, by omega, by omega, by omega⟩

section
variable {w : World} {db rb cb depth : Nat} {v : Value} {r : List UInt8} {c : Nat}

set_option maxHeartbeats 2000000 in
set_option maxRecDepth 100000 in
theorem item_err (h : DcAt w db rb cb depth v r c) (m : Nat) (er : Int) (hep : 0 < er)
    (HH : Hid (∀ W, DcAt W db rb cb depth v r c → Calls Tryd.prog 40 #[.pointer (some ⟨db, 0, none⟩)] W (HOut W db rb cb depth v r c (.err er)))) :
    Calls Tryd.prog 25 #[.pointer (some ⟨db, 0, none⟩)] w (IOut w db rb cb depth v m (.err er)) := by
  obtain ⟨w1, hw1, h1, hb, o1⟩ := zeroed h
  have HD := hide h
  have HB := hide hb
  have HO := hide o1
  have HC := hide (unhide HH _ h1)
  have hne : ¬ (w.heap.size = rb ∨ w.heap.size = cb) := by
    have h1 := lt_of_block h.rd.blk
    have h2 := lt_of_block h.cnt
    omega
  have e4 : (er == 0) = false := by rw [beq_eq_false_iff_ne]; omega
  clear h h1 hb o1 HH
  go_enter Tryd.func25, Tryd.ntmps25
  subst hw1
  go_wp2_with fail
  refine (unhide HC).mono ?_
  rintro e w2 ⟨rfl, o2⟩
  have hb2 := o2.heap (unhide HB) hne
  have HO2 := hide (((unhide HO).mono (fun _ _ e => e.elim)).trans o2 (fun _ _ e => e))
  have oI : Only (fun _ => False) w2 (w2.alloc (.cells #[.int .i64 0, .int .i64 0, .int .i64 0, .slice none 0 0, .slice none 0 0] 25)) := (Only.refl _ _).alloc _
  have hb3 := oI.heap hb2 (fun e => e)
  have HB3 := hide hb3
  have HO3 := hide ((unhide HO2).trans oI (fun _ _ e => e.elim))
  have HC3 := hide (cells_of5 hb3)
  have HF3 : Hid (∀ i, (w2.alloc (.cells #[.int .i64 0, .int .i64 0, .int .i64 0, .slice none 0 0, .slice none 0 0] 25)).frozen? ⟨w.heap.size, i, none⟩ = false) := by show ∀ i, _; simp [World.frozen?, hb3]
  clear o2 hb2 oI hb3 HC
  go_upto_region 2 with fail
  generalize w2.alloc (.cells #[.int .i64 0, .int .i64 0, .int .i64 0, .slice none 0 0, .slice none 0 0] 25) = w3 at *
  have hf := unhide HF3
  obtain ⟨s0, s1, s2, s3, s4⟩ := unhide HC3
  go_wp2
  obtain ⟨hb7, o7⟩ := put5 (unhide HB3) (.int .i64 0) (.int .i64 0) (.int .i64 0) (.slice none 0 0) (.slice none 0 0)
  refine bodyPost_ret (results_it2 rfl _ _ w.heap.size 0 0 0 none 0 0 none 0 0 rfl (cells_of5 hb7)) rfl ?_
  exact iOut_err rfl (only_set (unhide HO3) (o7.mono (fun k _ e => by omega)))
end

theorem item_any : ∀ n, DecC n := by
  intro n
  induction n with
  | zero =>
    intro db rb cb depth v r c w h hd hc hr hT
    rw [dOne_eq]
    cases hh : hdr 0 r c with
    | err er => exact item_err h 0 er (hdr_err hh) (fun W h' => by have := head_any h' 0 hd hc (by omega); rw [hh] at this; exact this)
    | ok T Y L =>
      unfold hdr at hh
      repeat' split at hh
      all_goals first | omega | cases hh
  | succ n ih =>
    intro db rb cb depth v r c w h hd hc hr hT
    rw [dOne_eq]
    cases hh : hdr (n + 1) r c with
    | err er => exact item_err h (n + 1) er (hdr_err hh) (fun W h' => by have := head_any h' (n + 1) hd hc (by omega); rw [hh] at this; exact this)
    | ok T Y L =>
      obtain ⟨ht, hy, hc6, h8, hl⟩ := hdr_ok hh
      have HHd : ∀ W, DcAt W db rb cb depth v r c → Calls Tryd.prog 40 #[.pointer (some ⟨db, 0, none⟩)] W (HOut W db rb cb depth v r c (.ok T Y L)) := fun W h' => by have := head_any h' (n + 1) hd hc (by omega); rw [hh] at this; exact this
      have hld : (r.drop 8).length = r.length - 8 := List.length_drop ..
      have hy' : 1 ≤ Y ∧ Y ≤ 10 := by unfold typB at hy; simp at hy; omega
      have hcs : Y = 1 ∨ Y = 2 ∨ Y = 3 ∨ Y = 4 ∨ Y = 5 ∨ Y = 6 ∨ Y = 7 ∨ Y = 8 ∨ Y = 9 ∨ Y = 10 := by omega
      have hpos := fun er => rdr_err n (dOne_err n) Y L (r.drop 8) (c + 1) er
      have hlen := fun nn d ks r' c' (e : rdr n Y L (r.drop 8) (c + 1) = .ok nn d ks r' c') => Nat.le_trans (rdr_len e) (show (r.drop 8).length ≤ 140737488355328 by omega)
      simp only [Nat.add_sub_cancel]
      clear hh hy hy' ht
      rcases hcs with rfl | rfl | rfl | rfl | rfl | rfl | rfl | rfl | rfl | rfl
      · exact item_1 h hT (n + 1) T L _ HHd (fun W v2 h2 hT2 => kids_any ih h2 hT2 L (by omega) (by omega) (by omega) (by omega)) hpos hlen (by omega)
      · exact item_2 h hT (n + 1) T L _ HHd (fun W v2 h2 hT2 => (by have := signed_any (m := n + 1) h2 L (by omega) (by omega); rw [show ((2 : Nat) : Int) = 2 from rfl, rdr_narrow n 2 L _ _ (by decide) (by omega), numOf_2]; exact this)) hpos hlen (by omega)
      · exact item_3 h hT (n + 1) T L _ HHd (fun W v2 h2 hT2 => (by have := number_any (m := n + 1) h2 L (by omega) (by omega); rw [show ((3 : Nat) : Int) = 3 from rfl, rdr_wide n 3 L _ _ (by decide) (by omega), numOf_wide]; exact this)) hpos hlen (by omega)
      · exact item_4 h hT (n + 1) T L _ HHd (fun W v2 h2 hT2 => blocks_any h2 hT2 L (n + 1) n (by omega) (by omega)) hpos hlen (by omega)
      · exact item_5 h hT (n + 1) T L _ HHd (fun W v2 h2 hT2 => (by have := unsigned_any (m := n + 1) h2 L (by omega) (by omega); rw [show ((5 : Nat) : Int) = 5 from rfl, rdr_narrow n 5 L _ _ (by decide) (by omega), numOf_5]; exact this)) hpos hlen (by omega)
      · exact item_6 h hT (n + 1) T L _ HHd (fun W v2 h2 hT2 => boolean_any h2 hT2 L (n + 1) n (by omega) (by omega)) hpos hlen (by omega)
      · exact item_7 h hT (n + 1) T L _ HHd (fun W v2 h2 hT2 => text_any h2 hT2 L (n + 1) n (by omega) (by omega)) hpos hlen (by omega)
      · exact item_8 h hT (n + 1) T L _ HHd (fun W v2 h2 hT2 => (by have := data_any (m := n + 1) h2 L (by omega) (by omega); rw [show ((8 : Nat) : Int) = 8 from rfl, data_rdr]; exact this)) hpos hlen (by omega)
      · exact item_9 h hT (n + 1) T L _ HHd (fun W v2 h2 hT2 => (by have := number_any (m := n + 1) h2 L (by omega) (by omega); rw [show ((9 : Nat) : Int) = 9 from rfl, rdr_wide n 9 L _ _ (by decide) (by omega), numOf_wide]; exact this)) hpos hlen (by omega)
      · exact item_10 h hT (n + 1) T L _ HHd (fun W v2 h2 hT2 => (by have := unsigned_any (m := n + 1) h2 L (by omega) (by omega); rw [show ((10 : Nat) : Int) = 10 from rfl, rdr_narrow n 10 L _ _ (by decide) (by omega), numOf_10]; exact this)) hpos hlen (by omega)

/-- what Decode answers -/
def DecAs (w w' : World) (e : Ending) (R : RD) : Prop := match R with
  | .err er => e = .returned (.tuple #[zeroI, .int .i64 er])
  | .ok i => ∃ dv kv, e = .returned (.tuple #[ival i dv kv, .int .i64 0]) ∧ ItAt (fun k => w.heap.size ≤ k) w' 13 i dv kv
theorem decAs_err {w w' : World} {R : RD} {er : Int} (h : R = .err er) : DecAs w w' (.returned (.tuple #[zeroI, .int .i64 er])) R := by rw [h]; exact rfl
theorem decAs_ok {w w' : World} {R : RD} {i : It} {dv kv : Value} (h : R = .ok i) (hi : ItAt (fun k => w.heap.size ≤ k) w' 13 i dv kv) : DecAs w w' (.returned (.tuple #[ival i dv kv, .int .i64 0])) R := by rw [h]; exact ⟨dv, kv, rfl, hi⟩

set_option maxHeartbeats 2000000 in
set_option maxRecDepth 100000 in
theorem Decode_any (xv : Value) (bs : List UInt8) (w : World) (hx : Has w xv bs) (hT : Tabs w) (hl : bs.length ≤ 140737488355328) :
    Calls Tryd.prog 9 #[xv] w fun e w' => DecAs w w' e (dAll bs) ∧ Only (fun _ => False) w w' := by
  obtain ⟨R, hR⟩ : ∃ R, dAll bs = R := ⟨_, rfl⟩
  rw [hR]
  unfold dAll at hR
  obtain ⟨xa, xc, hxv, _⟩ := hx.shape
  subst hxv
  obtain ⟨cz, o1⟩ := boxed w (.int .i64 0) (.int .i64 0) (.int .i64 0) (.slice none 0 0) (.slice none 0 0)
  have hbz := heap_alloc_new w (.cells #[.int .i64 0, .int .i64 0, .int .i64 0, .slice none 0 0, .slice none 0 0] 25)
  have HE := hide hR
  have HO := hide o1
  have HB := hide hbz
  have HT := hide hT
  have HX := hide hx
  obtain ⟨bl, hbl⟩ : ∃ bl, bs.length = bl := ⟨_, rfl⟩
  have HBL := hide hbl
  rw [hbl] at HX HE hl ⊢
  clear hx hT hR o1 hbz hbl
  by_cases h8 : 8192 < bl
  case pos =>
    have h8z : (8192 : Int) < (bl : Int) := by omega
    rw [if_pos h8] at HE
    clear h8 cz
    go_enter Tryd.func9, Tryd.ntmps9
    go_wp2
    refine bodyPost_ret (results_it2 rfl _ _ w.heap.size 0 0 0 none 0 0 none 0 0 rfl (cells_of5 (unhide HB))) rfl ?_
    exact ⟨decAs_err (unhide HE).symm, unhide HO⟩
  case neg =>
  have h8z : ¬ (8192 : Int) < (bl : Int) := by omega
  rw [if_neg h8] at HE
  have HNR := hide (RO.newReader_any (.slice xa bl xc) bs _ ((unhide HX).only (unhide HO) (fun _ _ _ e => e)) (by have := unhide HBL; omega))
  have HS1 : Hid ((w.alloc (.cells #[.int .i64 0, .int .i64 0, .int .i64 0, .slice none 0 0, .slice none 0 0] 25)).heap.size = w.heap.size + 1) := by show _ = _; simp
  clear cz
  go_enter Tryd.func9, Tryd.ntmps9
  go_wp2_with fail
  refine (unhide HNR).mono ?_
  rintro e w2 ⟨rb, rfl, v2, hr2, o2, hb2, hk2⟩
  generalize w.alloc (.cells #[.int .i64 0, .int .i64 0, .int .i64 0, .slice none 0 0, .slice none 0 0] 25) = w1 at *
  have oC : Only (fun _ => False) w2 (w2.alloc (.cells #[.int .i64 0] 3)) := (Only.refl _ _).alloc _
  have oD : Only (fun _ => False) (w2.alloc (.cells #[.int .i64 0] 3)) ((w2.alloc (.cells #[.int .i64 0] 3)).alloc (.cells #[.pointer (some ⟨rb, 0, none⟩), .int .i64 1, .pointer (some ⟨w2.heap.size, 0, none⟩)] 52)) := (Only.refl _ _).alloc _
  have hcn := oD.heap (heap_alloc_new w2 (.cells #[.int .i64 0] 3)) (fun e => e)
  have hdn := heap_alloc_new (w2.alloc (.cells #[.int .i64 0] 3)) (.cells #[.pointer (some ⟨rb, 0, none⟩), .int .i64 1, .pointer (some ⟨w2.heap.size, 0, none⟩)] 52)
  have hsC : (w2.alloc (.cells #[.int .i64 0] 3)).heap.size = w2.heap.size + 1 := by simp
  rw [hsC] at hdn
  have hlr := lt_of_block hr2.blk
  have hs2 := o2.size
  have h2w := (unhide HT).two
  have hdc : DcAt ((w2.alloc (.cells #[.int .i64 0] 3)).alloc (.cells #[.pointer (some ⟨rb, 0, none⟩), .int .i64 1, .pointer (some ⟨w2.heap.size, 0, none⟩)] 52)) (w2.heap.size + 1) rb w2.heap.size 1 v2 bs 0 :=
    ⟨hdn, (hr2.only oC (fun e => e) (fun _ _ e => e)).only oD (fun e => e) (fun _ _ e => e), hcn, ⟨by omega, by omega, by omega⟩, fun k e => by have := (hk2 k e).2; omega, fun k e => by have := (hk2 k e).2; have := oC.size; have := oD.size; omega, by have := unhide HS1; omega, by have := unhide HS1; omega⟩
  have HO4 := hide ((((unhide HO).trans o2 (fun _ _ e => e)).trans oC (fun _ _ e => e)).trans oD (fun _ _ e => e))
  have HB4 := hide (oD.heap (oC.heap (o2.heap (unhide HB) (fun e => e)) (fun e => e)) (fun e => e))
  have HItem := hide (item_any 12 (w2.heap.size + 1) rb w2.heap.size 1 v2 bs 0 _ hdc (by decide) (by decide) (by have := unhide HBL; omega) ((unhide HT).same (unhide HO4)))
  have hup : w.heap.size < rb ∧ w.heap.size < w2.heap.size := by have := unhide HS1; omega
  have HDC := hide hdc
  clear oC oD hcn hdn hsC hlr hs2 h2w hdc hk2 hr2 o2 hb2 HNR
  go_upto_region 4 with fail
  generalize (w2.alloc (.cells #[.int .i64 0] 3)).alloc (.cells #[.pointer (some ⟨rb, 0, none⟩), .int .i64 1, .pointer (some ⟨w2.heap.size, 0, none⟩)] 52) = w4 at *
  generalize w2.heap.size = cb at *
  cases hdo : dOne 12 bs 0 with
  | err er =>
    have hep := dOne_err _ _ _ _ hdo
    have e4 : (er == 0) = false := by rw [beq_eq_false_iff_ne]; omega
    rw [hdo] at HE HItem
    clear hdo
    go_wp2_with fail
    refine (unhide HItem).mono ?_
    rintro e w5 ⟨rfl, o5⟩
    have hb5 := o5.heap (unhide HB4) (show ¬ (w.heap.size = rb ∨ w.heap.size = cb) by omega)
    have HO5 := hide ((unhide HO4).trans o5 (fun i hi e => by omega))
    have oI : Only (fun _ => False) w5 (w5.alloc (.cells #[.int .i64 0, .int .i64 0, .int .i64 0, .slice none 0 0, .slice none 0 0] 25)) := (Only.refl _ _).alloc _
    have hb6 := oI.heap hb5 (fun e => e)
    have HB6 := hide hb6
    have HO6 := hide ((unhide HO5).trans oI (fun _ _ e => e))
    have HC6 := hide (cells_of5 hb6)
    have HF6 : Hid (∀ i, (w5.alloc (.cells #[.int .i64 0, .int .i64 0, .int .i64 0, .slice none 0 0, .slice none 0 0] 25)).frozen? ⟨w.heap.size, i, none⟩ = false) := by show ∀ i, _; simp [World.frozen?, hb6]
    clear o5 hb5 oI hb6 HItem
    go_upto_region 5 with fail
    generalize w5.alloc (.cells #[.int .i64 0, .int .i64 0, .int .i64 0, .slice none 0 0, .slice none 0 0] 25) = w6 at *
    have hf := unhide HF6
    obtain ⟨s0, s1, s2, s3, s4⟩ := unhide HC6
    go_wp2
    obtain ⟨hb7, o7⟩ := put5 (unhide HB6) (.int .i64 0) (.int .i64 0) (.int .i64 0) (.slice none 0 0) (.slice none 0 0)
    refine bodyPost_ret (results_it2 rfl _ _ w.heap.size 0 0 0 none 0 0 none 0 0 rfl (cells_of5 hb7)) rfl ?_
    exact ⟨decAs_err (unhide HE).symm, (unhide HO6).trans o7 (fun i hi e => by omega)⟩
  | ok it r' c' =>
    rw [hdo] at HE HItem
    clear hdo
    go_wp2_with fail
    refine (unhide HItem).mono ?_
    rintro e w5 ⟨dv, kv, v5, rfl, hit, d5⟩
    obtain ⟨⟨da, dc, hds⟩, ka, kc, hks⟩ := hit.shapes
    subst hds
    subst hks
    have hb5 := d5.only.heap (unhide HB4) (show ¬ (w.heap.size = rb ∨ w.heap.size = cb) by omega)
    have HO5 := hide ((unhide HO4).trans d5.only (fun i hi e => by omega))
    obtain ⟨⟨x0, x1, x2, x3, x4⟩, oI⟩ := boxed w5 (.int .i64 it.tag) (.int .i64 it.typ) (.int .i64 it.int) (.slice da it.data.length dc) (.slice ka it.kids.length kc)
    have hb6 := oI.heap hb5 (fun e => e)
    have hdc6 := d5.now.same oI
    obtain ⟨c0, c1, c2, c3, c4⟩ := hdc6.cells
    have HLf := hide (dc_left hdc6)
    have HB6 := hide hb6
    have HO6 := hide ((unhide HO5).trans oI (fun _ _ e => e))
    have hs4 := (unhide HO4).size
    have HIT6 := hide ((ItAt.mono (R := fun k => w.heap.size < k) (fun k hk hq => by have := lt_of_block (unhide HB4); omega) _ hit).same oI)
    have hlt5 := lt_of_block hb5
    have hn5 : ¬ w5.heap.size = w.heap.size := by omega
    clear d5 hb5 oI hb6 hdc6 HItem hit hlt5 hs4
    go_upto_region 5 with fail
    generalize w5.alloc (.cells #[.int .i64 it.tag, .int .i64 it.typ, .int .i64 it.int, .slice da it.data.length dc, .slice ka it.kids.length kc] 25) = w6 at *
    have hb6 := unhide HB6
    have hf : ∀ i, w6.frozen? ⟨w.heap.size, i, none⟩ = false := by simp [World.frozen?, hb6]
    obtain ⟨s0, s1, s2, s3, s4⟩ := cells_of5 hb6
    clear hb6
    by_cases hr0 : r' = []
    case pos =>
      subst hr0
      rw [if_pos rfl] at HE
      simp only [List.length_nil] at HLf
      go_wp2_with fail
      refine (unhide HLf).mono ?_
      rintro e w7 ⟨rfl, rfl⟩
      go_wp2
      obtain ⟨hb7, o7⟩ := put5 (unhide HB6) (.int .i64 it.tag) (.int .i64 it.typ) (.int .i64 it.int) (.slice da it.data.length dc) (.slice ka it.kids.length kc)
      refine bodyPost_ret (results_it2 rfl _ _ w.heap.size it.tag it.typ it.int da it.data.length dc ka it.kids.length kc rfl (cells_of5 hb7)) rfl ?_
      exact ⟨decAs_ok (unhide HE).symm (ItAt.mono (fun k _ hk => by omega) _ (ItAt.only o7 (fun k _ hk e => by omega) _ (unhide HIT6))), (unhide HO6).trans o7 (fun i hi e => by omega)⟩
    case neg =>
      have hrl : 0 < r'.length := List.length_pos_iff.2 hr0
      have hrz : (0 : Int) < (r'.length : Int) := by omega
      rw [if_neg hr0] at HE
      clear hr0
      generalize r'.length = rl at *
      go_wp2_with fail
      refine (unhide HLf).mono ?_
      rintro e w7 ⟨rfl, rfl⟩
      go_wp2
      obtain ⟨hb7, o7⟩ := put5 (unhide HB6) (.int .i64 0) (.int .i64 0) (.int .i64 0) (.slice none 0 0) (.slice none 0 0)
      refine bodyPost_ret (results_it2 rfl _ _ w.heap.size 0 0 0 none 0 0 none 0 0 rfl (cells_of5 hb7)) rfl ?_
      exact ⟨decAs_err (unhide HE).symm, (unhide HO6).trans o7 (fun i hi e => by omega)⟩
end Tt
end Go.Proofs.YtedmfjnmclbkpaaDoor
