/-
  The Writer's number: package locksmithref1.
  The calls of a Writer that lie over its number: package locksmithref1.
  A Writer of the call's own: package locksmithref1.
  The reference's Reader: Raw and u.
  The calls of a Reader over its number: package locksmithref1.
  A Reader of the call's own: package locksmithref1.
-/
import Derived.Test.YtmcobkcnpnfobaaGreatWr
import Derived.Test.YtmcobkcnpnfobaaGreatFresh
import Derived.Test.YtmcobkcnpnfobaaGreatRdUni
namespace Go.Proofs.YtmcobkcnpnfobaaGreat
open Go.RowKit
set_option linter.unusedSimpArgs false
set_option linter.unusedVariables false

namespace WR

set_option maxHeartbeats 400000 in
theorem number_any (b : Nat) (v : Value) (bs : List UInt8) (n : Nat) (width : Nat) (w : World) (hn : n < 18446744073709551616) (hw8 : width ≤ 8)
    (h : WrAt 48 w b v bs) (hr : bs.length + 9 ≤ 140737488355328) :
    Calls Tryz.prog 39 #[.pointer (some ⟨b, 0, none⟩), .int .u64 n, .int .i64 width] w fun e w' => e = .returned (.tuple #[]) ∧ ∃ v', Wrote 48 w b v w' v' (bs ++ be width n) := by
  obtain ⟨i0, hi, hz0, hz1, hz2⟩ := info_parts Tryz.info5
  go_enter Tryz.func39, Tryz.ntmps39
  go_wp2
  go_loopg [6] width (fun k p wr => k ≤ width ∧ p = .int .i64 ((k : Int) - 1) ∧ ∃ v', Wrote 48 w b v wr v' (bs ++ (be width n).take (width - k)))
  case atStart => exact ⟨Nat.le_refl _, rfl, v, by simpa using h.wrote⟩
  case round =>
    obtain ⟨hk, rfl, v', hwrt⟩ := hrel
    by_cases hlt : 0 < gk
    · obtain ⟨m, rfl⟩ : ∃ m, gk = m + 1 := ⟨gk - 1, by omega⟩
      have hlen : (bs ++ (be width n).take (width - (m + 1))).length ≤ bs.length + 8 := by simp [be_length]; omega
      obtain ⟨ys, hys⟩ : ∃ ys, ys = bs ++ (be width n).take (width - (m + 1)) := ⟨_, rfl⟩
      rw [← hys] at hwrt hlen
      obtain ⟨q, hq⟩ : ∃ q, q = n / 2 ^ (8 * m) := ⟨_, rfl⟩
      have hend : ys ++ [UInt8.ofNat q] = bs ++ (be width n).take (width - m) := by
        rw [hys, hq, show width - m = width - (m + 1) + 1 by omega, be_take _ _ _ (by omega), show width - 1 - (width - (m + 1)) = m by omega, List.append_assoc]
      have Hend : Hid (ys ++ [UInt8.ofNat q] = bs ++ (be width n).take (width - m)) := hend
      have Hq : Hid (q = n / 2 ^ (8 * m)) := hq
      clear hq hend hys
      have hwr := hwrt.now
      have hc : wr.cell? ⟨b, 0, none⟩ = some v' := cell_of_one hwr.blk
      have hca : ∀ o, (wr.alloc o).cell? ⟨b, 0, none⟩ = some v' := fun o => by rw [World.cell?_alloc_past _ _ _ (Array.getElem?_eq_some_iff.1 hwr.blk).1]; exact hc
      have hone := ownsRow_one hwr.own
      go_wp2_with (at_builtin; refine wpList_push rfl (.tmp 17) (.tmp 24) rfl 48 b v' ys (.slice (some ⟨wr.heap.size, 0, none⟩) 1 1) [UInt8.ofNat q] (by decide) rfl rfl (has_one (by simp [bv_div n m q Hq.out])) (hwr.push rfl) (by simp; omega) ?_; intro ao2 cap2 w2 hc2 hf2 hb2 own2 gr2 at2)
      all_goals
        have R := (hwrt.trans (hwr.laid _)).trans ((hwr.push rfl).stored (by decide) hb2.out own2 gr2 at2)
        rw [Hend.out] at R
        go_roundg m
        case measure => omega
        case rel => exact ⟨by omega, rfl, _, R⟩
    · obtain rfl : gk = 0 := by omega
      go_wp2
      go_end0
      refine ⟨rfl, v', ?_⟩
      rwa [Nat.sub_zero, List.take_of_length_le (by rw [be_length]; exact Nat.le_refl _)] at hwrt

end WR
end Go.Proofs.YtmcobkcnpnfobaaGreat

namespace Go.Proofs.YtmcobkcnpnfobaaGreat
open Go.RowKit
set_option linter.unusedSimpArgs false
set_option linter.unusedVariables false

namespace WR

theorem conv_u64 (n : Int) : (toU64 n : Int) = IntKind.u64.wrap n := by unfold toU64; rw [IntKind.wrap_u64]; omega

theorem u64_lt (n : Int) : toU64 n < 18446744073709551616 := by unfold toU64; rw [IntKind.wrap_u64]; omega

theorem u8_any (b : Nat) (v : Value) (bs : List UInt8) (n : Int) (w : World) (h : WrAt 48 w b v bs) (hr : bs.length + 9 ≤ 140737488355328) :
    Calls Tryz.prog 21 #[.pointer (some ⟨b, 0, none⟩), .int .i64 n] w fun e w' => e = .returned (.tuple #[]) ∧ ∃ v', Wrote 48 w b v w' v' (bs ++ be 1 (toU64 n)) := by
  have hw := number_any b v bs (toU64 n) 1 w (u64_lt n) (by decide) h hr
  rw [conv_u64] at hw
  have HW := hide hw
  clear hw
  go_enter Tryz.func21, Tryz.ntmps21
  go_wp2_with fail
  refine (unhide HW).mono ?_
  rintro e w' ⟨rfl, v', hv⟩
  go_wp2
  go_end0
  exact ⟨rfl, v', hv⟩

theorem u16_any (b : Nat) (v : Value) (bs : List UInt8) (n : Int) (w : World) (h : WrAt 48 w b v bs) (hr : bs.length + 9 ≤ 140737488355328) :
    Calls Tryz.prog 19 #[.pointer (some ⟨b, 0, none⟩), .int .i64 n] w fun e w' => e = .returned (.tuple #[]) ∧ ∃ v', Wrote 48 w b v w' v' (bs ++ be 2 (toU64 n)) := by
  have hw := number_any b v bs (toU64 n) 2 w (u64_lt n) (by decide) h hr
  rw [conv_u64] at hw
  have HW := hide hw
  clear hw
  go_enter Tryz.func19, Tryz.ntmps19
  go_wp2_with fail
  refine (unhide HW).mono ?_
  rintro e w' ⟨rfl, v', hv⟩
  go_wp2
  go_end0
  exact ⟨rfl, v', hv⟩

theorem raw_any (b : Nat) (v : Value) (bs : List UInt8) (xv : Value) (us : List UInt8) (w : World) (hx : Has w xv us) (h : WrAt 48 w b v bs) (hr : bs.length + us.length ≤ 140737488355328) :
    Calls Tryz.prog 40 #[.pointer (some ⟨b, 0, none⟩), xv] w fun e w' => e = .returned (.tuple #[]) ∧ ∃ v', Wrote 48 w b v w' v' (bs ++ us) := by
  have hc : w.cell? ⟨b, 0, none⟩ = some v := cell_of_one h.blk
  have hone := ownsRow_one h.own
  obtain ⟨xo, xc, rfl, _⟩ := hx.shape
  go_enter Tryz.func40, Tryz.ntmps40
  go_wp2_with (at_builtin; refine wpList_push rfl (.tmp 8) (.tmp 9) rfl 48 b v bs _ us (by decide) rfl rfl hx h hr ?_; intro ao2 cap2 w2 hc2 hf2 hb2 own2 gr2 at2)
  go_end0
  exact ⟨rfl, _, h.stored (by decide) hb2.out own2 gr2 at2⟩

/-- the length and the bytes -/
def short (us : List UInt8) : List UInt8 := be 2 (toU64 us.length) ++ us

theorem short_yes (b : Nat) (v : Value) (bs : List UInt8) (xv : Value) (us : List UInt8) (w : World) (hx : Has w xv us) (h : WrAt 48 w b v bs) (hr : bs.length + us.length + 9 ≤ 140737488355328)
    (hl : us.length ≤ 65535) (hsep : us ≠ [] → ∀ k, blk xv = some k → k ≠ b ∧ v.ownBlock ≠ some k) :
    Calls Tryz.prog 20 #[.pointer (some ⟨b, 0, none⟩), xv] w fun e w' => e = .returned (.bool true) ∧ ∃ v', Wrote 48 w b v w' v' (bs ++ short us) := by
  obtain ⟨xo, xc, rfl, _⟩ := hx.shape
  have HW := hide (u16_any b v bs us.length w h (by omega))
  have hl' : ¬ (65535 : Int) < us.length := by omega
  go_enter Tryz.func20, Tryz.ntmps20
  go_wp2_with fail
  refine (unhide HW).mono ?_
  rintro e w1 ⟨rfl, v1, hv1⟩
  have hx1 := hx.only hv1.only (fun hne k hk e => by have := hsep hne k hk; rcases e with e | e; exact this.1 e; exact this.2 e)
  have HW2 := hide (raw_any b v1 _ _ us w1 hx1 hv1.now (by simp [be_length]; omega))
  go_wp2_with fail
  refine (unhide HW2).mono ?_
  rintro e w2 ⟨rfl, v2, hv2⟩
  have R := hv1.trans hv2
  rw [List.append_assoc] at R
  go_wp2
  go_ret
  exact ⟨rfl, v2, R⟩

theorem short_no (b : Nat) (xv : Value) (us : List UInt8) (w : World) (hx : Has w xv us) (hl : 65535 < us.length) :
    Calls Tryz.prog 20 #[.pointer (some ⟨b, 0, none⟩), xv] w fun e w' => e = .returned (.bool false) ∧ w' = w := by
  obtain ⟨xo, xc, rfl, _⟩ := hx.shape
  have hl' : (65535 : Int) < us.length := by omega
  go_enter Tryz.func20, Tryz.ntmps20
  go_wp2
  go_ret
  exact ⟨rfl, rfl⟩

end WR
end Go.Proofs.YtmcobkcnpnfobaaGreat

namespace Go.Proofs.YtmcobkcnpnfobaaGreat
open Go.RowKit
set_option linter.unusedSimpArgs false
set_option linter.unusedVariables false

namespace WR

/-- a writer at b that was made since w0; all that was there in w0 is as it was -/
structure Mine (w0 w : World) (b : Nat) (bs : List UInt8) : Prop where
  at' : ∃ v, WrAt 48 w b v bs ∧ ∀ k, v.ownBlock = some k → w0.heap.size ≤ k
  up : w0.heap.size ≤ b
  only : Only (fun _ => False) w0 w

theorem Mine.same {w0 w w' : World} {b : Nat} {bs : List UInt8} (h : Mine w0 w b bs) (ho : Only (fun _ => False) w w') : Mine w0 w' b bs := by
  obtain ⟨v, hv, hk⟩ := h.at'
  exact ⟨⟨v, hv.only ho (fun h => h) (fun _ _ h => h), hk⟩, h.up, h.only.trans ho (fun _ _ e => e)⟩

theorem Mine.back {w0 w1 w : World} {b : Nat} {bs : List UInt8} (h : Mine w1 w b bs) (ho : Only (fun _ => False) w0 w1) : Mine w0 w b bs := by
  obtain ⟨v, hv, hk⟩ := h.at'
  have := ho.size
  exact ⟨⟨v, hv, fun k e => by have := hk k e; omega⟩, by have := h.up; omega, ho.trans h.only (fun _ _ e => e)⟩

theorem Mine.len_lt {w0 w : World} {b : Nat} {bs : List UInt8} (h : Mine w0 w b bs) : b < w.heap.size := by
  obtain ⟨v, hv, hk⟩ := h.at'
  exact lt_of_block hv.blk

theorem Mine.wrote {w0 w w' : World} {b : Nat} {v v' : Value} {cs : List UInt8} (ho : Only (fun _ => False) w0 w) (hb : w0.heap.size ≤ b) (hk : ∀ k, v.ownBlock = some k → w0.heap.size ≤ k) (h : Wrote 48 w b v w' v' cs) : Mine w0 w' b cs := by
  have := ho.size
  refine ⟨⟨v', h.now, fun k e => ?_⟩, hb, ho.trans h.only (fun i hi e => ?_)⟩
  · rcases h.fresh k e with e | e
    · exact hk k e
    · omega
  · rcases e with e | e
    · omega
    · have := hk i e; omega

theorem toU64_nat (n : Nat) (h : n < 18446744073709551616) : toU64 n = n := by unfold toU64; rw [IntKind.wrap_u64]; omega

section
variable {w0 w : World} {b : Nat} {bs : List UInt8}

theorem mine_u16 (h : Mine w0 w b bs) (n : Nat) (hn : n < 18446744073709551616) (hr : bs.length + 9 ≤ 140737488355328) :
    Calls Tryz.prog 19 #[.pointer (some ⟨b, 0, none⟩), .int .i64 n] w fun e w' => e = .returned (.tuple #[]) ∧ Mine w0 w' b (bs ++ be 2 n) := by
  obtain ⟨v, hv, hk⟩ := h.at'
  refine (u16_any b v bs n w hv hr).mono ?_
  rintro e w' ⟨rfl, v', hw⟩
  rw [toU64_nat n hn] at hw
  exact ⟨rfl, Mine.wrote h.only h.up hk hw⟩
theorem mine_u8 (h : Mine w0 w b bs) (n : Nat) (hn : n < 18446744073709551616) (hr : bs.length + 9 ≤ 140737488355328) :
    Calls Tryz.prog 21 #[.pointer (some ⟨b, 0, none⟩), .int .i64 n] w fun e w' => e = .returned (.tuple #[]) ∧ Mine w0 w' b (bs ++ be 1 n) := by
  obtain ⟨v, hv, hk⟩ := h.at'
  refine (u8_any b v bs n w hv hr).mono ?_
  rintro e w' ⟨rfl, v', hw⟩
  rw [toU64_nat n hn] at hw
  exact ⟨rfl, Mine.wrote h.only h.up hk hw⟩
theorem mine_raw (h : Mine w0 w b bs) (xv : Value) (us : List UInt8) (hx : Has w xv us) (hr : bs.length + us.length ≤ 140737488355328) :
    Calls Tryz.prog 40 #[.pointer (some ⟨b, 0, none⟩), xv] w fun e w' => e = .returned (.tuple #[]) ∧ Mine w0 w' b (bs ++ us) := by
  obtain ⟨v, hv, hk⟩ := h.at'
  refine (raw_any b v bs xv us w hx hv hr).mono ?_
  rintro e w' ⟨rfl, v', hw⟩
  exact ⟨rfl, Mine.wrote h.only h.up hk hw⟩
end

end WR
end Go.Proofs.YtmcobkcnpnfobaaGreat

namespace Go.Proofs.YtmcobkcnpnfobaaGreat
open Go.RowKit
set_option linter.unusedSimpArgs false
set_option linter.unusedVariables false
namespace RR

set_option maxHeartbeats 400000 in
theorem raw_yes (b : Nat) (v : Value) (rest : List UInt8) (n : Nat) (w : World) (h : RdAt 57 w b v false rest) (hn : n ≤ rest.length) (hr : rest.length ≤ 140737488355328) :
    Calls Tryz.prog 45 #[.pointer (some ⟨b, 0, none⟩), .int .i64 n] w fun e w' => ∃ u, e = .returned u ∧ Owns w.heap.size w' u (rest.take n) ∧ ∃ f v', Took 57 w b v false rest n w' f v' := by
  obtain ⟨i0, hi, hz0, hz1, hz2⟩ := info_parts Tryz.info5
  obtain ⟨ao, cap, hv, hlc, hm⟩ := h.has.shape
  subst hv
  obtain ⟨c0, c1, f0, f1⟩ := cells_two h.blk
  have hn0 : ¬ (n : Int) < 0 := by omega
  have hn1 : ¬ (rest.length : Int) < n := by omega
  have hn2 : (n : Int) ≤ rest.length := by omega
  have hn3 : (n : Int) ≤ cap := by omega
  have hbl := lt_of_block h.blk
  have hca : ∀ o, (w.alloc o).cell? ⟨b, 0, none⟩ = some (.slice ao rest.length cap) := fun o => by rw [World.cell?_alloc_past _ _ _ hbl]; exact c0
  have HR := hide h
  clear h
  have hfr := (unhide HR).has.front hn
  have hlen : (rest.take n).length = n := by simp; omega
  have hown : (w.alloc (.cells #[] 5)).ownsRow w.heap.size 5 1 (.slice (some ⟨w.heap.size, 0, none⟩) 0 0) 0 [] := World.ownsRow_lit w #[] 0 (Nat.le_refl _) (Nat.zero_le _) rfl
  have hhas := hfr.only ((Only.refl (fun _ => False) w).alloc (.cells #[] 5)) (fun _ _ _ h => h)
  clear hfr
  obtain ⟨fs, hfs⟩ : ∃ fs, fs = rest.take n := ⟨_, rfl⟩
  rw [← hfs] at hhas hlen
  have HF := hide hfs
  clear hfs
  have fin : ∀ ao2 cap2 w2, w2.ownsRow w.heap.size 5 1 (.slice ao2 n cap2) n (fs.map bv) → (w.alloc (.cells #[] 5)).grownBy w2 (some w.heap.size) → ∀ v' w', Has w v' (rest.drop n) → blk v' = blk (.slice ao rest.length cap) → w' = w2.setCell ⟨b, 0, none⟩ v' →
      Owns w.heap.size w' (.slice ao2 n cap2) (rest.take n) ∧ ∃ f v', Took 57 w b (.slice ao rest.length cap) false rest n w' f v' := by
    intro ao2 cap2 w2 own2 gr2 v' w' hv' hbv hw'
    subst hw'
    have ho2 : Only (fun _ => False) w w2 := ((Only.refl _ _).alloc _).grown gr2 (fun k hk hl => by simp at hk; omega)
    have h2 : RdAt 57 w2 b (.slice ao rest.length cap) false rest := ⟨ho2.heap (unhide HR).blk (fun h => h), (unhide HR).has.only ho2 (fun _ _ _ h => h), (unhide HR).sep⟩
    have ht := took_of h2 (h2.has.front hn) (hv'.only ho2 (fun _ _ _ h => h)) rfl hbv
    refine ⟨?_, _, _, ht.front, ht.fblk, ht.vblk, ht.now, (ho2.mono (fun _ _ h => h.elim)).trans ht.only (fun _ _ e => e)⟩
    rw [← HF.out]
    unfold Owns
    rw [hlen]
    exact ((Only.refl (fun k => k = b) w2).here 0 _).owns own2 (fun k hk e => by have := (own2.lt k hk).1; omega)
  have hcl : ∀ w2, (w.alloc (.cells #[] 5)).grownBy w2 (some w.heap.size) → w2.cell? ⟨b, 0, none⟩ = some (.slice ao rest.length cap) ∧ w2.cell? ⟨b, 1, none⟩ = some (.bool false) ∧ w2.frozen? ⟨b, 0, none⟩ = false ∧ w2.frozen? ⟨b, 1, none⟩ = false := fun w2 gr2 =>
    cells_two ((((Only.refl (fun _ => False) w).alloc _).grown gr2 (fun k hk hl => by simp at hk; omega)).heap (unhide HR).blk (fun h => h))
  have HC := hide hcl
  clear hcl
  have FIN := hide fin
  clear fin
  by_cases hcap : cap = n
  · subst hcap
    go_enter Tryz.func45, Tryz.ntmps45
    go_wp2_with (at_builtin; refine wpList_append_has rfl (.tmp 29) (.tmp 35) 24 rfl w.heap.size 5 i0 Tryz.underlying24 hi hz0 hz1 hz2 _ 0 [] rfl hown _ fs rfl hhas (by omega) (by simp) ?_; intro ao2 cap2 w2 own2 gr2 at2; obtain ⟨d0, d1, g0, g1⟩ := unhide HC w2 gr2)
    go_ret
    have own3 : w2.ownsRow w.heap.size 5 1 (.slice ao2 cap cap2) cap (fs.map bv) := by simpa [hlen] using own2
    have hbk := (unhide HR).has.backNone hn
    rw [show rest.length - cap = 0 by omega] at hbk
    exact ⟨.slice ao2 cap cap2, rfl, unhide FIN ao2 cap2 w2 own3 gr2 _ _ hbk rfl rfl⟩
  · have hcap' : (cap = n) = False := by simp [hcap]
    go_enter Tryz.func45, Tryz.ntmps45
    go_wp2_with (at_builtin; refine wpList_append_has rfl (.tmp 29) (.tmp 35) 24 rfl w.heap.size 5 i0 Tryz.underlying24 hi hz0 hz1 hz2 _ 0 [] rfl hown _ fs rfl hhas (by omega) (by simp) ?_; intro ao2 cap2 w2 own2 gr2 at2; obtain ⟨d0, d1, g0, g1⟩ := unhide HC w2 gr2)
    go_ret
    have own3 : w2.ownsRow w.heap.size 5 1 (.slice ao2 n cap2) n (fs.map bv) := by simpa [hlen] using own2
    exact ⟨.slice ao2 n cap2, rfl, unhide FIN ao2 cap2 w2 own3 gr2 _ _ ((unhide HR).has.back hn) (blk_add _ _ _ _ _ _) rfl⟩

theorem raw_no (b : Nat) (v : Value) (lack : Bool) (rest : List UInt8) (n : Int) (w : World) (h : RdAt 57 w b v lack rest) (hn : lack = true ∨ n < 0 ∨ (rest.length : Int) < n) :
    Calls Tryz.prog 45 #[.pointer (some ⟨b, 0, none⟩), .int .i64 n] w fun e w' => e = .returned (.slice none 0 0) ∧ Lacks 57 w b w' := by
  obtain ⟨ao, cap, hv, hlc, hm⟩ := h.has.shape
  subst hv
  obtain ⟨c0, c1, f0, f1⟩ := cells_two h.blk
  have HR := hide h
  clear h
  have fin : ∀ w', w' = (w.setCell ⟨b, 1, none⟩ (.bool true)).setCell ⟨b, 0, none⟩ (.slice none 0 0) → Lacks 57 w b w' := fun w' e => by
    subst e
    exact ⟨⟨by simpa using two_setCell (i := 0) (u := .slice none 0 0) (two_setCell (i := 1) (u := .bool true) (unhide HR).blk), Or.inl ⟨rfl, rfl⟩, fun k hk => by simp [blk] at hk⟩, ((Only.refl _ _).here _ _).here _ _⟩
  have FIN := hide fin
  clear fin
  cases lack with
  | true =>
    go_enter Tryz.func45, Tryz.ntmps45
    go_wp2
    go_ret
    exact ⟨rfl, unhide FIN _ rfl⟩
  | false =>
    rcases hn with hn | hn | hn
    · cases hn
    · go_enter Tryz.func45, Tryz.ntmps45
      go_wp2
      go_ret
      exact ⟨rfl, unhide FIN _ rfl⟩
    · have hn0 : ¬ n < 0 := by omega
      go_enter Tryz.func45, Tryz.ntmps45
      go_wp2
      go_ret
      exact ⟨rfl, unhide FIN _ rfl⟩

theorem raw_any (b : Nat) (v : Value) (lack : Bool) (rest : List UInt8) (n : Int) (w : World) (h : Rdr 57 w b v lack rest) (hr : rest.length ≤ 140737488355328) :
    Calls Tryz.prog 45 #[.pointer (some ⟨b, 0, none⟩), .int .i64 n] w fun e w' => ∃ u, e = .returned u ∧ Owns w.heap.size w' u (rdBytes lack rest n) ∧ ∃ v', ReadTo 57 w b v w' v' (rdLack lack rest n) (rdRest lack rest n) := by
  by_cases hn : lack = true ∨ n < 0 ∨ (rest.length : Int) < n
  · refine (raw_no b v lack rest n w h.toRdAt hn).mono ?_
    rintro e w' ⟨rfl, hl⟩
    have R := hl.to (v := v) (lack := lack) (rest := rest) (n := n) hn
    exact ⟨_, rfl, by rw [R.2]; exact World.ownsRow_nil _ _ _ _, _, R.1⟩
  · have hl : lack = false := by cases lack with | false => rfl | true => exact absurd (Or.inl rfl) hn
    subst hl
    obtain ⟨m, rfl⟩ := Int.eq_ofNat_of_zero_le (show 0 ≤ n by omega)
    have hm : m ≤ rest.length := by omega
    refine (raw_yes b v rest m w h.toRdAt hm hr).mono ?_
    rintro e w' ⟨u, rfl, own, f, v', ht⟩
    refine ⟨u, rfl, ?_, v', (ht.to hm).1⟩
    have e1 : rdBytes false rest (m : Int) = rest.take m := by simp [rdBytes, rdOk_yes rfl hm]
    rw [e1]
    exact own

set_option maxHeartbeats 400000 in
set_option maxRecDepth 100000 in
theorem number_any (b : Nat) (v : Value) (lack : Bool) (rest : List UInt8) (n : Nat) (w : World) (h : Rdr 57 w b v lack rest) (h0 : 0 < n) (h8 : n ≤ 8) (hr : rest.length ≤ 140737488355328) :
    Calls Tryz.prog 44 #[.pointer (some ⟨b, 0, none⟩), .int .i64 n] w fun e w' => e = .returned (.int .u64 (de (rdBytes lack rest n))) ∧ ∃ v', ReadTo 57 w b v w' v' (rdLack lack rest n) (rdRest lack rest n) := by
  have HW := hide (raw_any b v lack rest n w h hr)
  go_enter Tryz.func44, Tryz.ntmps44
  go_wp2_with fail
  refine (unhide HW).mono ?_
  rintro e w1 ⟨u, rfl, own, v', hrd⟩
  have hlen : (rdBytes lack rest n).length ≤ 8 := by
    unfold rdBytes; split
    · simp; omega
    · simp
  have HT := hide hrd
  clear hrd HW
  have hfr := Has.ofOwns own.out
  clear own
  obtain ⟨fs, hfs⟩ : ∃ fs, fs = rdBytes lack rest n := ⟨_, rfl⟩
  rw [← hfs] at hfr hlen
  have HF := hide hfs
  clear hfs
  obtain ⟨ao, cap, hf, hlc, hm⟩ := hfr.shape
  subst hf
  obtain ⟨m, hm⟩ : ∃ m, m = fs.length := ⟨_, rfl⟩
  rw [← hm] at hlen hfr ⊢
  have HM := hide hm
  clear hm
  go_wp2
  go_loop [6, 7] (fun a i => ∃ k : Nat, k ≤ m ∧ i = .int .i64 k ∧ a = .int .u64 (de (fs.take k))) (fun _ i => m - (intOf i).toNat)
  case atStart => exact ⟨0, Nat.zero_le _, rfl, rfl⟩
  case round =>
    obtain ⟨k, hk, rfl, rfl⟩ := hrel
    by_cases hlt : k < m
    · have hkl : k < fs.length := by rw [← HM.out]; exact hlt
      obtain ⟨bb, off, hao, hq, hc⟩ := hfr.at (by omega)
      subst hao
      clear hq
      have hck : w1.cell? ⟨bb, off + k, none⟩ = some (.int .u8 ((fs[k]'hkl).toNat : Int)) := hc k hkl
      clear hc
      have hd := de_bound fs k (by omega)
      have hs := de_take fs k hkl
      have hb8 := (fs[k]'hkl).toNat_lt
      have HS := hide hs
      clear hs
      generalize de (fs.take k) = d at *
      generalize (fs[k]'hkl).toNat = c at *
      go_wp2
      go_round
      case rel =>
        refine ⟨k + 1, by omega, by go_num, ?_⟩
        rw [HS.out]
        go_num
      case measure => simp [intOf]; omega
    · obtain rfl : k = m := by omega
      go_wp2
      go_ret
      have e : fs.take k = fs := List.take_of_length_le (by rw [HM.out]; exact Nat.le_refl _)
      rw [e, HF.out]
      exact ⟨rfl, _, unhide HT⟩

end RR
end Go.Proofs.YtmcobkcnpnfobaaGreat

namespace Go.Proofs.YtmcobkcnpnfobaaGreat
open Go.RowKit
set_option linter.unusedSimpArgs false
set_option linter.unusedVariables false
namespace RR

theorem u8_any (b : Nat) (v : Value) (lack : Bool) (rest : List UInt8) (w : World) (h : Rdr 57 w b v lack rest) (hr : rest.length ≤ 140737488355328) :
    Calls Tryz.prog 29 #[.pointer (some ⟨b, 0, none⟩)] w fun e w' => e = .returned (.int .i64 (de (rdBytes lack rest 1))) ∧ ∃ v', ReadTo 57 w b v w' v' (rdLack lack rest 1) (rdRest lack rest 1) := by
  have HW := hide (number_any b v lack rest 1 w h (by decide) (by decide) hr)
  have hb := de_rd lack rest 1 256 (by decide)
  go_enter Tryz.func29, Tryz.ntmps29
  go_wp2_with fail
  refine (unhide HW).mono ?_
  rintro e w1 ⟨rfl, v', hrd⟩
  have HRD := hide hrd
  clear hrd HW
  have hb' : de (rdBytes lack rest (1 : Nat)) < 256 := hb
  generalize hd : de (rdBytes lack rest (1 : Nat)) = d at *
  have HD := hide hd
  clear hd hb
  go_wp2
  go_ret
  have e1 : d = de (rdBytes lack rest 1) := (unhide HD).symm
  rw [← e1]
  exact ⟨rfl, v', unhide HRD⟩

theorem u16_any (b : Nat) (v : Value) (lack : Bool) (rest : List UInt8) (w : World) (h : Rdr 57 w b v lack rest) (hr : rest.length ≤ 140737488355328) :
    Calls Tryz.prog 27 #[.pointer (some ⟨b, 0, none⟩)] w fun e w' => e = .returned (.int .i64 (de (rdBytes lack rest 2))) ∧ ∃ v', ReadTo 57 w b v w' v' (rdLack lack rest 2) (rdRest lack rest 2) := by
  have HW := hide (number_any b v lack rest 2 w h (by decide) (by decide) hr)
  have hb := de_rd lack rest 2 65536 (by decide)
  go_enter Tryz.func27, Tryz.ntmps27
  go_wp2_with fail
  refine (unhide HW).mono ?_
  rintro e w1 ⟨rfl, v', hrd⟩
  have HRD := hide hrd
  clear hrd HW
  have hb' : de (rdBytes lack rest (2 : Nat)) < 65536 := hb
  generalize hd : de (rdBytes lack rest (2 : Nat)) = d at *
  have HD := hide hd
  clear hd hb
  go_wp2
  go_ret
  have e1 : d = de (rdBytes lack rest 2) := (unhide HD).symm
  rw [← e1]
  exact ⟨rfl, v', unhide HRD⟩

theorem short_any (b : Nat) (v : Value) (lack : Bool) (rest : List UInt8) (w : World) (h : Rdr 57 w b v lack rest) (hr : rest.length ≤ 140737488355328) :
    Calls Tryz.prog 28 #[.pointer (some ⟨b, 0, none⟩)] w fun e w' => ∃ u, e = .returned u ∧ Owns w.heap.size w' u (shBytes lack rest) ∧ ∃ v', ReadTo 57 w b v w' v' (shLack lack rest) (shRest lack rest) := by
  have HW := hide (u16_any b v lack rest w h hr)
  go_enter Tryz.func28, Tryz.ntmps28
  go_wp2_with fail
  refine (unhide HW).mono ?_
  rintro e w1 ⟨rfl, v1, hrd⟩
  have HW2 := hide (raw_any b v1 _ _ (de (rdBytes lack rest 2)) w1 hrd.now (Nat.le_trans (rdRest_le _ _ _) hr))
  have HRD := hide hrd
  clear hrd HW
  go_wp2_with fail
  refine (unhide HW2).mono ?_
  rintro e w2 ⟨u, rfl, own, v2, hrd2⟩
  have R := (unhide HRD).trans hrd2
  have O : Owns w.heap.size w2 u (shBytes lack rest) := ownsRow_base own (unhide HRD).only.size
  have HO := hide O
  have HR := hide R
  clear R O own hrd2 HW2
  go_wp2
  go_ret
  exact ⟨u, rfl, unhide HO, v2, unhide HR⟩

end RR
end Go.Proofs.YtmcobkcnpnfobaaGreat

namespace Go.Proofs.YtmcobkcnpnfobaaGreat
open Go.RowKit
set_option linter.unusedSimpArgs false
set_option linter.unusedVariables false

namespace RR

/-- a reader at b that was made since w0, ahead of block hi; all that was there in w0 is as it was -/
structure Mine (w0 : World) (hi : Nat) (w : World) (b : Nat) (lack : Bool) (rest : List UInt8) : Prop where
  at' : ∃ v, Rdr 57 w b v lack rest ∧ ∀ k, blk v = some k → w0.heap.size ≤ k ∧ k < hi
  up : w0.heap.size ≤ b
  hi : b < hi
  only : Only (fun _ => False) w0 w

theorem Mine.later {w0 w w' : World} {hi b : Nat} {lack : Bool} {rest : List UInt8} (h : Mine w0 hi w b lack rest) {S : Nat → Prop} (ho : Only S w w') (hS : ∀ k, S k → hi ≤ k) : Mine w0 hi w' b lack rest := by
  obtain ⟨v, hv, hk⟩ := h.at'
  have := h.up
  have := h.hi
  exact ⟨⟨v, hv.only ho (fun e => by have := hS b e; omega) (fun k e hs => by have := hS k hs; have := (hk k e).2; omega), hk⟩, h.up, h.hi, h.only.trans ho (fun i hi e => by have := hS i e; omega)⟩
theorem Mine.same {w0 w w' : World} {hi b : Nat} {lack : Bool} {rest : List UInt8} (h : Mine w0 hi w b lack rest) (ho : Only (fun _ => False) w w') : Mine w0 hi w' b lack rest := h.later ho (fun _ e => e.elim)

theorem Mine.back {w0 w1 w : World} {hi b : Nat} {lack : Bool} {rest : List UInt8} (h : Mine w1 hi w b lack rest) (ho : Only (fun _ => False) w0 w1) : Mine w0 hi w b lack rest := by
  obtain ⟨v, hv, hk⟩ := h.at'
  have := ho.size
  exact ⟨⟨v, hv, fun k e => by have := hk k e; omega⟩, by have := h.up; omega, h.hi, ho.trans h.only (fun _ _ e => e)⟩

theorem Mine.lt {w0 w : World} {hi b : Nat} {lack : Bool} {rest : List UInt8} (h : Mine w0 hi w b lack rest) : b < w.heap.size := by
  obtain ⟨v, hv, hk⟩ := h.at'
  exact lt_of_block hv.blk

theorem Mine.read {w0 w w' : World} {hi b : Nat} {v v' : Value} {l : Bool} {r : List UInt8} (ho : Only (fun _ => False) w0 w) (hb : w0.heap.size ≤ b) (hbi : b < hi) (hk : ∀ k, blk v = some k → w0.heap.size ≤ k ∧ k < hi) (h : ReadTo 57 w b v w' v' l r) : Mine w0 hi w' b l r :=
  ⟨⟨v', h.now, fun k e => hk k (h.vblk k e)⟩, hb, hbi, ho.trans h.only (fun i hi e => by omega)⟩

theorem rd_yes (rest : List UInt8) (n : Nat) (hn : n ≤ rest.length) : rdBytes false rest n = rest.take n ∧ rdLack false rest n = false ∧ rdRest false rest n = rest.drop n := by
  have h := rdOk_yes (lack := false) (rest := rest) (n := n) rfl hn
  unfold rdBytes rdLack rdRest
  rw [h]
  exact ⟨by simp, rfl, by simp⟩
theorem rd_no (rest : List UInt8) (lack : Bool) (n : Int) (hn : lack = true ∨ n < 0 ∨ (rest.length : Int) < n) : rdBytes lack rest n = [] ∧ rdLack lack rest n = true ∧ rdRest lack rest n = [] := by
  have h := rdOk_no hn
  unfold rdBytes rdLack rdRest
  rw [h]
  exact ⟨rfl, rfl, rfl⟩

section
variable {w0 w : World} {hi b : Nat} {lack : Bool} {rest : List UInt8}

theorem mine_u8 (h : Mine w0 hi w b false rest) (hl : 1 ≤ rest.length) (hr : rest.length ≤ 140737488355328) :
    Calls Tryz.prog 29 #[.pointer (some ⟨b, 0, none⟩)] w fun e w' => e = .returned (.int .i64 (de (rest.take 1))) ∧ Mine w0 hi w' b false (rest.drop 1) ∧ Only (fun k => k = b) w w' := by
  obtain ⟨v, hv, hk⟩ := h.at'
  refine (u8_any b v false rest w hv hr).mono ?_
  rintro e w' ⟨rfl, v', ht⟩
  obtain ⟨e1, e2, e3⟩ := rd_yes rest 1 hl
  rw [show ((1 : Nat) : Int) = 1 from rfl] at e1 e2 e3
  rw [e2, e3] at ht
  rw [e1]
  exact ⟨rfl, Mine.read h.only h.up h.hi hk ht, ht.only⟩
theorem mine_u16 (h : Mine w0 hi w b false rest) (hl : 2 ≤ rest.length) (hr : rest.length ≤ 140737488355328) :
    Calls Tryz.prog 27 #[.pointer (some ⟨b, 0, none⟩)] w fun e w' => e = .returned (.int .i64 (de (rest.take 2))) ∧ Mine w0 hi w' b false (rest.drop 2) ∧ Only (fun k => k = b) w w' := by
  obtain ⟨v, hv, hk⟩ := h.at'
  refine (u16_any b v false rest w hv hr).mono ?_
  rintro e w' ⟨rfl, v', ht⟩
  obtain ⟨e1, e2, e3⟩ := rd_yes rest 2 hl
  rw [show ((2 : Nat) : Int) = 2 from rfl] at e1 e2 e3
  rw [e2, e3] at ht
  rw [e1]
  exact ⟨rfl, Mine.read h.only h.up h.hi hk ht, ht.only⟩
theorem mine_raw (h : Mine w0 hi w b lack rest) (n : Int) (hr : rest.length ≤ 140737488355328) :
    Calls Tryz.prog 45 #[.pointer (some ⟨b, 0, none⟩), .int .i64 n] w fun e w' => ∃ u, e = .returned u ∧ Owns w.heap.size w' u (rdBytes lack rest n) ∧ Mine w0 hi w' b (rdLack lack rest n) (rdRest lack rest n) ∧ Only (fun k => k = b) w w' := by
  obtain ⟨v, hv, hk⟩ := h.at'
  refine (raw_any b v lack rest n w hv hr).mono ?_
  rintro e w' ⟨u, rfl, hu, v', ht⟩
  exact ⟨u, rfl, hu, Mine.read h.only h.up h.hi hk ht, ht.only⟩
end

end RR
end Go.Proofs.YtmcobkcnpnfobaaGreat
