/-
  The reference's Reader: Raw and u.
-/
import Derived.Test.YtncggpejehflmaaRdUni
namespace Go.Proofs.Ytncggpejehflmaa
open Go.RowKit
set_option linter.unusedSimpArgs false
set_option linter.unusedVariables false
namespace RR

set_option maxHeartbeats 400000 in
theorem raw_yes (b : Nat) (v : Value) (rest : List UInt8) (n : Nat) (w : World) (h : RdAt 49 w b v false rest) (hn : n ≤ rest.length) (hr : rest.length ≤ 140737488355328) :
    Calls Try.prog 37 #[.pointer (some ⟨b, 0, none⟩), .int .i64 n] w fun e w' => ∃ u, e = .returned u ∧ Owns w.heap.size w' u (rest.take n) ∧ ∃ f v', Took 49 w b v false rest n w' f v' := by
  obtain ⟨i0, hi, hz0, hz1, hz2⟩ := info_parts Try.info5
  obtain ⟨ao, cap, hv, hlc, hm⟩ := h.has.shape
  subst hv
  obtain ⟨c0, c1, f0, f1⟩ := cells_two h.blk
  have hn0 : ¬ (n : Int) < 0 := by omega
  have hn1 : ¬ (rest.length : Int) < n := by omega
  have hn2 : (n : Int) ≤ rest.length := by omega
  have hn3 : (n : Int) ≤ cap := by omega
  have hbl := lt_of_block h.blk
  have hca : ∀ o, (w.alloc o).cell? ⟨b, 0, none⟩ = some (.slice ao rest.length cap) := fun o => by rw [World.cell?_alloc_past _ _ _ hbl]; exact c0
  have HR := hide h
  clear h
  have hfr := (unhide HR).has.front hn
  have hlen : (rest.take n).length = n := by simp; omega
  have hown : (w.alloc (.cells #[] 5)).ownsRow w.heap.size 5 1 (.slice (some ⟨w.heap.size, 0, none⟩) 0 0) 0 [] := World.ownsRow_lit w #[] 0 (Nat.le_refl _) (Nat.zero_le _) rfl
  have hhas := hfr.only ((Only.refl (fun _ => False) w).alloc (.cells #[] 5)) (fun _ _ _ h => h)
  clear hfr
  obtain ⟨fs, hfs⟩ : ∃ fs, fs = rest.take n := ⟨_, rfl⟩
  rw [← hfs] at hhas hlen
  have HF := hide hfs
  clear hfs
  have fin : ∀ ao2 cap2 w2, w2.ownsRow w.heap.size 5 1 (.slice ao2 n cap2) n (fs.map bv) → (w.alloc (.cells #[] 5)).grownBy w2 (some w.heap.size) → ∀ v' w', Has w v' (rest.drop n) → blk v' = blk (.slice ao rest.length cap) → w' = w2.setCell ⟨b, 0, none⟩ v' →
      Owns w.heap.size w' (.slice ao2 n cap2) (rest.take n) ∧ ∃ f v', Took 49 w b (.slice ao rest.length cap) false rest n w' f v' := by
    intro ao2 cap2 w2 own2 gr2 v' w' hv' hbv hw'
    subst hw'
    have ho2 : Only (fun _ => False) w w2 := ((Only.refl _ _).alloc _).grown gr2 (fun k hk hl => by simp at hk; omega)
    have h2 : RdAt 49 w2 b (.slice ao rest.length cap) false rest := ⟨ho2.heap (unhide HR).blk (fun h => h), (unhide HR).has.only ho2 (fun _ _ _ h => h), (unhide HR).sep⟩
    have ht := took_of h2 (h2.has.front hn) (hv'.only ho2 (fun _ _ _ h => h)) rfl hbv
    refine ⟨?_, _, _, ht.front, ht.fblk, ht.vblk, ht.now, (ho2.mono (fun _ _ h => h.elim)).trans ht.only (fun _ _ e => e)⟩
    rw [← HF.out]
    unfold Owns
    rw [hlen]
    exact ((Only.refl (fun k => k = b) w2).here 0 _).owns own2 (fun k hk e => by have := (own2.lt k hk).1; omega)
  have hcl : ∀ w2, (w.alloc (.cells #[] 5)).grownBy w2 (some w.heap.size) → w2.cell? ⟨b, 0, none⟩ = some (.slice ao rest.length cap) ∧ w2.cell? ⟨b, 1, none⟩ = some (.bool false) ∧ w2.frozen? ⟨b, 0, none⟩ = false ∧ w2.frozen? ⟨b, 1, none⟩ = false := fun w2 gr2 =>
    cells_two ((((Only.refl (fun _ => False) w).alloc _).grown gr2 (fun k hk hl => by simp at hk; omega)).heap (unhide HR).blk (fun h => h))
  have HC := hide hcl
  clear hcl
  have FIN := hide fin
  clear fin
  by_cases hcap : cap = n
  · subst hcap
    go_enter Try.func37, Try.ntmps37
    go_wp2_with (at_builtin; refine wpList_append_has rfl (.tmp 29) (.tmp 35) 24 rfl w.heap.size 5 i0 Try.underlying24 hi hz0 hz1 hz2 _ 0 [] rfl hown _ fs rfl hhas (by omega) (by simp) ?_; intro ao2 cap2 w2 own2 gr2 at2; obtain ⟨d0, d1, g0, g1⟩ := unhide HC w2 gr2)
    go_ret
    have own3 : w2.ownsRow w.heap.size 5 1 (.slice ao2 cap cap2) cap (fs.map bv) := by simpa [hlen] using own2
    have hbk := (unhide HR).has.backNone hn
    rw [show rest.length - cap = 0 by omega] at hbk
    exact ⟨.slice ao2 cap cap2, rfl, unhide FIN ao2 cap2 w2 own3 gr2 _ _ hbk rfl rfl⟩
  · have hcap' : (cap = n) = False := by simp [hcap]
    go_enter Try.func37, Try.ntmps37
    go_wp2_with (at_builtin; refine wpList_append_has rfl (.tmp 29) (.tmp 35) 24 rfl w.heap.size 5 i0 Try.underlying24 hi hz0 hz1 hz2 _ 0 [] rfl hown _ fs rfl hhas (by omega) (by simp) ?_; intro ao2 cap2 w2 own2 gr2 at2; obtain ⟨d0, d1, g0, g1⟩ := unhide HC w2 gr2)
    go_ret
    have own3 : w2.ownsRow w.heap.size 5 1 (.slice ao2 n cap2) n (fs.map bv) := by simpa [hlen] using own2
    exact ⟨.slice ao2 n cap2, rfl, unhide FIN ao2 cap2 w2 own3 gr2 _ _ ((unhide HR).has.back hn) (blk_add _ _ _ _ _ _) rfl⟩

theorem raw_no (b : Nat) (v : Value) (lack : Bool) (rest : List UInt8) (n : Int) (w : World) (h : RdAt 49 w b v lack rest) (hn : lack = true ∨ n < 0 ∨ (rest.length : Int) < n) :
    Calls Try.prog 37 #[.pointer (some ⟨b, 0, none⟩), .int .i64 n] w fun e w' => e = .returned (.slice none 0 0) ∧ Lacks 49 w b w' := by
  obtain ⟨ao, cap, hv, hlc, hm⟩ := h.has.shape
  subst hv
  obtain ⟨c0, c1, f0, f1⟩ := cells_two h.blk
  have HR := hide h
  clear h
  have fin : ∀ w', w' = (w.setCell ⟨b, 1, none⟩ (.bool true)).setCell ⟨b, 0, none⟩ (.slice none 0 0) → Lacks 49 w b w' := fun w' e => by
    subst e
    exact ⟨⟨by simpa using two_setCell (i := 0) (u := .slice none 0 0) (two_setCell (i := 1) (u := .bool true) (unhide HR).blk), Or.inl ⟨rfl, rfl⟩, fun k hk => by simp [blk] at hk⟩, ((Only.refl _ _).here _ _).here _ _⟩
  have FIN := hide fin
  clear fin
  cases lack with
  | true =>
    go_enter Try.func37, Try.ntmps37
    go_wp2
    go_ret
    exact ⟨rfl, unhide FIN _ rfl⟩
  | false =>
    rcases hn with hn | hn | hn
    · cases hn
    · go_enter Try.func37, Try.ntmps37
      go_wp2
      go_ret
      exact ⟨rfl, unhide FIN _ rfl⟩
    · have hn0 : ¬ n < 0 := by omega
      go_enter Try.func37, Try.ntmps37
      go_wp2
      go_ret
      exact ⟨rfl, unhide FIN _ rfl⟩

theorem raw_any (b : Nat) (v : Value) (lack : Bool) (rest : List UInt8) (n : Int) (w : World) (h : Rdr 49 w b v lack rest) (hr : rest.length ≤ 140737488355328) :
    Calls Try.prog 37 #[.pointer (some ⟨b, 0, none⟩), .int .i64 n] w fun e w' => ∃ u, e = .returned u ∧ Owns w.heap.size w' u (rdBytes lack rest n) ∧ ∃ v', ReadTo 49 w b v w' v' (rdLack lack rest n) (rdRest lack rest n) := by
  by_cases hn : lack = true ∨ n < 0 ∨ (rest.length : Int) < n
  · refine (raw_no b v lack rest n w h.toRdAt hn).mono ?_
    rintro e w' ⟨rfl, hl⟩
    have R := hl.to (v := v) (lack := lack) (rest := rest) (n := n) hn
    exact ⟨_, rfl, by rw [R.2]; exact World.ownsRow_nil _ _ _ _, _, R.1⟩
  · have hl : lack = false := by cases lack with | false => rfl | true => exact absurd (Or.inl rfl) hn
    subst hl
    obtain ⟨m, rfl⟩ := Int.eq_ofNat_of_zero_le (show 0 ≤ n by omega)
    have hm : m ≤ rest.length := by omega
    refine (raw_yes b v rest m w h.toRdAt hm hr).mono ?_
    rintro e w' ⟨u, rfl, own, f, v', ht⟩
    refine ⟨u, rfl, ?_, v', (ht.to hm).1⟩
    have e1 : rdBytes false rest (m : Int) = rest.take m := by simp [rdBytes, rdOk_yes rfl hm]
    rw [e1]
    exact own

set_option maxHeartbeats 400000 in
set_option maxRecDepth 100000 in
theorem number_any (b : Nat) (v : Value) (lack : Bool) (rest : List UInt8) (n : Nat) (w : World) (h : Rdr 49 w b v lack rest) (h0 : 0 < n) (h8 : n ≤ 8) (hr : rest.length ≤ 140737488355328) :
    Calls Try.prog 45 #[.pointer (some ⟨b, 0, none⟩), .int .i64 n] w fun e w' => e = .returned (.int .u64 (de (rdBytes lack rest n))) ∧ ∃ v', ReadTo 49 w b v w' v' (rdLack lack rest n) (rdRest lack rest n) := by
  have HW := hide (raw_any b v lack rest n w h hr)
  go_enter Try.func45, Try.ntmps45
  go_wp2_with fail
  refine (unhide HW).mono ?_
  rintro e w1 ⟨u, rfl, own, v', hrd⟩
  have hlen : (rdBytes lack rest n).length ≤ 8 := by
    unfold rdBytes; split
    · simp; omega
    · simp
  have HT := hide hrd
  clear hrd HW
  have hfr := Has.ofOwns own.out
  clear own
  obtain ⟨fs, hfs⟩ : ∃ fs, fs = rdBytes lack rest n := ⟨_, rfl⟩
  rw [← hfs] at hfr hlen
  have HF := hide hfs
  clear hfs
  obtain ⟨ao, cap, hf, hlc, hm⟩ := hfr.shape
  subst hf
  obtain ⟨m, hm⟩ : ∃ m, m = fs.length := ⟨_, rfl⟩
  rw [← hm] at hlen hfr ⊢
  have HM := hide hm
  clear hm
  go_wp2
  go_loop [6, 7] (fun a i => ∃ k : Nat, k ≤ m ∧ i = .int .i64 k ∧ a = .int .u64 (de (fs.take k))) (fun _ i => m - (intOf i).toNat)
  case atStart => exact ⟨0, Nat.zero_le _, rfl, rfl⟩
  case round =>
    obtain ⟨k, hk, rfl, rfl⟩ := hrel
    by_cases hlt : k < m
    · have hkl : k < fs.length := by rw [← HM.out]; exact hlt
      obtain ⟨bb, off, hao, hq, hc⟩ := hfr.at (by omega)
      subst hao
      clear hq
      have hck : w1.cell? ⟨bb, off + k, none⟩ = some (.int .u8 ((fs[k]'hkl).toNat : Int)) := hc k hkl
      clear hc
      have hd := de_bound fs k (by omega)
      have hs := de_take fs k hkl
      have hb8 := (fs[k]'hkl).toNat_lt
      have HS := hide hs
      clear hs
      generalize de (fs.take k) = d at *
      generalize (fs[k]'hkl).toNat = c at *
      go_wp2
      go_round
      case rel =>
        refine ⟨k + 1, by omega, by go_num, ?_⟩
        rw [HS.out]
        go_num
      case measure => simp [intOf]; omega
    · obtain rfl : k = m := by omega
      go_wp2
      go_ret
      have e : fs.take k = fs := List.take_of_length_le (by rw [HM.out]; exact Nat.le_refl _)
      rw [e, HF.out]
      exact ⟨rfl, _, unhide HT⟩

end RR
end Go.Proofs.Ytncggpejehflmaa
