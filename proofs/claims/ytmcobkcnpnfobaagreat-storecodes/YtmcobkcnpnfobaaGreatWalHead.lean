/-
  wal's readHead and findHead.
-/
import Derived.Test.YtmcobkcnpnfobaaGreatWalAt
namespace Go.Proofs.YtmcobkcnpnfobaaGreat
open Go.RowKit
set_option linter.unusedSimpArgs false
set_option linter.unusedVariables false

theorem lastOf_mem (l : Pends) (k : Nat) (b : List UInt8) : lastOf l k = some b → ∃ p ∈ l, p.2 = b := by
  unfold lastOf
  have key : ∀ (l : Pends) (acc : Option (List UInt8)), l.foldl (fun acc p => if p.1 = k then some p.2 else acc) acc = some b → acc = some b ∨ ∃ p ∈ l, p.2 = b := by
    intro l
    induction l with
    | nil => intro acc h; exact Or.inl h
    | cons p r ih =>
      intro acc h
      rcases ih _ h with h | ⟨q, hq, e⟩
      · simp only at h
        split at h
        · exact Or.inr ⟨p, by simp, by simpa using h⟩
        · exact Or.inl h
      · exact Or.inr ⟨q, by simp [hq], e⟩
  intro h
  rcases key l none h with h | h
  · cases h
  · exact h

theorem Dk.Fine.look {d : Dk} (h : d.Fine) (k : Nat) (b : List UInt8) (hb : d.look k = some b) : b.length = 64 := by
  unfold Dk.look at hb
  split at hb
  · rename_i c hc
    obtain ⟨p, hp, e⟩ := lastOf_mem _ _ _ hc
    have := (h.pend p hp).2
    cases hb
    rw [← e]; exact this
  · rw [List.getD_eq_getElem?_getD] at hb
    cases hs : d.secs[k]? with
    | none => rw [hs] at hb; cases hb
    | some s =>
      rw [hs] at hb
      exact h.secs s (List.mem_of_getElem? hs) b hb

theorem Dk.Fine.read64 {d : Dk} (h : d.Fine) (k : Int) (he : d.readE k = 0) : (d.read k).length = 64 := by
  unfold Dk.readE at he
  unfold Dk.read
  split at he
  · rename_i ht
    rw [if_pos ht]
    split at he
    · cases he
    · rename_i hd
      rw [if_neg hd]
      split at he
      · rename_i hs
        obtain ⟨b, hb⟩ := Option.isSome_iff_exists.1 hs
        rw [hb]
        exact h.look _ b hb
      · cases he
  · cases he

theorem three_set {w : World} {b : Nat} {c0 c1 c2 : Value} {t : TypeId} (h : w.heap[b]? = some (.cells #[c0, c1, c2] t (0, 0))) (x y z : Value) :
    (((w.setCell ⟨b, 0, none⟩ x).setCell ⟨b, 1, none⟩ y).setCell ⟨b, 2, none⟩ z).heap[b]? = some (.cells #[x, y, z] t (0, 0)) := by
  rw [two_setCell (two_setCell (two_setCell h))]
  rfl

namespace Wal
section
variable {w0 w w' : World} {F : Nat → Prop} {B L : Nat} {d : Dk} {l : Lg}

theorem headIn_no (d : Dk) (k : Nat) (h : ¬ d.readE k = 0) : headIn d.half (d.sec k) = none := by
  unfold Dk.sec
  rw [if_neg h]
  rfl

set_option maxHeartbeats 1000000 in
theorem readHead_any (h : Logs w0 w F B L d l) (k : Nat) (hk : k ≤ 1) : Calls Tryz.prog 59 #[.pointer (some ⟨L, 0, none⟩), .int .i64 k] w fun e w' => e = .returned (.tuple #[hv ((headIn d.half (d.sec k)).getD Hd.zero), .bool (headIn d.half (d.sec k)).isSome]) ∧ Only (fun _ => False) w w' := by
  have hlt := h.lt
  have H := hide h
  have hwk := h.works
  have hbs := h.dk.fine.read64 k
  have hh := half_le d h.dk.fine
  clear h
  go_enter Tryz.func59, Tryz.ntmps59
  obtain ⟨c0, c1, c2, c3, c4, c5, cf⟩ := (unhide H).lg.cells
  go_wp2_with fail
  clear c0 c1 c2 c3 c4 c5 cf
  have hB := heap_alloc_new w (.cells #[.int .u64 0, .int .i64 0, .int .i64 0] 106)
  have hO := (Only.refl (fun _ => False) w).alloc (.cells #[.int .u64 0, .int .i64 0, .int .i64 0] 106)
  generalize w.alloc (.cells #[.int .u64 0, .int .i64 0, .int .i64 0] 106) = wa at *
  have HB := hide hB
  have HO := hide hO
  have HA := hide ((unhide H).same hO)
  clear hB hO
  refine (dks_read (unhide HA).dk (by omega) k).mono ?_
  rintro e w1 ⟨x, rfl, hx, o1⟩
  have HEND := hide (fun (w2 : World) (o2 : Only (fun _ => False) wa w2) (x y z : Value) =>
    ((((unhide HO).trans o2 (fun _ _ e => e)).setCell (p := ⟨w.heap.size, 0, none⟩) (fun h => absurd h (Nat.lt_irrefl _)) x).setCell (p := ⟨w.heap.size, 1, none⟩) (fun h => absurd h (Nat.lt_irrefl _)) y).setCell (p := ⟨w.heap.size, 2, none⟩) (fun h => absurd h (Nat.lt_irrefl _)) z)
  by_cases hre : d.readE k = 0
  · have hl := hbs hre
    obtain ⟨bs, hbs'⟩ : ∃ bs, bs = d.read k := ⟨_, rfl⟩
    rw [← hbs'] at hx hl
    have hsec : d.sec k = some bs := by unfold Dk.sec; rw [if_pos hre, hbs']
    rw [hre]
    have hin : headIn d.half (d.sec k) = if (hdOf bs).area < 2 ∧ (hdOf bs).used ≤ d.half ∧ (hdOf bs).lay = bs then some (hdOf bs) else none := by rw [hsec]; rfl
    have HIN := hide hin
    have HX := hide hx
    have hhx := Has.ofOwns hx.out
    have hl1 : 64 ≤ bs.length := by omega
    have hl2 : bs.length ≤ 64 := by omega
    clear hbs hre hbs' hsec hin hx hl
    obtain ⟨xo, xc, rfl, _⟩ := hhx.shape
    have HNR := hide (RO.mine_new _ bs w1 hhx (by omega))
    go_wp2_with fail
    refine (unhide HNR).mono ?_
    rintro e w2 ⟨rb, rfl, m2⟩
    clear HNR
    go_wp2_with fail
    refine (RO.mine_raw m2 8 (by omega)).mono ?_
    rintro e w3 ⟨y, rfl, hy, m3, o3⟩
    obtain ⟨e1, e2, e3⟩ := RO.rd_yes bs 8 (by omega)
    rw [show ((8 : Nat) : Int) = 8 from rfl] at e1 e2 e3
    rw [e2, e3] at m3
    clear e1 e2 e3 hy m2 o3
    go_wp2_with fail
    refine (RO.mine_u64 m3 (by simp; omega) (by simp; omega)).mono ?_
    rintro e w4 ⟨rfl, m4, _⟩
    rw [show (bs.drop 8).drop 8 = bs.drop 16 from by simp] at m4
    clear m3
    go_wp2_with fail
    refine (RO.mine_u32 m4 (by simp; omega) (by simp; omega)).mono ?_
    rintro e w5 ⟨rfl, m5, _⟩
    rw [show (bs.drop 16).drop 4 = bs.drop 20 from by simp] at m5
    clear m4
    go_wp2_with fail
    refine (RO.mine_u32 m5 (by simp; omega) (by simp; omega)).mono ?_
    rintro e w6 ⟨rfl, m6, _⟩
    have o6 := m6.only
    clear m5 m6
    have heE : de ((bs.drop 8).take 8) = (hdOf bs).epoch := rfl
    have heA : de ((bs.drop 16).take 4) = (hdOf bs).area := rfl
    have heU : de ((bs.drop 20).take 4) = (hdOf bs).used := rfl
    rw [heE, heA, heU]
    have hE : (hdOf bs).epoch < 18446744073709551616 := by
      have := de_lt ((bs.drop 8).take 8)
      rw [show ((bs.drop 8).take 8).length = 8 by simp; omega, heE] at this
      omega
    have hA : (hdOf bs).area < 4294967296 := by
      have := de_lt ((bs.drop 16).take 4)
      rw [show ((bs.drop 16).take 4).length = 4 by simp; omega, heA] at this
      omega
    have hU : (hdOf bs).used < 4294967296 := by
      have := de_lt ((bs.drop 20).take 4)
      rw [show ((bs.drop 20).take 4).length = 4 by simp; omega, heU] at this
      omega
    clear heE heA heU
    generalize hdOf bs = hd at *
    have o6a := o1.trans o6 (fun _ _ e => e)
    have HL6 := hide ((unhide HA).same o6a)
    have hx6 := hhx.only o6 (fun _ _ _ h => h)
    obtain ⟨c0, c1, c2, cf⟩ := cells_three (o6a.heap (unhide HB) (fun h => h))
    clear hhx
    by_cases hg1 : hd.area < 2
    · by_cases hg2 : hd.used ≤ d.half
      · have hi1 : ¬ (2 : Int) ≤ hd.area := by omega
        have hi2 : ¬ (d.half : Int) < hd.used := by omega
        go_wp2_with fail
        refine (half_any (unhide HL6)).mono ?_
        rintro e w6 ⟨rfl, rfl⟩
        go_wp2_with fail
        have hB7 := heap_alloc_new w6 (.cells #[.int .u64 hd.epoch, .int .i64 hd.area, .int .i64 hd.used] 106)
        have o7 := (Only.refl (fun _ => False) w6).alloc (.cells #[.int .u64 hd.epoch, .int .i64 hd.area, .int .i64 hd.used] 106)
        generalize w6.alloc (.cells #[.int .u64 hd.epoch, .int .i64 hd.area, .int .i64 hd.used] 106) = w7 at *
        have HB7 := hide hB7
        have HO7 := hide o7
        clear hB7 o7
        refine (headLay_any hd w7 hE hA hU).mono ?_
        rintro e w8 ⟨y8, rfl, hy8, o8⟩
        have hx8 := (hx6.only (unhide HO7) (fun _ _ _ h => h)).only o8 (fun _ _ _ h => h)
        have o8a := (o6a.trans (unhide HO7) (fun _ _ e => e)).trans o8 (fun _ _ e => e)
        have hB8 := o8.heap (unhide HB7) (fun h => h)
        clear c0 c1 c2 cf
        obtain ⟨c0, c1, c2, cf⟩ := cells_three (o8a.heap (unhide HB) (fun h => h))
        obtain ⟨k0, k1, k2, kf⟩ := cells_three hB8
        have hne : ¬ w6.heap.size = w.heap.size := by have := lt_of_block (o6a.heap (unhide HB) (fun h => h)); omega
        have HEQ := hide (equal_any y8 _ hd.lay bs w8 (Has.ofOwns hy8.out) hx8)
        clear hB8 hy8
        by_cases heq : hd.lay = bs
        · have hi : (decide (hd.lay = bs)) = true := decide_eq_true heq
          have HN : Hid (headIn d.half (d.sec k) = some hd) := by
            show headIn d.half (d.sec k) = some hd
            rw [unhide HIN, if_pos ⟨hg1, hg2, heq⟩]
          rw [hi] at HEQ
          clear heq hi
          go_wp2_with fail
          refine (unhide HEQ).mono ?_
          rintro e w8 ⟨rfl, rfl⟩
          go_wp2
          have hW := three_set (o8a.heap (unhide HB) (fun h => h)) (.int .u64 hd.epoch) (.int .i64 hd.area) (.int .i64 hd.used)
          have hWO := unhide HEND w8 o8a (.int .u64 hd.epoch) (.int .i64 hd.area) (.int .i64 hd.used)
          generalize ((w8.setCell ⟨w.heap.size, 0, none⟩ (.int .u64 hd.epoch)).setCell ⟨w.heap.size, 1, none⟩ (.int .i64 hd.area)).setCell ⟨w.heap.size, 2, none⟩ (.int .i64 hd.used) = W at *
          obtain ⟨d0, d1, d2, df⟩ := cells_three hW
          try simp only [Exit.inBlock, Exit.then]
          refine bodyPost_ret (v := .tuple #[.agg #[.int .u64 hd.epoch, .int .i64 hd.area, .int .i64 hd.used], .bool true]) (by simp [results, Tryz.results59, go_sem, d0, d1, d2]) rfl ?_
          rw [unhide HN]
          exact ⟨rfl, hWO⟩
        · have hi : (decide (hd.lay = bs)) = false := decide_eq_false heq
          have HN : Hid (headIn d.half (d.sec k) = none) := by
            show headIn d.half (d.sec k) = none
            rw [unhide HIN, if_neg (fun e => heq e.2.2)]
          rw [hi] at HEQ
          clear heq hi
          go_wp2_with fail
          refine (unhide HEQ).mono ?_
          rintro e w8 ⟨rfl, rfl⟩
          go_wp2
          have hW := three_set (o8a.heap (unhide HB) (fun h => h)) (.int .u64 0) (.int .i64 0) (.int .i64 0)
          have hWO := unhide HEND w8 o8a (.int .u64 0) (.int .i64 0) (.int .i64 0)
          generalize ((w8.setCell ⟨w.heap.size, 0, none⟩ (.int .u64 0)).setCell ⟨w.heap.size, 1, none⟩ (.int .i64 0)).setCell ⟨w.heap.size, 2, none⟩ (.int .i64 0) = W at *
          obtain ⟨d0, d1, d2, df⟩ := cells_three hW
          try simp only [Exit.inBlock, Exit.then]
          refine bodyPost_ret (v := .tuple #[.agg #[.int .u64 0, .int .i64 0, .int .i64 0], .bool false]) (by simp [results, Tryz.results59, go_sem, d0, d1, d2]) rfl ?_
          rw [unhide HN]
          exact ⟨rfl, hWO⟩
      · have HN : Hid (headIn d.half (d.sec k) = none) := by
          show headIn d.half (d.sec k) = none
          rw [unhide HIN, if_neg (fun e => hg2 e.2.1)]
        have hi1 : ¬ (2 : Int) ≤ hd.area := by omega
        have hi2 : (d.half : Int) < hd.used := by omega
        go_wp2_with fail
        refine (half_any (unhide HL6)).mono ?_
        rintro e w6 ⟨rfl, rfl⟩
        go_wp2
        have hW := three_set (o6a.heap (unhide HB) (fun h => h)) (.int .u64 0) (.int .i64 0) (.int .i64 0)
        have hWO := unhide HEND w6 o6a (.int .u64 0) (.int .i64 0) (.int .i64 0)
        generalize ((w6.setCell ⟨w.heap.size, 0, none⟩ (.int .u64 0)).setCell ⟨w.heap.size, 1, none⟩ (.int .i64 0)).setCell ⟨w.heap.size, 2, none⟩ (.int .i64 0) = W at *
        obtain ⟨d0, d1, d2, df⟩ := cells_three hW
        try simp only [Exit.inBlock, Exit.then]
        refine bodyPost_ret (v := .tuple #[.agg #[.int .u64 0, .int .i64 0, .int .i64 0], .bool false]) (by simp [results, Tryz.results59, go_sem, d0, d1, d2]) rfl ?_
        rw [unhide HN]
        exact ⟨rfl, hWO⟩
    · have HN : Hid (headIn d.half (d.sec k) = none) := by
        show headIn d.half (d.sec k) = none
        rw [unhide HIN, if_neg (fun e => hg1 e.1)]
      have hi1 : (2 : Int) ≤ hd.area := by omega
      go_wp2
      have hW := three_set (o6a.heap (unhide HB) (fun h => h)) (.int .u64 0) (.int .i64 0) (.int .i64 0)
      have hWO := unhide HEND w6 o6a (.int .u64 0) (.int .i64 0) (.int .i64 0)
      generalize ((w6.setCell ⟨w.heap.size, 0, none⟩ (.int .u64 0)).setCell ⟨w.heap.size, 1, none⟩ (.int .i64 0)).setCell ⟨w.heap.size, 2, none⟩ (.int .i64 0) = W at *
      obtain ⟨d0, d1, d2, df⟩ := cells_three hW
      try simp only [Exit.inBlock, Exit.then]
      refine bodyPost_ret (v := .tuple #[.agg #[.int .u64 0, .int .i64 0, .int .i64 0], .bool false]) (by simp [results, Tryz.results59, go_sem, d0, d1, d2]) rfl ?_
      rw [unhide HN]
      exact ⟨rfl, hWO⟩
  · have HN := hide (headIn_no d k hre)
    obtain ⟨c0, c1, c2, cf⟩ := cells_three (o1.heap (unhide HB) (fun h => h))
    generalize d.readE k = re at *
    go_wp2
    have hW := three_set (o1.heap (unhide HB) (fun h => h)) (.int .u64 0) (.int .i64 0) (.int .i64 0)
    have hWO := unhide HEND w1 o1 (.int .u64 0) (.int .i64 0) (.int .i64 0)
    generalize ((w1.setCell ⟨w.heap.size, 0, none⟩ (.int .u64 0)).setCell ⟨w.heap.size, 1, none⟩ (.int .i64 0)).setCell ⟨w.heap.size, 2, none⟩ (.int .i64 0) = W at *
    obtain ⟨d0, d1, d2, df⟩ := cells_three hW
    try simp only [Exit.inBlock, Exit.then]
    refine bodyPost_ret (v := .tuple #[.agg #[.int .u64 0, .int .i64 0, .int .i64 0], .bool false]) (by simp [results, Tryz.results59, go_sem, d0, d1, d2]) rfl ?_
    rw [unhide HN]
    exact ⟨rfl, hWO⟩

end
end Wal
end Go.Proofs.YtmcobkcnpnfobaaGreat
