/-
  The reference's Lay, Size, layHead: contracts.
  The reference's log as it lies in memory; its small calls; layHead.
  The reference's Reader: Raw and u.
  The calls of a Reader over its number: package locksmithref1.
  The reference's readHead.
  The reference's OpenLog.
-/
import Derived.Test.YtoffcbopolonoaaWrLR
import Derived.Test.YtoffcbopolonoaaWalLay
import Derived.Test.YtoffcbopolonoaaWalUnit
import Derived.Test.YtoffcbopolonoaaCrcR
import Derived.Test.YtoffcbopolonoaaRkAll
import Derived.Test.YtoffcbopolonoaaWalDo
import Derived.Test.YtoffcbopolonoaaRdUni
import Derived.Test.YtoffcbopolonoaaWalHead
import Derived.Test.YtoffcbopolonoaaWalRead
namespace Go.Proofs.Ytoffcbopolonoaa
open Go.RowKit
set_option linter.unusedSimpArgs false
set_option linter.unusedVariables false
namespace Wal

theorem rsize_any (xv : Value) (us : List UInt8) (w : World) (hx : Has w xv us) (hb : us.length ≤ 300000000000000) : Calls Try.prog 37 #[xv] w fun e w' => e = .returned (.int .i64 (size us)) ∧ w' = w := by
  obtain ⟨xo, xc, rfl, hlc, hm⟩ := hx.shape
  have hq : ((us.length : Int) + 8 + 64 - 1) / 64 = (size us : Int) := by unfold size secsOf; omega
  have h0 : ¬ (64 : Int) = 0 := by decide
  go_enter Try.func37, Try.ntmps37
  go_wp2
  go_ret
  rw [hq]
  exact ⟨rfl, rfl⟩

/-- a Writer that is written out -/
theorem mine_lit {w w' : World} (h : w' = w.alloc (.cells #[.slice none 0 0] 110)) : WR.Mine w w' w.heap.size [] := by
  subst h
  exact ⟨⟨_, ⟨heap_alloc_new _ _, World.ownsRow_nil _ _ _ _⟩, fun k e => by cases e⟩, Nat.le_refl _, (Only.refl _ _).alloc _⟩

theorem zeros_succ (a b : List UInt8) (p k : Nat) (h : k < p) : a ++ List.replicate (p - (k + 1)) 0 ++ [0] = a ++ List.replicate (p - k) (0 : UInt8) := by
  rw [show p - k = p - (k + 1) + 1 by omega, List.replicate_succ', List.append_assoc]

set_option maxHeartbeats 1000000 in
theorem rlay_any (xv : Value) (us : List UInt8) (w : World) (hx : Has w xv us) (hr : us.length ≤ 140737488351232) :
    Calls Try.prog 35 #[xv] w fun e w' => ∃ u, e = .returned u ∧ Owns w.heap.size w' u (lay us) ∧ Only (fun _ => False) w w' := by
  obtain ⟨xo, xc, rfl, hlc, hm⟩ := hx.shape
  have HX := hide hx
  have hsl := Crc.more_lt 0 us (by decide)
  have hpl := padOf_le us
  have hp64 : padOf us < 64 := by have := secsOf_lt (8 + us.length); unfold padOf size; omega
  have HLP : Hid (lay us = (front us ++ us) ++ List.replicate (padOf us) 0) := by
    show lay us = _
    rw [lay_parts]
    simp [front]
  have hfl : (front us ++ us).length = 8 + us.length := by rw [List.length_append, front_length]
  obtain ⟨p, hp⟩ : ∃ p, p = padOf us := ⟨_, rfl⟩
  rw [← hp] at hpl hp64 HLP
  clear hx hp
  go_enter Try.func35, Try.ntmps35
  go_wp2_with fail
  have h1 := mine_lit (w := w) rfl
  generalize w.alloc (.cells #[.slice none 0 0] 110) = w1 at *
  have HM1 := hide h1
  clear h1
  refine (WR.mine_u32 (unhide HM1) us.length (by omega) (by simp)).mono ?_
  rintro e w2 ⟨rfl, h2⟩
  have hx2 := (unhide HX).only h2.only (fun _ _ _ h => h)
  have HS := hide (Crc.rsum_any _ us w2 hx2)
  go_wp2_with fail
  refine (unhide HS).mono ?_
  rintro e w3 ⟨rfl, rfl⟩
  go_wp2_with fail
  refine (WR.mine_u32 h2 (Crc.more 0 us) (by omega) (by simp [be_length])).mono ?_
  rintro e w4 ⟨rfl, h4⟩
  have hx4 := (unhide HX).only h4.only (fun _ _ _ h => h)
  clear h2 hx2 HS
  go_wp2_with fail
  refine (WR.mine_raw h4 _ us hx4 (by simp [be_length]; omega)).mono ?_
  rintro e w5 ⟨rfl, h5⟩
  rw [show [] ++ be 4 us.length ++ be 4 (Crc.more 0 us) ++ us = front us ++ us from by simp [front]] at h5
  have HM5 := hide h5
  have HFL := hide hfl
  clear h4 hx4 h5 hfl
  generalize front us ++ us = fb at *
  go_wp2_with fail
  go_loopg [24] p (fun k q wr => k ≤ p ∧ WR.Mine w wr w.heap.size (fb ++ List.replicate (p - k) 0))
  case atStart => exact ⟨Nat.le_refl _, by simpa using unhide HM5⟩
  case round =>
    obtain ⟨hk, hm⟩ := hrel
    obtain ⟨v, hv, hvk⟩ := hm.at'
    have hlen : (fb ++ List.replicate (p - gk) (0 : UInt8)).length = 8 + us.length + (p - gk) := by rw [List.length_append, unhide HFL, List.length_replicate]
    have hc : wr.cell? ⟨w.heap.size, 0, none⟩ = some v := cell_of_one hv.blk
    have hca : ∀ o, (wr.alloc o).cell? ⟨w.heap.size, 0, none⟩ = some v := fun o => by rw [World.cell?_alloc_past _ _ _ (lt_of_block hv.blk)]; exact hc
    have hone := ownsRow_one hv.own
    obtain ⟨ao, cap, hsh⟩ := ownsRow_shape hv.own
    rw [hlen] at hsh
    subst hsh
    have hL : 8 + us.length + p = size us * 64 := hpl
    have HM := hide hm
    have HV := hide hv
    have HVK := hide hvk
    obtain ⟨ln, hln⟩ : ∃ ln, ln = 8 + us.length + (p - gk) := ⟨_, rfl⟩
    have HLN : Hid ((fb ++ List.replicate (p - gk) (0 : UInt8)).length = ln) := by show _ = ln; rw [hlen, hln]
    rw [← hln] at hc hca hone HV HVK
    have hbnd : ln ≤ 140737488351303 := by omega
    by_cases hlt : 0 < gk
    · obtain ⟨m, rfl⟩ : ∃ m, gk = m + 1 := ⟨gk - 1, by omega⟩
      have hmod : (0 : Int) < (ln : Int) % 64 := by omega
      have HZ := hide (zeros_succ fb fb p m (by omega))
      clear hm hv hvk hlen hln hpl hL
      generalize fb ++ List.replicate (p - (m + 1)) (0 : UInt8) = ys at *
      go_wp2_with (at_builtin; refine wpList_push rfl (.tmp 29) (.tmp 30) rfl 110 w.heap.size (.slice ao ln cap) ys (.slice (some ⟨wr.heap.size, 0, none⟩) 1 1) [0] (by decide) rfl rfl (has_one (by simp [bv])) ((unhide HV).push rfl) (by rw [unhide HLN]; simp; omega) ?_; intro ao2 cap2 w2 hc2 hf2 hb2 own2 gr2 at2)
      have R := ((unhide HV).laid (.cells #[.int .u8 0] 5)).trans (((unhide HV).push rfl).stored (by decide) hb2.out own2 gr2 at2)
      rw [unhide HZ] at R
      have HR := hide (WR.Mine.wrote (unhide HM).only (unhide HM).up (unhide HVK) R)
      go_roundg m
      case measure => omega
      case rel => exact ⟨by omega, unhide HR⟩
    · obtain rfl : gk = 0 := by omega
      have hmod : (ln : Int) % 64 = 0 := by omega
      have HO : Hid (Owns w.heap.size wr (.slice ao ln cap) (lay us)) := by
        show Owns w.heap.size wr (.slice ao ln cap) (lay us)
        rw [unhide HLP]
        have := (unhide HV).own
        refine ⟨this.1, ?_⟩
        rcases this.2 with hq | ⟨g, cap', cur, hv', hg, r⟩
        · exact Or.inl hq
        · exact Or.inr ⟨g, cap', cur, hv', unhide HVK g (by rw [hv']; rfl), r⟩
      clear hm hv hvk hlen hln
      go_wp2
      go_ret
      exact ⟨_, rfl, unhide HO, (unhide HM).only⟩

end Wal
end Go.Proofs.Ytoffcbopolonoaa

namespace Go.Proofs.Ytoffcbopolonoaa
open Go.RowKit
set_option linter.unusedSimpArgs false
set_option linter.unusedVariables false

theorem rlen_any {w0 w : World} {F : Nat → Prop} {b : Nat} {d : Dk} (h : Rks w0 w F b d) : Calls Try.prog 52 #[.pointer (some ⟨b, 0, none⟩)] w fun e w' => e = .returned (.int .i64 d.half) ∧ w' = w := by
  obtain ⟨sg, sc, bg, bc, pv, svs, dvs, hl⟩ := h.lie
  obtain ⟨c0, c1, c2, c3, c4, c5, cf⟩ := cells_six hl.blk
  have hn1 := h.fine.n1
  have hn2 := h.fine.n2
  have hq : ((d.secs.length : Int) - 2) / 2 = (d.half : Int) := by unfold Dk.half; omega
  have hz : ¬ (2 : Int) = 0 := by decide
  clear h hl
  go_enter Try.func52, Try.ntmps52
  go_wp2
  go_ret
  rw [hq]
  exact ⟨rfl, rfl⟩

namespace Wal

/-- which sector has the head that counts, and the next one's -/
def slotOk (s : Int) (next : Nat) : Prop := (s = -1 ∧ next = 0) ∨ (s = 0 ∧ next = 1) ∨ (s = 1 ∧ next = 0)

def RLgAt (w : World) (L R : Nat) (l : Lg) (s : Int) : Prop := w.heap[L]? = some (.cells #[.pointer (some ⟨R, 0, none⟩), .int .u64 l.hd.epoch, .int .i64 l.hd.area, .int .i64 l.hd.used, .int .i64 s, .bool l.dead] 56 (0, 0))

structure RLogs (w0 w : World) (F : Nat → Prop) (R L : Nat) (d : Dk) (l : Lg) (s : Int) : Prop where
  rk : Rks w0 w F R d
  lg : RLgAt w L R l s
  slot : slotOk s l.next
  off : ¬ F L
  up : w0.heap.size ≤ L
  fine : l.Fine d.half
  works : d.works ≤ 900000

theorem RLgAt.cells {w : World} {L R : Nat} {l : Lg} {s : Int} (h : RLgAt w L R l s) :
    w.cell? ⟨L, 0, none⟩ = some (.pointer (some ⟨R, 0, none⟩)) ∧ w.cell? ⟨L, 1, none⟩ = some (.int .u64 l.hd.epoch) ∧ w.cell? ⟨L, 2, none⟩ = some (.int .i64 l.hd.area) ∧ w.cell? ⟨L, 3, none⟩ = some (.int .i64 l.hd.used) ∧
      w.cell? ⟨L, 4, none⟩ = some (.int .i64 s) ∧ w.cell? ⟨L, 5, none⟩ = some (.bool l.dead) ∧ ∀ i, w.frozen? ⟨L, i, none⟩ = false := by
  unfold RLgAt at h
  simp [World.cell?, World.frozen?, h]

section
variable {w0 w w' : World} {F : Nat → Prop} {R L : Nat} {d : Dk} {l : Lg} {s : Int}

theorem RLogs.lt (h : RLogs w0 w F R L d l s) : L < w.heap.size := lt_of_block h.lg
theorem RLogs.later (h : RLogs w0 w F R L d l s) {S : Nat → Prop} (ho : Only S w w') (hS : ∀ k, k < w.heap.size → S k → ¬ F k ∧ w0.heap.size ≤ k ∧ k ≠ L) : RLogs w0 w' F R L d l s :=
  ⟨h.rk.later ho (fun k hk hs => ⟨(hS k hk hs).1, (hS k hk hs).2.1⟩), ho.heap h.lg (fun hs => (hS L h.lt hs).2.2 rfl), h.slot, h.off, h.up, h.fine, h.works⟩
theorem RLogs.same (h : RLogs w0 w F R L d l s) (ho : Only (fun _ => False) w w') : RLogs w0 w' F R L d l s := h.later ho (fun _ _ e => e.elim)
theorem RLogs.drews (h : RLogs w0 w F R L d l s) (n : Nat) : RLogs w0 (w.drewN n) F R L d l s := h.same (Only.drews n)

theorem rhalf_any (h : RLogs w0 w F R L d l s) : Calls Try.prog 34 #[.pointer (some ⟨L, 0, none⟩)] w fun e w' => e = .returned (.int .i64 d.half) ∧ w' = w := by
  obtain ⟨c0, c1, c2, c3, c4, c5, cf⟩ := h.lg.cells
  have HH := hide (rlen_any h.rk)
  clear h
  go_enter Try.func34, Try.ntmps34
  go_wp2_with fail
  refine (unhide HH).mono ?_
  rintro e w ⟨rfl, rfl⟩
  go_wp2
  go_ret
  exact ⟨rfl, rfl⟩
theorem rdead_any (h : RLogs w0 w F R L d l s) : Calls Try.prog 32 #[.pointer (some ⟨L, 0, none⟩)] w fun e w' => e = .returned (.bool l.dead) ∧ w' = w := by
  obtain ⟨c0, c1, c2, c3, c4, c5, cf⟩ := h.lg.cells
  clear h
  go_enter Try.func32, Try.ntmps32
  go_wp2
  go_ret
  exact ⟨rfl, rfl⟩
theorem rroom_any (h : RLogs w0 w F R L d l s) : Calls Try.prog 30 #[.pointer (some ⟨L, 0, none⟩)] w fun e w' => e = .returned (.int .i64 (d.half - l.hd.used)) ∧ ∃ n, w' = w.drewN n := by
  obtain ⟨c0, c1, c2, c3, c4, c5, cf⟩ := h.lg.cells
  have H := hide h
  have hu := h.fine.used
  have hh := half_le d h.rk.fine
  clear h
  go_enter Try.func30, Try.ntmps30
  go_wp2_with fail
  go_quiet ((go_at_call 52; exact Calls.quiet_of_same (rlen_any ((unhide H).drews _).rk)))
  go_wp2
  go_ret
  exact ⟨rfl, _, rfl⟩
end

set_option maxHeartbeats 1000000 in
set_option maxRecDepth 100000 in
theorem rheadLay_any (h : Hd) (w : World) (he : h.epoch < 18446744073709551616) (ha : h.area < 4294967296) (hu : h.used < 4294967296) :
    Calls Try.prog 79 #[hv h] w fun e w' => ∃ u, e = .returned u ∧ Owns w.heap.size w' u h.lay ∧ Only (fun _ => False) w w' := by
  have kc := fun (w : World) (X Y : Obj) (C : Array Value) (n c : Nat) => Lib.run_convert_bytes_const (P := Try.prog) ((w.alloc X).alloc Y) 32 5 C n c Try.underlying32 Try.underlying5
  simp only [World.size_alloc] at kc
  unfold hv
  have hsl := Crc.more_lt 0 h.raw (by decide)
  go_enter Try.func79, Try.ntmps79
  go_wp2_with fail
  obtain ⟨W1, hW1⟩ : ∃ W1, W1 = w.alloc (.cells #[.int .u64 h.epoch, .int .i64 h.area, .int .i64 h.used] 36) := ⟨_, rfl⟩
  obtain ⟨W2, hW2⟩ : ∃ W2, W2 = W1.alloc (.cells #[.slice none 0 0] 110) := ⟨_, rfl⟩
  obtain ⟨W3, hW3⟩ : ∃ W3, W3 = W2.alloc (.cells #[.int .u8 76, .int .u8 79, .int .u8 67, .int .u8 75, .int .u8 83, .int .u8 77, .int .u8 84, .int .u8 72] 5 (8, 9)) := ⟨_, rfl⟩
  rw [← hW1, ← hW2, ← hW3]
  have z1 : W1.heap.size = w.heap.size + 1 := by rw [hW1]; simp
  have z2 : W2.heap.size = w.heap.size + 1 + 1 := by rw [hW2]; simp [z1]
  have o1 : Only (fun _ => False) w W1 := by rw [hW1]; exact (Only.refl _ _).alloc _
  have o3 : Only (fun _ => False) W2 W3 := by rw [hW3]; exact (Only.refl _ _).alloc _
  have hB1 : W1.heap[w.heap.size]? = some (.cells #[.int .u64 h.epoch, .int .i64 h.area, .int .i64 h.used] 36) := by rw [hW1]; exact heap_alloc_new _ _
  have m2 := mine_lit hW2
  rw [z1] at m2
  have hmk : Has W3 (.slice (some ⟨w.heap.size + 1 + 1, 0, none⟩) 8 8) mark := by
    have := has_lit (w := W3) (g := W2.heap.size) (bs := mark) (t := 5) (fr := (8, 9)) (by rw [hW3]; exact heap_alloc_new _ _) (by simp [maxLen, mark_length])
    rw [z2] at this
    exact this
  have HB1 := hide hB1
  have HO1 := hide o1
  have HRW := hide (WR.mine_raw (m2.same o3) _ mark hmk (by simp [mark_length]))
  have HZ1 := hide z1
  clear hB1 o1 o3 m2 hmk hW1 hW2 hW3 z1 z2
  generalize w.heap.size + 1 = wb at *
  refine (unhide HRW).mono ?_
  rintro e w2 ⟨rfl, h2⟩
  obtain ⟨c0, c1, c2, cf⟩ := cells_three (h2.only.heap (unhide HB1) (fun h => h))
  clear HRW
  go_wp2_with fail
  refine (WR.mine_u64 h2 h.epoch he (by simp [mark_length])).mono ?_
  rintro e w3 ⟨rfl, h3⟩
  clear h2 c0 c1 c2 cf
  obtain ⟨c0, c1, c2, cf⟩ := cells_three (h3.only.heap (unhide HB1) (fun h => h))
  go_wp2_with fail
  refine (WR.mine_u32 h3 h.area (by omega) (by simp [be_length, mark_length])).mono ?_
  rintro e w4 ⟨rfl, h4⟩
  clear h3 c0 c1 c2 cf
  obtain ⟨c0, c1, c2, cf⟩ := cells_three (h4.only.heap (unhide HB1) (fun h => h))
  go_wp2_with fail
  refine (WR.mine_u32 h4 h.used (by omega) (by simp [be_length, mark_length])).mono ?_
  rintro e w5 ⟨rfl, h5⟩
  clear h4 c0 c1 c2 cf
  have hraw : [] ++ mark ++ be 8 h.epoch ++ be 4 h.area ++ be 4 h.used = h.raw := by simp [Hd.raw]
  rw [hraw] at h5
  clear hraw
  obtain ⟨v5, hv5, hk5⟩ := h5.at'
  have hc5 : w5.cell? ⟨wb, 0, none⟩ = some v5 := cell_of_one hv5.blk
  have hone5 := ownsRow_one hv5.own
  have HSU := hide (Crc.rsum_any v5 h.raw w5 (Has.ofOwns hv5.own))
  have HM5 := hide h5
  clear hv5 hk5 h5
  go_wp2_with fail
  refine (unhide HSU).mono ?_
  rintro e w5 ⟨rfl, rfl⟩
  go_wp2_with fail
  refine (WR.mine_u32 (unhide HM5) (Crc.more 0 h.raw) (by omega) (by rw [Hd.raw_length]; decide)).mono ?_
  rintro e w6 ⟨rfl, h6⟩
  have hfl : (h.raw ++ be 4 (Crc.more 0 h.raw)).length = 28 := by rw [List.length_append, Hd.raw_length, be_length]
  have HLP : Hid (h.lay = (h.raw ++ be 4 (Crc.more 0 h.raw)) ++ List.replicate 36 0) := by
    show h.lay = _
    unfold Hd.lay fill
    rw [hfl]
    rfl
  have HM6 := hide h6
  have HFL := hide hfl
  clear h6 hfl hc5 hone5 HM5 HSU
  generalize h.raw ++ be 4 (Crc.more 0 h.raw) = fb at *
  go_wp2_with fail
  go_loopg [35] 36 (fun k q wr => k ≤ 36 ∧ WR.Mine W1 wr wb (fb ++ List.replicate (36 - k) 0))
  case atStart => exact ⟨Nat.le_refl _, by simpa using unhide HM6⟩
  case round =>
    obtain ⟨hk, hm⟩ := hrel
    obtain ⟨v, hv, hvk⟩ := hm.at'
    have hlen : (fb ++ List.replicate (36 - gk) (0 : UInt8)).length = 28 + (36 - gk) := by rw [List.length_append, unhide HFL, List.length_replicate]
    have hc : wr.cell? ⟨wb, 0, none⟩ = some v := cell_of_one hv.blk
    have hca : ∀ o, (wr.alloc o).cell? ⟨wb, 0, none⟩ = some v := fun o => by rw [World.cell?_alloc_past _ _ _ (lt_of_block hv.blk)]; exact hc
    have hone := ownsRow_one hv.own
    obtain ⟨ao, cap, hsh⟩ := ownsRow_shape hv.own
    rw [hlen] at hsh
    subst hsh
    have HM := hide hm
    have HV := hide hv
    have HVK := hide hvk
    obtain ⟨ln, hln⟩ : ∃ ln, ln = 28 + (36 - gk) := ⟨_, rfl⟩
    have HLN : Hid ((fb ++ List.replicate (36 - gk) (0 : UInt8)).length = ln) := by show _ = ln; rw [hlen, hln]
    rw [← hln] at hc hca hone HV HVK
    by_cases hlt : 0 < gk
    · obtain ⟨m, rfl⟩ : ∃ m, gk = m + 1 := ⟨gk - 1, by omega⟩
      have hmod : (ln : Int) < 64 := by omega
      have HZ := hide (zeros_succ fb fb 36 m (by omega))
      clear hm hv hvk hlen hln
      generalize fb ++ List.replicate (36 - (m + 1)) (0 : UInt8) = ys at *
      go_wp2_with (at_builtin; refine wpList_push rfl (.tmp 40) (.tmp 41) rfl 110 wb (.slice ao ln cap) ys (.slice (some ⟨wr.heap.size, 0, none⟩) 1 1) [0] (by decide) rfl rfl (has_one (by simp [bv])) ((unhide HV).push rfl) (by rw [unhide HLN]; simp; omega) ?_; intro ao2 cap2 w2 hc2 hf2 hb2 own2 gr2 at2)
      have RR := ((unhide HV).laid (.cells #[.int .u8 0] 5)).trans (((unhide HV).push rfl).stored (by decide) hb2.out own2 gr2 at2)
      rw [unhide HZ] at RR
      have HR := hide (WR.Mine.wrote (unhide HM).only (unhide HM).up (unhide HVK) RR)
      go_roundg m
      case measure => omega
      case rel => exact ⟨by omega, unhide HR⟩
    · obtain rfl : gk = 0 := by omega
      have hmod : ¬ (ln : Int) < 64 := by omega
      have HO : Hid (Owns w.heap.size wr (.slice ao ln cap) h.lay) := by
        show Owns w.heap.size wr (.slice ao ln cap) h.lay
        rw [unhide HLP]
        have := (unhide HV).own
        refine ⟨this.1, ?_⟩
        rcases this.2 with hq | ⟨g, cap', cur, hv', hg, r⟩
        · exact Or.inl hq
        · exact Or.inr ⟨g, cap', cur, hv', Nat.le_trans (unhide HO1).size (unhide HVK g (by rw [hv']; rfl)), r⟩
      clear hm hv hvk hlen hln
      go_wp2
      go_ret
      exact ⟨_, rfl, unhide HO, (unhide HO1).trans (unhide HM).only (fun _ _ e => e)⟩

end Wal
end Go.Proofs.Ytoffcbopolonoaa

namespace Go.Proofs.Ytoffcbopolonoaa
open Go.RowKit
set_option linter.unusedSimpArgs false
set_option linter.unusedVariables false
namespace RR

set_option maxHeartbeats 400000 in
theorem raw_yes (b : Nat) (v : Value) (rest : List UInt8) (n : Nat) (w : World) (h : RdAt 91 w b v false rest) (hn : n ≤ rest.length) (hr : rest.length ≤ 140737488355328) :
    Calls Try.prog 54 #[.pointer (some ⟨b, 0, none⟩), .int .i64 n] w fun e w' => ∃ u, e = .returned u ∧ Owns w.heap.size w' u (rest.take n) ∧ ∃ f v', Took 91 w b v false rest n w' f v' := by
  obtain ⟨i0, hi, hz0, hz1, hz2⟩ := info_parts Try.info5
  obtain ⟨ao, cap, hv, hlc, hm⟩ := h.has.shape
  subst hv
  obtain ⟨c0, c1, f0, f1⟩ := cells_two h.blk
  have hn0 : ¬ (n : Int) < 0 := by omega
  have hn1 : ¬ (rest.length : Int) < n := by omega
  have hn2 : (n : Int) ≤ rest.length := by omega
  have hn3 : (n : Int) ≤ cap := by omega
  have hbl := lt_of_block h.blk
  have hca : ∀ o, (w.alloc o).cell? ⟨b, 0, none⟩ = some (.slice ao rest.length cap) := fun o => by rw [World.cell?_alloc_past _ _ _ hbl]; exact c0
  have HR := hide h
  clear h
  have hfr := (unhide HR).has.front hn
  have hlen : (rest.take n).length = n := by simp; omega
  have hown : (w.alloc (.cells #[] 5)).ownsRow w.heap.size 5 1 (.slice (some ⟨w.heap.size, 0, none⟩) 0 0) 0 [] := World.ownsRow_lit w #[] 0 (Nat.le_refl _) (Nat.zero_le _) rfl
  have hhas := hfr.only ((Only.refl (fun _ => False) w).alloc (.cells #[] 5)) (fun _ _ _ h => h)
  clear hfr
  obtain ⟨fs, hfs⟩ : ∃ fs, fs = rest.take n := ⟨_, rfl⟩
  rw [← hfs] at hhas hlen
  have HF := hide hfs
  clear hfs
  have fin : ∀ ao2 cap2 w2, w2.ownsRow w.heap.size 5 1 (.slice ao2 n cap2) n (fs.map bv) → (w.alloc (.cells #[] 5)).grownBy w2 (some w.heap.size) → ∀ v' w', Has w v' (rest.drop n) → blk v' = blk (.slice ao rest.length cap) → w' = w2.setCell ⟨b, 0, none⟩ v' →
      Owns w.heap.size w' (.slice ao2 n cap2) (rest.take n) ∧ ∃ f v', Took 91 w b (.slice ao rest.length cap) false rest n w' f v' := by
    intro ao2 cap2 w2 own2 gr2 v' w' hv' hbv hw'
    subst hw'
    have ho2 : Only (fun _ => False) w w2 := ((Only.refl _ _).alloc _).grown gr2 (fun k hk hl => by simp at hk; omega)
    have h2 : RdAt 91 w2 b (.slice ao rest.length cap) false rest := ⟨ho2.heap (unhide HR).blk (fun h => h), (unhide HR).has.only ho2 (fun _ _ _ h => h), (unhide HR).sep⟩
    have ht := took_of h2 (h2.has.front hn) (hv'.only ho2 (fun _ _ _ h => h)) rfl hbv
    refine ⟨?_, _, _, ht.front, ht.fblk, ht.vblk, ht.now, (ho2.mono (fun _ _ h => h.elim)).trans ht.only (fun _ _ e => e)⟩
    rw [← HF.out]
    unfold Owns
    rw [hlen]
    exact ((Only.refl (fun k => k = b) w2).here 0 _).owns own2 (fun k hk e => by have := (own2.lt k hk).1; omega)
  have hcl : ∀ w2, (w.alloc (.cells #[] 5)).grownBy w2 (some w.heap.size) → w2.cell? ⟨b, 0, none⟩ = some (.slice ao rest.length cap) ∧ w2.cell? ⟨b, 1, none⟩ = some (.bool false) ∧ w2.frozen? ⟨b, 0, none⟩ = false ∧ w2.frozen? ⟨b, 1, none⟩ = false := fun w2 gr2 =>
    cells_two ((((Only.refl (fun _ => False) w).alloc _).grown gr2 (fun k hk hl => by simp at hk; omega)).heap (unhide HR).blk (fun h => h))
  have HC := hide hcl
  clear hcl
  have FIN := hide fin
  clear fin
  by_cases hcap : cap = n
  · subst hcap
    go_enter Try.func54, Try.ntmps54
    go_wp2_with (at_builtin; refine wpList_append_has rfl (.tmp 29) (.tmp 35) 32 rfl w.heap.size 5 i0 Try.underlying32 hi hz0 hz1 hz2 _ 0 [] rfl hown _ fs rfl hhas (by omega) (by simp) ?_; intro ao2 cap2 w2 own2 gr2 at2; obtain ⟨d0, d1, g0, g1⟩ := unhide HC w2 gr2)
    go_ret
    have own3 : w2.ownsRow w.heap.size 5 1 (.slice ao2 cap cap2) cap (fs.map bv) := by simpa [hlen] using own2
    have hbk := (unhide HR).has.backNone hn
    rw [show rest.length - cap = 0 by omega] at hbk
    exact ⟨.slice ao2 cap cap2, rfl, unhide FIN ao2 cap2 w2 own3 gr2 _ _ hbk rfl rfl⟩
  · have hcap' : (cap = n) = False := by simp [hcap]
    go_enter Try.func54, Try.ntmps54
    go_wp2_with (at_builtin; refine wpList_append_has rfl (.tmp 29) (.tmp 35) 32 rfl w.heap.size 5 i0 Try.underlying32 hi hz0 hz1 hz2 _ 0 [] rfl hown _ fs rfl hhas (by omega) (by simp) ?_; intro ao2 cap2 w2 own2 gr2 at2; obtain ⟨d0, d1, g0, g1⟩ := unhide HC w2 gr2)
    go_ret
    have own3 : w2.ownsRow w.heap.size 5 1 (.slice ao2 n cap2) n (fs.map bv) := by simpa [hlen] using own2
    exact ⟨.slice ao2 n cap2, rfl, unhide FIN ao2 cap2 w2 own3 gr2 _ _ ((unhide HR).has.back hn) (blk_add _ _ _ _ _ _) rfl⟩

theorem raw_no (b : Nat) (v : Value) (lack : Bool) (rest : List UInt8) (n : Int) (w : World) (h : RdAt 91 w b v lack rest) (hn : lack = true ∨ n < 0 ∨ (rest.length : Int) < n) :
    Calls Try.prog 54 #[.pointer (some ⟨b, 0, none⟩), .int .i64 n] w fun e w' => e = .returned (.slice none 0 0) ∧ Lacks 91 w b w' := by
  obtain ⟨ao, cap, hv, hlc, hm⟩ := h.has.shape
  subst hv
  obtain ⟨c0, c1, f0, f1⟩ := cells_two h.blk
  have HR := hide h
  clear h
  have fin : ∀ w', w' = (w.setCell ⟨b, 1, none⟩ (.bool true)).setCell ⟨b, 0, none⟩ (.slice none 0 0) → Lacks 91 w b w' := fun w' e => by
    subst e
    exact ⟨⟨by simpa using two_setCell (i := 0) (u := .slice none 0 0) (two_setCell (i := 1) (u := .bool true) (unhide HR).blk), Or.inl ⟨rfl, rfl⟩, fun k hk => by simp [blk] at hk⟩, ((Only.refl _ _).here _ _).here _ _⟩
  have FIN := hide fin
  clear fin
  cases lack with
  | true =>
    go_enter Try.func54, Try.ntmps54
    go_wp2
    go_ret
    exact ⟨rfl, unhide FIN _ rfl⟩
  | false =>
    rcases hn with hn | hn | hn
    · cases hn
    · go_enter Try.func54, Try.ntmps54
      go_wp2
      go_ret
      exact ⟨rfl, unhide FIN _ rfl⟩
    · have hn0 : ¬ n < 0 := by omega
      go_enter Try.func54, Try.ntmps54
      go_wp2
      go_ret
      exact ⟨rfl, unhide FIN _ rfl⟩

theorem raw_any (b : Nat) (v : Value) (lack : Bool) (rest : List UInt8) (n : Int) (w : World) (h : Rdr 91 w b v lack rest) (hr : rest.length ≤ 140737488355328) :
    Calls Try.prog 54 #[.pointer (some ⟨b, 0, none⟩), .int .i64 n] w fun e w' => ∃ u, e = .returned u ∧ Owns w.heap.size w' u (rdBytes lack rest n) ∧ ∃ v', ReadTo 91 w b v w' v' (rdLack lack rest n) (rdRest lack rest n) := by
  by_cases hn : lack = true ∨ n < 0 ∨ (rest.length : Int) < n
  · refine (raw_no b v lack rest n w h.toRdAt hn).mono ?_
    rintro e w' ⟨rfl, hl⟩
    have R := hl.to (v := v) (lack := lack) (rest := rest) (n := n) hn
    exact ⟨_, rfl, by rw [R.2]; exact World.ownsRow_nil _ _ _ _, _, R.1⟩
  · have hl : lack = false := by cases lack with | false => rfl | true => exact absurd (Or.inl rfl) hn
    subst hl
    obtain ⟨m, rfl⟩ := Int.eq_ofNat_of_zero_le (show 0 ≤ n by omega)
    have hm : m ≤ rest.length := by omega
    refine (raw_yes b v rest m w h.toRdAt hm hr).mono ?_
    rintro e w' ⟨u, rfl, own, f, v', ht⟩
    refine ⟨u, rfl, ?_, v', (ht.to hm).1⟩
    have e1 : rdBytes false rest (m : Int) = rest.take m := by simp [rdBytes, rdOk_yes rfl hm]
    rw [e1]
    exact own

set_option maxHeartbeats 400000 in
set_option maxRecDepth 100000 in
theorem number_any (b : Nat) (v : Value) (lack : Bool) (rest : List UInt8) (n : Nat) (w : World) (h : Rdr 91 w b v lack rest) (h0 : 0 < n) (h8 : n ≤ 8) (hr : rest.length ≤ 140737488355328) :
    Calls Try.prog 80 #[.pointer (some ⟨b, 0, none⟩), .int .i64 n] w fun e w' => e = .returned (.int .u64 (de (rdBytes lack rest n))) ∧ ∃ v', ReadTo 91 w b v w' v' (rdLack lack rest n) (rdRest lack rest n) := by
  have HW := hide (raw_any b v lack rest n w h hr)
  go_enter Try.func80, Try.ntmps80
  go_wp2_with fail
  refine (unhide HW).mono ?_
  rintro e w1 ⟨u, rfl, own, v', hrd⟩
  have hlen : (rdBytes lack rest n).length ≤ 8 := by
    unfold rdBytes; split
    · simp; omega
    · simp
  have HT := hide hrd
  clear hrd HW
  have hfr := Has.ofOwns own.out
  clear own
  obtain ⟨fs, hfs⟩ : ∃ fs, fs = rdBytes lack rest n := ⟨_, rfl⟩
  rw [← hfs] at hfr hlen
  have HF := hide hfs
  clear hfs
  obtain ⟨ao, cap, hf, hlc, hm⟩ := hfr.shape
  subst hf
  obtain ⟨m, hm⟩ : ∃ m, m = fs.length := ⟨_, rfl⟩
  rw [← hm] at hlen hfr ⊢
  have HM := hide hm
  clear hm
  go_wp2
  go_loop [6, 7] (fun a i => ∃ k : Nat, k ≤ m ∧ i = .int .i64 k ∧ a = .int .u64 (de (fs.take k))) (fun _ i => m - (intOf i).toNat)
  case atStart => exact ⟨0, Nat.zero_le _, rfl, rfl⟩
  case round =>
    obtain ⟨k, hk, rfl, rfl⟩ := hrel
    by_cases hlt : k < m
    · have hkl : k < fs.length := by rw [← HM.out]; exact hlt
      obtain ⟨bb, off, hao, hq, hc⟩ := hfr.at (by omega)
      subst hao
      clear hq
      have hck : w1.cell? ⟨bb, off + k, none⟩ = some (.int .u8 ((fs[k]'hkl).toNat : Int)) := hc k hkl
      clear hc
      have hd := de_bound fs k (by omega)
      have hs := de_take fs k hkl
      have hb8 := (fs[k]'hkl).toNat_lt
      have HS := hide hs
      clear hs
      generalize de (fs.take k) = d at *
      generalize (fs[k]'hkl).toNat = c at *
      go_wp2
      go_round
      case rel =>
        refine ⟨k + 1, by omega, by go_num, ?_⟩
        rw [HS.out]
        go_num
      case measure => simp [intOf]; omega
    · obtain rfl : k = m := by omega
      go_wp2
      go_ret
      have e : fs.take k = fs := List.take_of_length_le (by rw [HM.out]; exact Nat.le_refl _)
      rw [e, HF.out]
      exact ⟨rfl, _, unhide HT⟩

end RR
end Go.Proofs.Ytoffcbopolonoaa

namespace Go.Proofs.Ytoffcbopolonoaa
open Go.RowKit
set_option linter.unusedSimpArgs false
set_option linter.unusedVariables false
namespace RR

theorem u32_any (b : Nat) (v : Value) (lack : Bool) (rest : List UInt8) (w : World) (h : Rdr 91 w b v lack rest) (hr : rest.length ≤ 140737488355328) :
    Calls Try.prog 53 #[.pointer (some ⟨b, 0, none⟩)] w fun e w' => e = .returned (.int .i64 (de (rdBytes lack rest 4))) ∧ ∃ v', ReadTo 91 w b v w' v' (rdLack lack rest 4) (rdRest lack rest 4) := by
  have HW := hide (number_any b v lack rest 4 w h (by decide) (by decide) hr)
  have hb := de_rd lack rest 4 4294967296 (by decide)
  go_enter Try.func53, Try.ntmps53
  go_wp2_with fail
  refine (unhide HW).mono ?_
  rintro e w1 ⟨rfl, v', hrd⟩
  have HRD := hide hrd
  clear hrd HW
  have hb' : de (rdBytes lack rest (4 : Nat)) < 4294967296 := hb
  generalize hd : de (rdBytes lack rest (4 : Nat)) = d at *
  have HD := hide hd
  clear hd hb
  go_wp2
  go_ret
  have e1 : d = de (rdBytes lack rest 4) := (unhide HD).symm
  rw [← e1]
  exact ⟨rfl, v', unhide HRD⟩

theorem u64_any (b : Nat) (v : Value) (lack : Bool) (rest : List UInt8) (w : World) (h : Rdr 91 w b v lack rest) (hr : rest.length ≤ 140737488355328) :
    Calls Try.prog 78 #[.pointer (some ⟨b, 0, none⟩)] w fun e w' => e = .returned (.int .u64 (de (rdBytes lack rest 8))) ∧ ∃ v', ReadTo 91 w b v w' v' (rdLack lack rest 8) (rdRest lack rest 8) := by
  have HW := hide (number_any b v lack rest 8 w h (by decide) (by decide) hr)
  go_enter Try.func78, Try.ntmps78
  go_wp2_with fail
  refine (unhide HW).mono ?_
  rintro e w1 ⟨rfl, v', hrd⟩
  have HRD := hide hrd
  clear hrd HW
  go_wp2
  go_ret
  exact ⟨rfl, v', unhide HRD⟩

end RR
end Go.Proofs.Ytoffcbopolonoaa

namespace Go.Proofs.Ytoffcbopolonoaa
open Go.RowKit
set_option linter.unusedSimpArgs false
set_option linter.unusedVariables false
namespace Wal

/-- what readHead answers -/
def RHead (e : Ending) (o : Option Hd) : Prop := ∃ x : Hd, e = .returned (.tuple #[hv x, .bool o.isSome]) ∧ (∀ y, o = some y → x = y)

theorem RHead.none {e : Ending} {o : Option Hd} (x : Hd) (h : o = Option.none) (he : e = .returned (.tuple #[hv x, .bool false])) : RHead e o := by
  subst h
  exact ⟨x, he, fun y h => by cases h⟩

section
variable {w0 w w' : World} {F : Nat → Prop} {R L : Nat} {d : Dk} {l : Lg} {s : Int}

set_option maxHeartbeats 2000000 in
set_option maxRecDepth 100000 in
theorem rreadHead_any (h : Rks w0 w F R d) (hwk : d.works ≤ 900000) (k : Nat) (hk : k ≤ 1) : Calls Try.prog 50 #[.pointer (some ⟨R, 0, none⟩), .int .i64 k] w fun e w' => RHead e (headIn d.half (d.sec k)) ∧ Only (fun _ => False) w w' := by
  have H := hide h
  have hbs := h.fine.read64 k
  have hh := half_le d h.fine
  clear h
  go_enter Try.func50, Try.ntmps50
  go_wp2_with fail
  have hB := heap_alloc_new w (.cells #[.int .u64 0, .int .i64 0, .int .i64 0] 36)
  have hO := (Only.refl (fun _ => False) w).alloc (.cells #[.int .u64 0, .int .i64 0, .int .i64 0] 36)
  generalize w.alloc (.cells #[.int .u64 0, .int .i64 0, .int .i64 0] 36) = wa at *
  have HB := hide hB
  have HO := hide hO
  have HA := hide ((unhide H).same hO)
  have hwa : w.heap.size < wa.heap.size := lt_of_block hB
  clear hB hO
  refine (rks_read (unhide HA) (by omega) k).mono ?_
  rintro e wa ⟨x, rfl, hx, rfl⟩
  obtain ⟨c0, c1, c2, cf⟩ := cells_three (unhide HB)
  have HEND := hide (fun (w2 : World) (o2 : Only (fun _ => False) wa w2) (x y z : Value) =>
    ((((unhide HO).trans o2 (fun _ _ e => e)).setCell (p := ⟨w.heap.size, 0, none⟩) (fun h => absurd h (Nat.lt_irrefl _)) x).setCell (p := ⟨w.heap.size, 1, none⟩) (fun h => absurd h (Nat.lt_irrefl _)) y).setCell (p := ⟨w.heap.size, 2, none⟩) (fun h => absurd h (Nat.lt_irrefl _)) z)
  by_cases hre : d.readE k = 0
  · have hl := hbs hre
    obtain ⟨bs, hbs'⟩ : ∃ bs, bs = d.read k := ⟨_, rfl⟩
    rw [← hbs'] at hx hl
    have hsec : d.sec k = some bs := by unfold Dk.sec; rw [if_pos hre, hbs']
    rw [hre]
    have hin : headIn d.half (d.sec k) = if (hdOf bs).area < 2 ∧ (hdOf bs).used ≤ d.half ∧ (hdOf bs).lay = bs then some (hdOf bs) else none := by rw [hsec]; rfl
    have HIN := hide hin
    have HX := hide hx
    have hl1 : 64 ≤ bs.length := by omega
    have hl2 : bs.length ≤ 64 := by omega
    clear hbs hre hbs' hsec hin hl
    obtain ⟨xo, xc, hxs, hxl, hxm⟩ := hx.shape
    subst hxs
    obtain ⟨bb, off, hxo, hxq, hxc⟩ := hx.at (by omega)
    subst hxo
    have hbne : ¬ bb = w.heap.size := by
      intro e
      have h1 := hxc 0 (by omega)
      rw [e] at h1
      have hb0 := unhide HB
      simp only [World.cell?, hb0, Nat.add_zero] at h1
      rcases off with _ | _ | _ | n
      · simp [bv] at h1
      · simp [bv] at h1
      · simp [bv] at h1
      · simp at h1
    clear hxq hxc
    have hcap : ¬ xc = 8 := by omega
    have hbk := hx.back (n := 8) (by omega)
    have HBK : Hid (Has wa (.slice (some ⟨bb, off + 8, none⟩) (bs.length - 8) (xc - 8)) (bs.drop 8)) := hbk
    have hbw := hx.blk_lt (fun e => by rw [e] at hl1; simp at hl1) bb rfl
    have h8c : (8 : Int) ≤ bs.length := by omega
    have h8d : (bs.length : Int) ≤ xc := by omega
    clear hx hbk
    go_wp2_with fail
    have hR1 := heap_alloc_new wa (.cells #[.slice (some ⟨bb, off + 8, none⟩) (bs.length - 8) (xc - 8), .bool false] 91)
    have o1 := (Only.refl (fun _ => False) wa).alloc (.cells #[.slice (some ⟨bb, off + 8, none⟩) (bs.length - 8) (xc - 8), .bool false] 91)
    generalize wa.alloc (.cells #[.slice (some ⟨bb, off + 8, none⟩) (bs.length - 8) (xc - 8), .bool false] 91) = w1 at *
    have r1 : Rdr 91 w1 wa.heap.size (.slice (some ⟨bb, off + 8, none⟩) (bs.length - 8) (xc - 8)) false (bs.drop 8) := ⟨⟨hR1, (unhide HBK).only o1 (fun _ _ _ h => h), fun k hk => by simp only [blk, Option.map_some, Option.some.injEq] at hk; omega⟩, fun h => by cases h⟩
    have HR1 := hide (RR.u64_any _ _ _ _ w1 r1 (by simp; omega))
    obtain ⟨e1, e2, e3⟩ := RO.rd_yes (bs.drop 8) 8 (by simp; omega)
    rw [show ((8 : Nat) : Int) = 8 from rfl] at e1 e2 e3
    rw [e1, e2, e3, show (bs.drop 8).drop 8 = bs.drop 16 from by simp] at HR1
    have HO1 := hide o1
    clear hR1 o1 r1 e1 e2 e3 hcap h8c h8d
    refine (unhide HR1).mono ?_
    rintro e w2 ⟨rfl, v2, t2⟩
    have o2 : Only (fun _ => False) wa w2 := (unhide HO1).trans t2.only (fun i hi e => by omega)
    have h2lt := lt_of_block t2.now.blk
    have HE : de ((bs.drop 8).take 8) = (hdOf bs).epoch := rfl
    rw [HE]
    clear HR1
    go_wp2_with fail
    have hH3 := heap_alloc_new w2 (.cells #[.int .u64 (hdOf bs).epoch, .int .i64 0, .int .i64 0] 36)
    have o3 := (Only.refl (fun _ => False) w2).alloc (.cells #[.int .u64 (hdOf bs).epoch, .int .i64 0, .int .i64 0] 36)
    generalize w2.alloc (.cells #[.int .u64 (hdOf bs).epoch, .int .i64 0, .int .i64 0] 36) = w3 at *
    have t3 := t2.now.only o3 (fun h => h) (fun _ _ h => h)
    have HR3 := hide (RR.u32_any _ _ _ _ w3 t3 (by simp; omega))
    obtain ⟨e1, e2, e3⟩ := RO.rd_yes (bs.drop 16) 4 (by simp; omega)
    rw [show ((4 : Nat) : Int) = 4 from rfl] at e1 e2 e3
    rw [e1, e2, e3, show (bs.drop 16).drop 4 = bs.drop 20 from by simp] at HR3
    have h3lt := lt_of_block hH3
    have HH3 := hide hH3
    have O3 := hide (o2.trans o3 (fun _ _ e => e))
    clear e1 e2 e3 t3 t2 hH3 o3 o2
    refine (unhide HR3).mono ?_
    rintro e w4 ⟨rfl, v4, t4⟩
    have HR4 := hide (RR.u32_any _ _ _ _ w4 t4.now (by simp; omega))
    obtain ⟨e1, e2, e3⟩ := RO.rd_yes (bs.drop 20) 4 (by simp; omega)
    rw [show ((4 : Nat) : Int) = 4 from rfl] at e1 e2 e3
    rw [e1, e2, e3] at HR4
    have HO4 := hide t4.only
    have HA' : de ((bs.drop 16).take 4) = (hdOf bs).area := rfl
    rw [HA']
    clear e1 e2 e3 t4 HR3 HA'
    go_wp2_with fail
    refine (unhide HR4).mono ?_
    rintro e w5 ⟨rfl, v5, t5⟩
    have o35 : Only (fun k => k = wa.heap.size) w3 w5 := (unhide HO4).trans t5.only (fun _ _ e => e)
    have o5 : Only (fun _ => False) wa w5 := (unhide O3).trans o35 (fun i hi e => by omega)
    have HU' : de ((bs.drop 20).take 4) = (hdOf bs).used := rfl
    rw [HU']
    have hE : (hdOf bs).epoch < 18446744073709551616 := by
      have := de_lt ((bs.drop 8).take 8)
      rw [show ((bs.drop 8).take 8).length = 8 by simp; omega, HE] at this
      omega
    have hA : (hdOf bs).area < 4294967296 := by
      have := de_lt ((bs.drop 16).take 4)
      rw [show ((bs.drop 16).take 4).length = 4 by simp; omega] at this
      show de ((bs.drop 16).take 4) < _
      omega
    have hU : (hdOf bs).used < 4294967296 := by
      have := de_lt ((bs.drop 20).take 4)
      rw [show ((bs.drop 20).take 4).length = 4 by simp; omega, HU'] at this
      omega
    have hH5 := o35.heap (unhide HH3) (fun e => by omega)
    have HH5 := hide hH5
    have HA5 := hide ((unhide HA).same o5)
    have HX5 := hide ((unhide HX).only o5 (fun _ _ _ h => h))
    clear HU' HE t5 HR4 o35 hH5 HO4
    generalize hdOf bs = hd at *
    have hne2 : ¬ w2.heap.size = w.heap.size := by omega
    clear c0 c1 c2 cf
    obtain ⟨c0, c1, c2, cf⟩ := cells_three (o5.heap (unhide HB) (fun h => h))
    obtain ⟨k0, k1, k2, kf⟩ := cells_three (unhide HH5)
    by_cases hg1 : hd.area < 2
    · by_cases hg2 : hd.used ≤ d.half
      · have hi1 : ¬ (1 : Int) < hd.area := by omega
        have hi2 : ¬ (d.half : Int) < hd.used := by omega
        go_wp2_with fail
        refine (rlen_any (unhide HA5)).mono ?_
        rintro e w5 ⟨rfl, rfl⟩
        have HSET := hide (fun (w2 : World) (x y z : Value) => (((Only.refl (fun k => k = w.heap.size) w2).here 0 x).here 1 y).here 2 z)
        have HRES : Hid (∀ e', e' = .returned (.tuple #[hv hd, .bool (decide (hd.lay = bs))]) → RHead e' (headIn d.half (d.sec k))) := by
          intro e' he
          rw [unhide HIN]
          by_cases heq : hd.lay = bs
          · rw [if_pos ⟨hg1, hg2, heq⟩]
            rw [decide_eq_true heq] at he
            exact ⟨hd, he, fun y hy => by cases hy; rfl⟩
          · rw [if_neg (fun e => heq e.2.2)]
            rw [decide_eq_false heq] at he
            exact RHead.none hd rfl he
        go_wp2_with fail
        obtain ⟨w6, hw6⟩ : ∃ w6, w6 = (w5.setCell ⟨w2.heap.size, 1, none⟩ (.int .i64 hd.area)).setCell ⟨w2.heap.size, 2, none⟩ (.int .i64 hd.used) := ⟨_, rfl⟩
        have hB6 : w6.heap[w2.heap.size]? = some (.cells #[.int .u64 hd.epoch, .int .i64 hd.area, .int .i64 hd.used] 36) := by
          rw [hw6, two_setCell (two_setCell (unhide HH5))]
          rfl
        have o56 : Only (fun k => k = w2.heap.size) w5 w6 := by rw [hw6]; exact ((Only.refl _ _).here _ _).here _ _
        rw [← hw6]
        have o6 : Only (fun _ => False) wa w6 := o5.trans o56 (fun i hi e => by omega)
        have HX6 := hide ((unhide HX).only o6 (fun _ _ _ h => h))
        have HB6 := hide hB6
        have HSB := hide (str_beq hd.lay bs)
        have HCX := hide (str_conv ((unhide HX6).only ((Only.refl (fun _ => False) w6).drew) (fun _ _ _ h => h)))
        clear k0 k1 k2 kf c0 c1 c2 cf hw6 o56 hi1 hi2
        obtain ⟨k0, k1, k2, kf⟩ := cells_three hB6
        clear hB6
        refine wp_region_held_drew (S := (fun w' => w'.cell? ⟨w2.heap.size, 0, none⟩ = some (.int .u64 hd.epoch) ∧ w'.cell? ⟨w2.heap.size, 1, none⟩ = some (.int .i64 hd.area) ∧ w'.cell? ⟨w2.heap.size, 2, none⟩ = some (.int .i64 hd.used) ∧ (convert 32 9 (.slice (some ⟨bb, off, none⟩) bs.length xc)).run Try.prog w' = .ok (.string (str bs)) w')) (by kernel_rfl) (⟨k0, k1, k2, unhide HCX⟩) (fun hHeld => ?_)
        refine wpAnyH_take (i := 0) (v := ?v1) rfl (by kernel_rfl) (by kernel_rfl) (by kernel_rfl) (fun _ _ _ h => h) (Or.inl ⟨by rfl, ?hy1⟩) (by assumption) ?rest1
        case hy1 =>
          intro w hSw
          (obtain ⟨q0, q1, q2, q3⟩ := hSw; go_simp; try with_reducible rfl)
        try simp only [Act.put, List.setIfInBounds_toArray, List.set_cons_zero, List.set_cons_succ, List.getElem_toArray, List.getElem_cons_succ, List.getElem_cons_zero]
        refine wpAnyH_take (i := 1) (v := ?v2) rfl (by kernel_rfl) (by kernel_rfl) (by kernel_rfl) (fun _ _ _ h => h) (Or.inl ⟨by rfl, ?hy2⟩) (by assumption) ?rest2
        case hy2 =>
          intro w hSw
          (obtain ⟨q0, q1, q2, q3⟩ := hSw; go_simp; try with_reducible rfl)
        try simp only [Act.put, List.setIfInBounds_toArray, List.set_cons_zero, List.set_cons_succ, List.getElem_toArray, List.getElem_cons_succ, List.getElem_cons_zero]
        refine wpAnyH_take (i := 4) (v := ?v3) rfl (by kernel_rfl) (by kernel_rfl) (by kernel_rfl) (fun _ _ _ h => h) (Or.inl ⟨by rfl, ?hy3⟩) (by assumption) ?rest3
        case hy3 =>
          intro w hSw
          go_simp
          try with_reducible rfl
        try simp only [Act.put, List.setIfInBounds_toArray, List.set_cons_zero, List.set_cons_succ, List.getElem_toArray, List.getElem_cons_succ, List.getElem_cons_zero]
        refine wpAnyH_take (i := 5) (v := ?v4) rfl (by kernel_rfl) (by kernel_rfl) (by kernel_rfl) (fun _ _ _ h => h) (Or.inl ⟨by rfl, ?hy4⟩) (by assumption) ?rest4
        case hy4 =>
          intro w hSw
          (obtain ⟨q0, q1, q2, q3⟩ := hSw; go_simp; try with_reducible rfl)
        try simp only [Act.put, List.setIfInBounds_toArray, List.set_cons_zero, List.set_cons_succ, List.getElem_toArray, List.getElem_cons_succ, List.getElem_cons_zero]
        refine wpAnyH_ready (rs := [2]) (by kernel_rfl) (by simp) ?_
        refine AllReadyH.cons rfl (fun K hK => ?_) AllReadyH.nil
        go_simp
        go_wp2_with fail; refine (rheadLay_any hd _ hE hA hU).mono ?_; rintro e w7 ⟨y7, rfl, hy7, o7⟩; have o67 : Only (fun _ => False) w6 w7 := ((Only.refl _ _).drew).trans o7 (fun _ _ e => e); have o7a := o6.trans o67 (fun _ _ e => e); obtain ⟨j0, j1, j2, jf⟩ := cells_three (o67.heap (unhide HB6) (fun h => h)); have HX7 := hide ((unhide HX6).only o67 (fun _ _ _ h => h)); have HY7 := hide (Has.ofOwns hy7.out); have HYF : Hid (∀ j, blk y7 = some j → w6.heap.size ≤ j) := owns_fresh hy7; obtain ⟨r0, r1, r2, rf'⟩ := cells_three (o7a.heap (unhide HB) (fun h => h)); have HOS := hide (((Only.refl (fun k => k = w.heap.size) w7).here 0 (.int .u64 hd.epoch)).here 1 (.int .i64 hd.area) |>.here 2 (.int .i64 hd.used)); have h6w := o6.size; clear hy7 o7
        refine hK.out _ _ (⟨j0, j1, j2, str_conv (unhide HX7)⟩) (fun hHeld => ?_)
        clear hK K
        try simp only [Act.put, List.setIfInBounds_toArray, List.set_cons_zero, List.set_cons_succ, List.getElem_toArray, List.getElem_cons_succ, List.getElem_cons_zero]
        have m0 := (unhide HOS).cell j0 hne2
        have m1 := (unhide HOS).cell j1 hne2
        have m2 := (unhide HOS).cell j2 hne2
        have HX8 := hide ((unhide HX7).only (unhide HOS) (fun _ k hk e => by simp only [blk, Option.map_some, Option.some.injEq] at hk; omega))
        have HY8 := hide ((unhide HY7).only (unhide HOS) (fun _ k hk e => by have := unhide HYF k hk; omega))
        have cy7 := str_conv (unhide HY7)
        have cy8 := str_conv (unhide HY8)
        refine wpAnyH_ready (rs := [3, 7]) (by kernel_rfl) (by simp) ?_
        refine (AllReadyH.cons rfl (fun K hK => ?_) (AllReadyH.cons rfl (fun K hK => ?_) AllReadyH.nil))
        · skip
          go_simp
          refine hK.out _ _ (⟨j0, j1, j2, str_conv (unhide HX7)⟩) (fun hHeld => ?_)
          clear hK K
          try simp only [Act.put, List.setIfInBounds_toArray, List.set_cons_zero, List.set_cons_succ, List.getElem_toArray, List.getElem_cons_succ, List.getElem_cons_zero]
          refine wpAnyH_take (i := 6) (v := ?v5) rfl (by kernel_rfl) (by kernel_rfl) (by kernel_rfl) (fun _ _ _ h => h) (Or.inl ⟨by rfl, ?hy5⟩) (by assumption) ?rest5
          case hy5 =>
            intro w hSw
            go_simp
            try with_reducible rfl
          try simp only [Act.put, List.setIfInBounds_toArray, List.set_cons_zero, List.set_cons_succ, List.getElem_toArray, List.getElem_cons_succ, List.getElem_cons_zero]
          refine wpAnyH_ready (rs := [7]) (by kernel_rfl) (by simp) ?_
          refine AllReadyH.cons rfl (fun K hK => ?_) AllReadyH.nil
          go_simp
          refine hK.out _ _ (⟨m0, m1, m2, str_conv (unhide HX8)⟩) (fun hHeld => ?_)
          clear hK K
          try simp only [Act.put, List.setIfInBounds_toArray, List.set_cons_zero, List.set_cons_succ, List.getElem_toArray, List.getElem_cons_succ, List.getElem_cons_zero]
          refine wpAnyH_take (i := 8) (v := ?v6) rfl (by kernel_rfl) (by kernel_rfl) (by kernel_rfl) (fun _ _ _ h => h) (Or.inl ⟨by rfl, ?hy6⟩) (by assumption) ?rest6
          case hy6 =>
            intro w hSw
            go_simp
            try with_reducible rfl
          try simp only [Act.put, List.setIfInBounds_toArray, List.set_cons_zero, List.set_cons_succ, List.getElem_toArray, List.getElem_cons_succ, List.getElem_cons_zero]
          refine wpAnyH_done (by kernel_rfl) ?_ _
          rw [unhide HSB]
          have hW := three_set (o7a.heap (unhide HB) (fun h => h)) (.int .u64 hd.epoch) (.int .i64 hd.area) (.int .i64 hd.used)
          have hWO := unhide HEND w7 o7a (.int .u64 hd.epoch) (.int .i64 hd.area) (.int .i64 hd.used)
          clear hHeld
          generalize ((w7.setCell ⟨w.heap.size, 0, none⟩ (.int .u64 hd.epoch)).setCell ⟨w.heap.size, 1, none⟩ (.int .i64 hd.area)).setCell ⟨w.heap.size, 2, none⟩ (.int .i64 hd.used) = W at *
          obtain ⟨d0, d1, d2, df⟩ := cells_three hW
          go_wp2_with fail
          try simp only [Exit.inBlock, Exit.then]
          refine bodyPost_ret (v := .tuple #[.agg #[.int .u64 hd.epoch, .int .i64 hd.area, .int .i64 hd.used], .bool (decide (hd.lay = bs))]) (by simp [results, Try.results50, go_sem, d0, d1, d2]) rfl ?_
          exact ⟨unhide HRES _ rfl, hWO⟩
        · skip
          go_simp
          refine hK.out _ _ (⟨m0, m1, m2, str_conv (unhide HX8)⟩) (fun hHeld => ?_)
          clear hK K
          try simp only [Act.put, List.setIfInBounds_toArray, List.set_cons_zero, List.set_cons_succ, List.getElem_toArray, List.getElem_cons_succ, List.getElem_cons_zero]
          refine wpAnyH_ready (rs := [3]) (by kernel_rfl) (by simp) ?_
          refine AllReadyH.cons rfl (fun K hK => ?_) AllReadyH.nil
          go_simp
          refine hK.out _ _ (⟨m0, m1, m2, str_conv (unhide HX8)⟩) (fun hHeld => ?_)
          clear hK K
          try simp only [Act.put, List.setIfInBounds_toArray, List.set_cons_zero, List.set_cons_succ, List.getElem_toArray, List.getElem_cons_succ, List.getElem_cons_zero]
          refine wpAnyH_take (i := 6) (v := ?v7) rfl (by kernel_rfl) (by kernel_rfl) (by kernel_rfl) (fun _ _ _ h => h) (Or.inl ⟨by rfl, ?hy7⟩) (by assumption) ?rest7
          case hy7 =>
            intro w hSw
            go_simp
            try with_reducible rfl
          try simp only [Act.put, List.setIfInBounds_toArray, List.set_cons_zero, List.set_cons_succ, List.getElem_toArray, List.getElem_cons_succ, List.getElem_cons_zero]
          refine wpAnyH_take (i := 8) (v := ?v8) rfl (by kernel_rfl) (by kernel_rfl) (by kernel_rfl) (fun _ _ _ h => h) (Or.inl ⟨by rfl, ?hy8⟩) (by assumption) ?rest8
          case hy8 =>
            intro w hSw
            go_simp
            try with_reducible rfl
          try simp only [Act.put, List.setIfInBounds_toArray, List.set_cons_zero, List.set_cons_succ, List.getElem_toArray, List.getElem_cons_succ, List.getElem_cons_zero]
          refine wpAnyH_done (by kernel_rfl) ?_ _
          rw [unhide HSB]
          have hW := three_set (o7a.heap (unhide HB) (fun h => h)) (.int .u64 hd.epoch) (.int .i64 hd.area) (.int .i64 hd.used)
          have hWO := unhide HEND w7 o7a (.int .u64 hd.epoch) (.int .i64 hd.area) (.int .i64 hd.used)
          clear hHeld
          generalize ((w7.setCell ⟨w.heap.size, 0, none⟩ (.int .u64 hd.epoch)).setCell ⟨w.heap.size, 1, none⟩ (.int .i64 hd.area)).setCell ⟨w.heap.size, 2, none⟩ (.int .i64 hd.used) = W at *
          obtain ⟨d0, d1, d2, df⟩ := cells_three hW
          go_wp2_with fail
          try simp only [Exit.inBlock, Exit.then]
          refine bodyPost_ret (v := .tuple #[.agg #[.int .u64 hd.epoch, .int .i64 hd.area, .int .i64 hd.used], .bool (decide (hd.lay = bs))]) (by simp [results, Try.results50, go_sem, d0, d1, d2]) rfl ?_
          exact ⟨unhide HRES _ rfl, hWO⟩
      · have HN : Hid (headIn d.half (d.sec k) = none) := by
          show headIn d.half (d.sec k) = none
          rw [unhide HIN, if_neg (fun e => hg2 e.2.1)]
        have hi1 : ¬ (1 : Int) < hd.area := by omega
        have hi2 : (d.half : Int) < hd.used := by omega
        go_wp2_with fail
        refine (rlen_any (unhide HA5)).mono ?_
        rintro e w5 ⟨rfl, rfl⟩
        go_wp2
        have hW := three_set (o5.heap (unhide HB) (fun h => h)) (.int .u64 0) (.int .i64 0) (.int .i64 0)
        have hWO := unhide HEND w5 o5 (.int .u64 0) (.int .i64 0) (.int .i64 0)
        generalize ((w5.setCell ⟨w.heap.size, 0, none⟩ (.int .u64 0)).setCell ⟨w.heap.size, 1, none⟩ (.int .i64 0)).setCell ⟨w.heap.size, 2, none⟩ (.int .i64 0) = W at *
        obtain ⟨d0, d1, d2, df⟩ := cells_three hW
        try simp only [Exit.inBlock, Exit.then]
        refine bodyPost_ret (v := .tuple #[.agg #[.int .u64 0, .int .i64 0, .int .i64 0], .bool false]) (by simp [results, Try.results50, go_sem, d0, d1, d2]) rfl ?_
        exact ⟨RHead.none Hd.zero (unhide HN) rfl, hWO⟩
    · have HN : Hid (headIn d.half (d.sec k) = none) := by
        show headIn d.half (d.sec k) = none
        rw [unhide HIN, if_neg (fun e => hg1 e.1)]
      have hi1 : (1 : Int) < hd.area := by omega
      go_wp2
      have hW := three_set (o5.heap (unhide HB) (fun h => h)) (.int .u64 0) (.int .i64 0) (.int .i64 0)
      have hWO := unhide HEND w5 o5 (.int .u64 0) (.int .i64 0) (.int .i64 0)
      generalize ((w5.setCell ⟨w.heap.size, 0, none⟩ (.int .u64 0)).setCell ⟨w.heap.size, 1, none⟩ (.int .i64 0)).setCell ⟨w.heap.size, 2, none⟩ (.int .i64 0) = W at *
      obtain ⟨d0, d1, d2, df⟩ := cells_three hW
      try simp only [Exit.inBlock, Exit.then]
      refine bodyPost_ret (v := .tuple #[.agg #[.int .u64 0, .int .i64 0, .int .i64 0], .bool false]) (by simp [results, Try.results50, go_sem, d0, d1, d2]) rfl ?_
      exact ⟨RHead.none Hd.zero (unhide HN) rfl, hWO⟩
  · have HN := hide (headIn_no d k hre)
    generalize d.readE k = re at *
    go_wp2
    have hW := three_set ((Only.refl (fun _ => False) wa).heap (unhide HB) (fun h => h)) (.int .u64 0) (.int .i64 0) (.int .i64 0)
    have hWO := unhide HEND wa (Only.refl (fun _ => False) wa) (.int .u64 0) (.int .i64 0) (.int .i64 0)
    generalize ((wa.setCell ⟨w.heap.size, 0, none⟩ (.int .u64 0)).setCell ⟨w.heap.size, 1, none⟩ (.int .i64 0)).setCell ⟨w.heap.size, 2, none⟩ (.int .i64 0) = W at *
    obtain ⟨d0, d1, d2, df⟩ := cells_three hW
    try simp only [Exit.inBlock, Exit.then]
    refine bodyPost_ret (v := .tuple #[.agg #[.int .u64 0, .int .i64 0, .int .i64 0], .bool false]) (by simp [results, Try.results50, go_sem, d0, d1, d2]) rfl ?_
    exact ⟨RHead.none Hd.zero (unhide HN) rfl, hWO⟩
end

end Wal
end Go.Proofs.Ytoffcbopolonoaa

namespace Go.Proofs.Ytoffcbopolonoaa
open Go.RowKit
set_option linter.unusedSimpArgs false
set_option linter.unusedVariables false
namespace Wal

/-- the head and its sector behind so many looks -/
def rst (a b : Option Hd) : Nat → Hd × Int
  | 0 => (Hd.zero, -1)
  | 1 => match a with
    | some x => (x, 0)
    | none => (Hd.zero, -1)
  | _ => match a, b with
    | some x, some y => if x.epoch < y.epoch then (y, 1) else (x, 0)
    | some x, none => (x, 0)
    | none, some y => (y, 1)
    | none, none => (Hd.zero, -1)

theorem rst_pick (a b : Option Hd) : (rst a b 2).1 = (pickHd a b).1 ∧ slotOk (rst a b 2).2 (pickHd a b).2 := by
  cases a with
  | none => cases b with
    | none => exact ⟨rfl, Or.inl ⟨rfl, rfl⟩⟩
    | some y => exact ⟨rfl, Or.inr (Or.inr ⟨rfl, rfl⟩)⟩
  | some x => cases b with
    | none => exact ⟨rfl, Or.inr (Or.inl ⟨rfl, rfl⟩)⟩
    | some y =>
      by_cases h : y.epoch ≤ x.epoch
      · simp only [rst, pickHd, if_pos h, if_neg (show ¬ x.epoch < y.epoch by omega)]
        exact ⟨trivial, Or.inr (Or.inl ⟨rfl, rfl⟩)⟩
      · simp only [rst, pickHd, if_neg h, if_pos (show x.epoch < y.epoch by omega)]
        exact ⟨trivial, Or.inr (Or.inr ⟨rfl, rfl⟩)⟩

/-- one look -/
def upd (p : Hd × Int) (o : Option Hd) (i : Int) : Hd × Int := match o with
  | some y => if p.2 < 0 ∨ p.1.epoch < y.epoch then (y, i) else p
  | none => p
def oK (a b : Option Hd) (k : Nat) : Option Hd := if k = 0 then a else b
theorem rst_upd (a b : Option Hd) (k : Nat) (hk : k < 2) : rst a b (k + 1) = upd (rst a b k) (oK a b k) k := by
  rcases Nat.lt_or_ge k 1 with h | h
  · have e : k = 0 := by omega
    subst e
    cases a <;> simp [rst, upd, oK]
  · have e : k = 1 := by omega
    subst e
    cases a with
    | none => cases b <;> simp [rst, upd, oK]
    | some x =>
      cases b with
      | none => simp [rst, upd, oK]
      | some y => simp [rst, upd, oK]
theorem rst_fine {half : Nat} {a b : Option Hd} (ha : ∀ x, a = some x → x.epoch < 18446744073709551616) (hb : ∀ x, b = some x → x.epoch < 18446744073709551616) (k : Nat) (hk : k ≤ 2) : (rst a b k).1.epoch < 18446744073709551616 ∧ -1 ≤ (rst a b k).2 ∧ (rst a b k).2 ≤ 1 := by
  rcases k with _ | _ | k
  · exact ⟨by simp [rst, Hd.zero], by simp [rst, Hd.zero], by simp [rst, Hd.zero]⟩
  · cases a with
    | none => exact ⟨by simp [rst, Hd.zero], by simp [rst, Hd.zero], by simp [rst, Hd.zero]⟩
    | some x => exact ⟨ha x rfl, by simp [rst, Hd.zero], by simp [rst, Hd.zero]⟩
  · cases a with
    | none => cases b with
      | none => exact ⟨by simp [rst, Hd.zero], by simp [rst, Hd.zero], by simp [rst, Hd.zero]⟩
      | some y => exact ⟨hb y rfl, by simp [rst, Hd.zero], by simp [rst, Hd.zero]⟩
    | some x => cases b with
      | none => exact ⟨ha x rfl, by simp [rst, Hd.zero], by simp [rst, Hd.zero]⟩
      | some y =>
        simp only [rst]
        split
        · exact ⟨hb y rfl, by simp [rst, Hd.zero], by simp [rst, Hd.zero]⟩
        · exact ⟨ha x rfl, by simp [rst, Hd.zero], by simp [rst, Hd.zero]⟩

theorem takeUnit_two (bs : List UInt8) (h : 8 + de (bs.take 4) ≤ bs.length) : takeUnit bs = if Crc.more 0 (unitOf bs) = de ((bs.drop 4).take 4) ∧ lay (unitOf bs) = bs.take (size (unitOf bs) * 64) then some (unitOf bs, bs.drop (size (unitOf bs) * 64)) else none := by
  unfold takeUnit
  by_cases hc : lay (unitOf bs) = bs.take (size (unitOf bs) * 64)
  · rw [if_pos ⟨h, hc⟩, if_pos ⟨((takeUnit_iff bs h).1 hc).2.1, hc⟩]
  · rw [if_neg (fun e => hc e.2), if_neg (fun e => hc e.2)]

/-- what OpenLog answers of a disk that is up -/
def ROpenU (w0 w w' : World) (F : Nat → Prop) (R : Nat) (d : Dk) (e : Ending) : Option (List (List UInt8)) → Prop
  | none => e = .returned (.tuple #[.pointer none, .slice none 0 0, .int .i64 5])
  | some us => ∃ L v s, e = .returned (.tuple #[.pointer (some ⟨L, 0, none⟩), v, .int .i64 0]) ∧ OwnsU (L + 1) w' v us ∧ RLogs w0 w' F R L d (lgOf (found d)) s ∧ w.heap.size ≤ L

/-- the log's head and slot are set -/
theorem RLgAt.put {w : World} {L R : Nat} {l : Lg} {s : Int} (h : RLgAt w L R l s) (hd : Hd) (n : Nat) (t : Int) :
    RLgAt ((((w.setCell ⟨L, 1, none⟩ (.int .u64 hd.epoch)).setCell ⟨L, 2, none⟩ (.int .i64 hd.area)).setCell ⟨L, 3, none⟩ (.int .i64 hd.used)).setCell ⟨L, 4, none⟩ (.int .i64 t)) L R ⟨hd, n, l.dead⟩ t := by
  unfold RLgAt
  rw [two_setCell (two_setCell (two_setCell (two_setCell h)))]
  rfl

section
variable {w0 w w' : World} {F : Nat → Prop} {R L : Nat} {d : Dk} {l : Lg} {s : Int}

set_option maxHeartbeats 4000000 in
set_option maxRecDepth 100000 in
theorem ropen_any (h : Rks w0 w F R d) (hwk : d.works ≤ 900000) (hdn : d.down = false) : Calls Try.prog 17 #[.pointer (some ⟨R, 0, none⟩)] w fun e w' => ROpenU w0 w w' F R d e (unitsOf d (found d).1) ∧ Only (fun _ => False) w w' := by
  have HRK := hide h
  have hh := half_le d h.fine
  have HFN := hide h.fine
  have HPF := hide (pickHd_fine (half := d.half) (s := d.sec 0) (t := d.sec 1))
  have HFD : Hid (found d = pickHd (headIn d.half (d.sec 0)) (headIn d.half (d.sec 1))) := rfl
  have HR0 := hide (fun (w' : World) (o : Only (fun _ => False) w w') => rreadHead_any (h.same o) hwk 0 (by decide))
  have HR1 := hide (fun (w' : World) (o : Only (fun _ => False) w w') => rreadHead_any (h.same o) hwk 1 (by decide))
  have hf0 := fun x => headIn_fine (half := d.half) (s := d.sec 0) (h := x)
  have hf1 := fun x => headIn_fine (half := d.half) (s := d.sec 1) (h := x)
  generalize headIn d.half (d.sec 0) = a at *
  generalize headIn d.half (d.sec 1) = b at *
  obtain ⟨sg, sc, bg, bc, pv, svs, dvs, hl⟩ := h.lie
  obtain ⟨c0, c1, c2, c3, c4, c5, cf⟩ := cells_six hl.blk
  rw [hdn] at c4
  clear h hl hdn
  go_enter Try.func17, Try.ntmps17
  go_wp2_with fail
  have hB := heap_alloc_new w (.cells #[.pointer (some ⟨R, 0, none⟩), .int .u64 0, .int .i64 0, .int .i64 0, .int .i64 (-1), .bool false] 56)
  have o1 := (Only.refl (fun _ => False) w).alloc (.cells #[.pointer (some ⟨R, 0, none⟩), .int .u64 0, .int .i64 0, .int .i64 0, .int .i64 (-1), .bool false] 56)
  generalize w.alloc (.cells #[.pointer (some ⟨R, 0, none⟩), .int .u64 0, .int .i64 0, .int .i64 0, .int .i64 (-1), .bool false] 56) = w1 at *
  have HG1 : Hid (RLgAt w1 w.heap.size R ⟨Hd.zero, 0, false⟩ (-1)) := hB
  have HO1 := hide o1
  clear hB o1 c0 c1 c2 c3 c4 c5 cf
  go_loopw [6] (fun i wr => ∃ k : Nat, k ≤ 2 ∧ i = .int .i64 k ∧ RLgAt wr w.heap.size R ⟨(rst a b k).1, 0, false⟩ (rst a b k).2 ∧ Only (fun _ => False) w wr) (fun i _ => 2 - (intOf i).toNat)
  case atStart => exact ⟨0, by decide, rfl, unhide HG1, unhide HO1⟩
  case round =>
    obtain ⟨k, hk, rfl, hg, ho⟩ := hrel
    have HG := hide hg
    have HO := hide ho
    obtain ⟨c0, c1, c2, c3, c4, c5, cf⟩ := hg.cells
    clear hg ho
    by_cases hlt : k < 2
    · have hli : (k : Int) < 2 := by omega
      have HRU := hide (rst_upd a b k hlt)
      have hrf := rst_fine (half := 0) (fun x e => (hf0 x e).1) (fun x e => (hf1 x e).1) k hk
      have HRD : Hid (Calls Try.prog 50 #[.pointer (some ⟨R, 0, none⟩), .int .i64 k] wr fun e w' => RHead e (oK a b k) ∧ Only (fun _ => False) wr w') := by
        rcases Nat.lt_or_ge k 1 with h | h
        · have e : k = 0 := by omega
          subst e
          exact unhide HR0 wr (unhide HO)
        · have e : k = 1 := by omega
          subst e
          exact unhide HR1 wr (unhide HO)
      have hofe : ∀ y, oK a b k = some y → y.epoch < 18446744073709551616 := fun y e => by
        unfold oK at e
        split at e
        · exact (hf0 y e).1
        · exact (hf1 y e).1
      obtain ⟨hd0, s0, hrs⟩ : ∃ hd0 s0, rst a b k = (hd0, s0) := ⟨_, _, rfl⟩
      rw [hrs] at HG c1 c2 c3 c4 HRU hrf
      obtain ⟨o, hoo⟩ : ∃ o, o = oK a b k := ⟨_, rfl⟩
      rw [← hoo] at HRD HRU hofe
      simp only at c1 c2 c3 c4 hrf
      clear hrs hoo
      have hLw := lt_of_block (unhide HG)
      go_wp2_with fail
      refine (unhide HRD).mono ?_
      rintro e w2 ⟨⟨x, rfl, hxo⟩, o2⟩
      unfold hv
      have hG2 := o2.heap (unhide HG) (fun h => h)
      have hH3 := heap_alloc_new w2 (.cells #[.int .u64 x.epoch, .int .i64 x.area, .int .i64 x.used] 36)
      have o3 := o2.alloc (.cells #[.int .u64 x.epoch, .int .i64 x.area, .int .i64 x.used] 36)
      have hG3 := o3.heap (unhide HG) (fun h => h)
      have hne : ¬ w2.heap.size = w.heap.size := by have := lt_of_block hG2; omega
      cases o with
      | none =>
        have hs0 : (none : Option Hd).isSome = false := rfl
        rw [hs0]
        clear c0 c1 c2 c3 c4 c5 cf
        have HFIN : Hid (RLgAt (w2.alloc (.cells #[.int .u64 x.epoch, .int .i64 x.area, .int .i64 x.used] 36)) w.heap.size R ⟨(rst a b (k + 1)).1, 0, false⟩ (rst a b (k + 1)).2) := by
          rw [unhide HRU]
          exact hG3
        have HOF := hide ((unhide HO).trans o3 (fun _ _ e => e))
        clear hxo hs0 hH3 hG2 hG3 o2 o3 hofe
        go_wp2_with fail
        generalize w2.alloc (.cells #[.int .u64 x.epoch, .int .i64 x.area, .int .i64 x.used] 36) = w3 at *
        go_quiet (fail)
        go_wp2
        exact ⟨⟨k + 1, by omega, by simp, unhide HFIN, (unhide HOF).trans (Only.drews nq) (fun _ _ e => e)⟩, by simp [intOf]; omega⟩
      | some y =>
        have hxy : x = y := hxo y rfl
        subst hxy
        have hs0 : (some x).isSome = true := rfl
        rw [hs0]
        have hxe := hofe x rfl
        clear c0 c1 c2 c3 c4 c5 cf hxo hs0 hofe
        go_wp2_with fail
        generalize w2.alloc (.cells #[.int .u64 x.epoch, .int .i64 x.area, .int .i64 x.used] 36) = w3 at *
        have HOF := hide ((unhide HO).trans o3 (fun _ _ e => e))
        have hG3' : RLgAt w3 w.heap.size R ⟨hd0, 0, false⟩ s0 := hG3
        obtain ⟨c0, c1, c2, c3, c4, c5, cf⟩ := hG3'.cells
        obtain ⟨k0, k1, k2, kf⟩ := cells_three hH3
        simp only at c1 c2 c3 c4 c5
        have HG3 := hide hG3'
        have HPUT := hide (fun (w4 : World) (h4 : RLgAt w4 w.heap.size R ⟨hd0, 0, false⟩ s0) => h4.put x 0 (k : Int))
        have HOP := hide (fun (w4 : World) (o4 : Only (fun _ => False) w w4) => Only.put (L := w.heap.size) o4 (fun h => absurd h (Nat.lt_irrefl _)) (.int .u64 x.epoch) (.int .i64 x.area) (.int .i64 x.used) (.int .i64 (k : Int)))
        clear hH3 hG2 hG3 hG3' o2 o3
        by_cases hsn : s0 < 0
        · have HUP : Hid (rst a b (k + 1) = (x, (k : Int))) := by
            show rst a b (k + 1) = _
            rw [unhide HRU]
            simp only [upd, if_pos (Or.inl hsn)]
          go_quiet (fail)
          go_wp2
          have hg4 := unhide HPUT (w3.drewN nq) (unhide HG3)
          have ho4 := unhide HOP (w3.drewN nq) ((unhide HOF).trans (Only.drews nq) (fun _ _ e => e))
          exact ⟨⟨k + 1, by omega, by simp, by rw [unhide HUP]; exact hg4, ho4⟩, by simp [intOf]; omega⟩
        · by_cases hle : hd0.epoch < x.epoch
          · have HUP : Hid (rst a b (k + 1) = (x, (k : Int))) := by
              show rst a b (k + 1) = _
              rw [unhide HRU]
              simp only [upd, if_pos (Or.inr hle)]
            have hlei : (hd0.epoch : Int) < x.epoch := by omega
            go_quiet (fail)
            go_wp2
            have hg4 := unhide HPUT (w3.drewN nq) (unhide HG3)
            have ho4 := unhide HOP (w3.drewN nq) ((unhide HOF).trans (Only.drews nq) (fun _ _ e => e))
            exact ⟨⟨k + 1, by omega, by simp, by rw [unhide HUP]; exact hg4, ho4⟩, by simp [intOf]; omega⟩
          · have HUP : Hid (rst a b (k + 1) = (hd0, s0)) := by
              show rst a b (k + 1) = _
              rw [unhide HRU]
              simp only [upd, if_neg (show ¬ (s0 < 0 ∨ hd0.epoch < x.epoch) from fun e => by rcases e with e | e; exact hsn e; exact hle e)]
            have hlei : ¬ (hd0.epoch : Int) < x.epoch := by omega
            go_quiet (fail)
            go_wp2
            exact ⟨⟨k + 1, by omega, by simp, by rw [unhide HUP]; exact unhide HG3, (unhide HOF).trans (Only.drews nq) (fun _ _ e => e)⟩, by simp [intOf]; omega⟩
    · obtain rfl : k = 2 := by omega
      have hpk := rst_pick a b
      obtain ⟨p2, hp2⟩ : ∃ p2, p2 = rst a b 2 := ⟨_, rfl⟩
      rw [← hp2] at hpk HG c1 c2 c3 c4
      obtain ⟨hd, sl⟩ := p2
      simp only at hpk c1 c2 c3 c4
      have HLG : Hid (RLogs w0 wr F R w.heap.size d (lgOf (found d)) sl) := by
        refine ⟨(unhide HRK).same (unhide HO), ?_, ?_, fun e => by have := (unhide HRK).lt _ e; omega, (unhide HRK).only.size, ?_, hwk⟩
        · have := unhide HG
          unfold RLgAt at this ⊢
          rw [this, unhide HFD]
          show _ = some (Obj.cells #[_, .int .u64 (pickHd a b).1.epoch, .int .i64 (pickHd a b).1.area, .int .i64 (pickHd a b).1.used, _, _] _ _)
          rw [← hpk.1]
          rfl
        · show slotOk sl (found d).2
          rw [unhide HFD]
          exact hpk.2
        · show (lgOf (found d)).Fine d.half
          rw [unhide HFD]
          exact unhide HPF
      have HHD : Hid ((found d).1 = hd) := by show (found d).1 = hd; rw [unhide HFD]; exact hpk.1.symm
      have hfu : hd.used ≤ d.half := by have := (unhide HLG).fine.used; rw [show (lgOf (found d)).hd = (found d).1 from rfl, unhide HHD] at this; exact this
      have hfa : hd.area ≤ 1 := by have := (unhide HLG).fine.area; rw [show (lgOf (found d)).hd = (found d).1 from rfl, unhide HHD] at this; exact this
      have hst : start d hd.area ≤ 2 + 2047 := by
        unfold start
        have : hd.area * d.half ≤ 1 * d.half := Nat.mul_le_mul_right _ hfa
        omega
      obtain ⟨w5, hw5⟩ : ∃ w5, w5 = wr := ⟨_, rfl⟩
      have HO5 : Hid (Only (fun _ => False) w w5) := by rw [hw5]; exact unhide HO
      have HL5 : Hid (RLogs w0 w5 F R w.heap.size d (lgOf (found d)) sl) := by rw [hw5]; exact unhide HLG
      have hL5 : w.heap.size < w5.heap.size := (unhide HL5).lt
      clear hp2 hpk HR0 HR1 hf0 hf1
      go_wp2_with fail
      rw [← hw5]
      clear hw5 HLG HO HG c0 c1 c2 c3 c4 c5 cf
      go_loopw [9, 10] (fun p i wx => ∃ k bs, k ≤ hd.used ∧ i = .int .i64 k ∧ Hid (readFrom d (start d hd.area) k = some bs) ∧ Owns w5.heap.size wx p bs ∧ Only (fun _ => False) w5 wx) (fun _ i _ => hd.used - (intOf i).toNat)
      case atStart => exact ⟨0, [], Nat.zero_le _, rfl, rfl, World.ownsRow_nil _ _ _ _, Only.refl _ _⟩
      case round =>
        obtain ⟨k, bs, hk, rfl, HRF, hown, ho⟩ := hrel
        have HOW := hide hown
        have HO := hide ho
        have HLG := hide ((unhide HL5).same ho)
        have hbl := readFrom_length (unhide HFN) _ _ _ (unhide HRF)
        have hbl2 : bs.length ≤ 131008 := by omega
        have HBL := hide hbl
        obtain ⟨c0, c1, c2, c3, c4, c5, cf⟩ := (unhide HLG).lg.cells
        rw [show (lgOf (found d)).hd = (found d).1 from rfl, unhide HHD] at c1 c2 c3
        clear hbl hown ho
        by_cases hlt : k < hd.used
        · have hlt' : (k : Int) < hd.used := by omega
          obtain ⟨am, ham⟩ : ∃ am, am = hd.area * d.half := ⟨_, rfl⟩
          have hab : am ≤ 2047 := by rw [ham]; have : hd.area * d.half ≤ 1 * d.half := Nat.mul_le_mul_right _ hfa; omega
          have hwm : IntKind.i64.wrap ((hd.area : Int) * (d.half : Int)) = (am : Int) := by
            have e : (hd.area : Int) * (d.half : Int) = (am : Int) := by rw [ham]; simp
            rw [e, IntKind.wrap_i64]; omega
          obtain ⟨st, hste⟩ : ∃ st, st = start d hd.area := ⟨_, rfl⟩
          have hsta : st = 2 + am := by rw [hste, ham]; rfl
          have hwp : IntKind.i64.wrap (2 + (am : Int)) = (st : Int) := by rw [IntKind.wrap_i64]; omega
          obtain ⟨sk, hsk⟩ : ∃ sk, sk = st + k := ⟨_, rfl⟩
          have hwq : IntKind.i64.wrap ((st : Int) + (k : Int)) = (sk : Int) := by rw [IntKind.wrap_i64]; omega
          have HRD := hide (rks_read (unhide HLG).rk (by omega) (sk : Int))
          obtain ⟨re, hre0⟩ : ∃ re, re = d.readE (sk : Int) := ⟨_, rfl⟩
          obtain ⟨b4, hb4⟩ : ∃ b, b = d.read (sk : Int) := ⟨_, rfl⟩
          have hr64 := (unhide HFN).read64 (sk : Int)
          have HSEC : Hid (d.sec sk = if re = 0 then some b4 else none) := by
            show d.sec sk = _
            rw [hre0, hb4]
            rfl
          have HRF1 := hide (readFrom_step d (start d hd.area) k bs (unhide HRF))
          rw [← hste, ← hsk] at HRF1
          have HRF1' : Hid (readFrom d (start d hd.area) (k + 1) = Option.map (fun x => bs ++ x) (d.sec sk)) := by rw [← hste]; exact unhide HRF1
          have HRD2 := hide (fun (w' : World) (o : Only (fun _ => False) wr w') => rks_read ((unhide HLG).same o).rk (by omega) (sk : Int))
          rw [← hre0, ← hb4] at HRD2 hr64
          have HHF := hide (fun (w' : World) (o : Only (fun _ => False) wr w') => rlen_any ((unhide HLG).same o).rk)
          clear ham hste hsta hsk hre0 hb4 HRD HRF1
          go_wp2_with fail
          refine wp_region_held_drew (S := (fun w' => w'.cell? ⟨w.heap.size, 2, none⟩ = some (.int .i64 hd.area))) (by kernel_rfl) (c2) (fun hHeld => ?_)
          refine wpAnyH_take (i := 0) (v := ?v9) rfl (by kernel_rfl) (by kernel_rfl) (by kernel_rfl) (fun _ _ _ h => h) (Or.inl ⟨by rfl, ?hy9⟩) (by assumption) ?rest9
          case hy9 =>
            intro w hSw
            go_simp
            try with_reducible rfl
          try simp only [Act.put, List.setIfInBounds_toArray, List.set_cons_zero, List.set_cons_succ, List.getElem_toArray, List.getElem_cons_succ, List.getElem_cons_zero]
          refine wpAnyH_take (i := 1) (v := ?v10) rfl (by kernel_rfl) (by kernel_rfl) (by kernel_rfl) (fun _ _ _ h => h) (Or.inl ⟨by rfl, ?hy10⟩) (by assumption) ?rest10
          case hy10 =>
            intro w hSw
            go_simp
            try with_reducible rfl
          try simp only [Act.put, List.setIfInBounds_toArray, List.set_cons_zero, List.set_cons_succ, List.getElem_toArray, List.getElem_cons_succ, List.getElem_cons_zero]
          refine wpAnyH_take (i := 2) (v := ?v11) rfl (by kernel_rfl) (by kernel_rfl) (by kernel_rfl) (fun _ _ _ h => h) (Or.inl ⟨by rfl, ?hy11⟩) (by assumption) ?rest11
          case hy11 =>
            intro w hSw
            go_simp
            try with_reducible rfl
          try simp only [Act.put, List.setIfInBounds_toArray, List.set_cons_zero, List.set_cons_succ, List.getElem_toArray, List.getElem_cons_succ, List.getElem_cons_zero]
          refine wpAnyH_take (i := 3) (v := ?v12) rfl (by kernel_rfl) (by kernel_rfl) (by kernel_rfl) (fun _ _ _ h => h) (Or.inl ⟨by rfl, ?hy12⟩) (by assumption) ?rest12
          case hy12 =>
            intro w hSw
            go_simp
            try with_reducible rfl
          try simp only [Act.put, List.setIfInBounds_toArray, List.set_cons_zero, List.set_cons_succ, List.getElem_toArray, List.getElem_cons_succ, List.getElem_cons_zero]
          refine wpAnyH_take (i := 4) (v := ?v13) rfl (by kernel_rfl) (by kernel_rfl) (by kernel_rfl) (fun _ _ _ h => h) (Or.inl ⟨by rfl, ?hy13⟩) (by assumption) ?rest13
          case hy13 =>
            intro w hSw
            go_simp
            try with_reducible rfl
          try simp only [Act.put, List.setIfInBounds_toArray, List.set_cons_zero, List.set_cons_succ, List.getElem_toArray, List.getElem_cons_succ, List.getElem_cons_zero]
          refine wpAnyH_take (i := 5) (v := ?v14) rfl (by kernel_rfl) (by kernel_rfl) (by kernel_rfl) (fun _ _ _ h => h) (Or.inl ⟨by rfl, ?hy14⟩) (by assumption) ?rest14
          case hy14 =>
            intro w hSw
            go_simp
            try with_reducible rfl
          try simp only [Act.put, List.setIfInBounds_toArray, List.set_cons_zero, List.set_cons_succ, List.getElem_toArray, List.getElem_cons_succ, List.getElem_cons_zero]
          refine wpAnyH_take (i := 6) (v := ?v15) rfl (by kernel_rfl) (by kernel_rfl) (by kernel_rfl) (fun _ _ _ h => h) (Or.inl ⟨by rfl, ?hy15⟩) (by assumption) ?rest15
          case hy15 =>
            intro w hSw
            go_simp
            try with_reducible rfl
          try simp only [Act.put, List.setIfInBounds_toArray, List.set_cons_zero, List.set_cons_succ, List.getElem_toArray, List.getElem_cons_succ, List.getElem_cons_zero]
          refine wpAnyH_take (i := 10) (v := ?v16) rfl (by kernel_rfl) (by kernel_rfl) (by kernel_rfl) (fun _ _ _ h => h) (Or.inl ⟨by rfl, ?hy16⟩) (by assumption) ?rest16
          case hy16 =>
            intro w hSw
            go_simp
            try with_reducible rfl
          try simp only [Act.put, List.setIfInBounds_toArray, List.set_cons_zero, List.set_cons_succ, List.getElem_toArray, List.getElem_cons_succ, List.getElem_cons_zero]
          refine wpAnyH_ready (rs := [7]) (by kernel_rfl) (by simp) ?_
          refine AllReadyH.cons rfl (fun K hK => ?_) AllReadyH.nil
          go_simp
          go_wp2_with fail; refine (unhide HHF _ ((Only.refl _ _).drew)).mono ?_; rintro e wy ⟨rfl, hwy⟩; subst hwy
          refine hK.out _ _ (c2) (fun hHeld => ?_)
          clear hK K
          try simp only [Act.put, List.setIfInBounds_toArray, List.set_cons_zero, List.set_cons_succ, List.getElem_toArray, List.getElem_cons_succ, List.getElem_cons_zero]
          refine wpAnyH_take (i := 8) (v := ?v17) rfl (by kernel_rfl) (by kernel_rfl) (by kernel_rfl) (fun _ _ _ h => h) (Or.inl ⟨by rfl, ?hy17⟩) (by assumption) ?rest17
          case hy17 =>
            intro w hSw
            go_simp
            try with_reducible rfl
          try simp only [Act.put, List.setIfInBounds_toArray, List.set_cons_zero, List.set_cons_succ, List.getElem_toArray, List.getElem_cons_succ, List.getElem_cons_zero]
          refine wpAnyH_take (i := 9) (v := ?v18) rfl (by kernel_rfl) (by kernel_rfl) (by kernel_rfl) (fun _ _ _ h => h) (Or.inl ⟨by rfl, ?hy18⟩) (by assumption) ?rest18
          case hy18 =>
            intro w hSw
            go_simp
            try with_reducible rfl
          try simp only [Act.put, List.setIfInBounds_toArray, List.set_cons_zero, List.set_cons_succ, List.getElem_toArray, List.getElem_cons_succ, List.getElem_cons_zero]
          refine wpAnyH_take (i := 11) (v := ?v19) rfl (by kernel_rfl) (by kernel_rfl) (by kernel_rfl) (fun _ _ _ h => h) (Or.inl ⟨by rfl, ?hy19⟩) (by assumption) ?rest19
          case hy19 =>
            intro w hSw
            go_simp
            try with_reducible rfl
          try simp only [Act.put, List.setIfInBounds_toArray, List.set_cons_zero, List.set_cons_succ, List.getElem_toArray, List.getElem_cons_succ, List.getElem_cons_zero]
          refine wpAnyH_ready (rs := [12]) (by kernel_rfl) (by simp) ?_
          refine AllReadyH.cons rfl (fun K hK => ?_) AllReadyH.nil
          go_simp
          go_wp2_with fail; refine (unhide HRD2 _ ((Only.refl _ _).drew)).mono ?_; rintro e wy ⟨x4, rfl, hx4, hwy⟩; subst hwy; have HX4 := hide hx4; clear hx4
          refine hK.out _ _ (c2) (fun hHeld => ?_)
          clear hK K
          try simp only [Act.put, List.setIfInBounds_toArray, List.set_cons_zero, List.set_cons_succ, List.getElem_toArray, List.getElem_cons_succ, List.getElem_cons_zero]
          refine wpAnyH_take (i := 13) (v := ?v20) rfl (by kernel_rfl) (by kernel_rfl) (by kernel_rfl) (fun _ _ _ h => h) (Or.inl ⟨by rfl, ?hy20⟩) (by assumption) ?rest20
          case hy20 =>
            intro w hSw
            go_simp
            try with_reducible rfl
          try simp only [Act.put, List.setIfInBounds_toArray, List.set_cons_zero, List.set_cons_succ, List.getElem_toArray, List.getElem_cons_succ, List.getElem_cons_zero]
          refine wpAnyH_take (i := 14) (v := ?v21) rfl (by kernel_rfl) (by kernel_rfl) (by kernel_rfl) (fun _ _ _ h => h) (Or.inl ⟨by rfl, ?hy21⟩) (by assumption) ?rest21
          case hy21 =>
            intro w hSw
            go_simp
            try with_reducible rfl
          try simp only [Act.put, List.setIfInBounds_toArray, List.set_cons_zero, List.set_cons_succ, List.getElem_toArray, List.getElem_cons_succ, List.getElem_cons_zero]
          refine wpAnyH_take (i := 15) (v := ?v22) rfl (by kernel_rfl) (by kernel_rfl) (by kernel_rfl) (fun _ _ _ h => h) (Or.inl ⟨by rfl, ?hy22⟩) (by assumption) ?rest22
          case hy22 =>
            intro w hSw
            go_simp
            try with_reducible rfl
          try simp only [Act.put, List.setIfInBounds_toArray, List.set_cons_zero, List.set_cons_succ, List.getElem_toArray, List.getElem_cons_succ, List.getElem_cons_zero]
          refine wpAnyH_take (i := 16) (v := ?v23) rfl (by kernel_rfl) (by kernel_rfl) (by kernel_rfl) (fun _ _ _ h => h) (Or.inl ⟨by rfl, ?hy23⟩) (by assumption) ?rest23
          case hy23 =>
            intro w hSw
            go_simp
            try with_reducible rfl
          try simp only [Act.put, List.setIfInBounds_toArray, List.set_cons_zero, List.set_cons_succ, List.getElem_toArray, List.getElem_cons_succ, List.getElem_cons_zero]
          refine wpAnyH_take (i := 17) (v := ?v24) rfl (by kernel_rfl) (by kernel_rfl) (by kernel_rfl) (fun _ _ _ h => h) (Or.inl ⟨by rfl, ?hy24⟩) (by assumption) ?rest24
          case hy24 =>
            intro w hSw
            go_simp
            try with_reducible rfl
          try simp only [Act.put, List.setIfInBounds_toArray, List.set_cons_zero, List.set_cons_succ, List.getElem_toArray, List.getElem_cons_succ, List.getElem_cons_zero]
          refine wpAnyH_done (by kernel_rfl) ?_ _
          clear hHeld c0 c1 c2 c3 c4 c5 cf hwm hwp hwq
          by_cases hre : re = 0
          · have hl64 := hr64 hre
            have HS1 : Hid (readFrom d (start d hd.area) (k + 1) = some (bs ++ b4)) := by
              show readFrom d (start d hd.area) (k + 1) = _
              rw [unhide HRF1', unhide HSEC, if_pos hre]
              rfl
            subst hre
            have hl641 : b4.length ≤ 64 := by omega
            clear hr64 HSEC hl64
            obtain ⟨i0, hi, hz0, hz1, hz2⟩ := info_parts Try.info5
            have hsz5 := (unhide HO).size
            go_wp2_with (at_builtin; refine wpList_append_has rfl (.tmp 89) (.tmp 90) 32 rfl w5.heap.size 5 i0 Try.underlying32 hi hz0 hz1 hz2 _ bs.length (bs.map bv) rfl (unhide HOW).out.drew x4 b4 rfl (unhide HX4) (by omega) (by simp; omega) ?_; intro ao6 cap6 w6 own6 gr6 at6)
            have HO6 : Hid (Only (fun _ => False) w5 w6) := ((unhide HO).drew).grown gr6 (fun j hj hl => by have := ((unhide HOW).out.lt j hj).1; omega)
            have HW6 : Hid (Owns w5.heap.size w6 (.slice ao6 (bs.length + b4.length) cap6) (bs ++ b4)) := by
              show Owns w5.heap.size w6 (.slice ao6 (bs.length + b4.length) cap6) (bs ++ b4)
              unfold Owns
              rw [List.length_append, List.map_append]
              exact own6
            clear own6 gr6 at6
            go_roundw
            case rel => exact ⟨k + 1, bs ++ b4, by omega, by go_num, HS1, unhide HW6, unhide HO6⟩
            case measure => simp [intOf]; omega
          · have HUN : Hid (unitsOf d (found d).1 = none) := by
              have h1 : readFrom d (start d hd.area) (k + 1) = none := by
                rw [unhide HRF1', unhide HSEC, if_neg hre]
                rfl
              show unitsOf d (found d).1 = none
              rw [unhide HHD]
              unfold unitsOf
              rw [readFrom_none d _ k h1 _ (by omega)]
            clear hr64
            have HOF := hide ((unhide HO5).trans (unhide HO) (fun _ _ e => e))
            go_wp2
            go_ret3
            rw [unhide HUN]
            exact ⟨rfl, (unhide HOF).drew⟩
        · obtain rfl : k = hd.used := by omega
          have hnlt : ¬ (hd.used : Int) < hd.used := by omega
          have HUN : Hid (unitsOf d (found d).1 = takeAll bs.length bs) := by
            show unitsOf d (found d).1 = _
            rw [unhide HHD]
            unfold unitsOf
            rw [unhide HRF]
          have hb0 : bs.length % 64 = 0 := by rw [unhide HBL]; simp
          obtain ⟨w6, hw6⟩ : ∃ w6, w6 = wr := ⟨_, rfl⟩
          have HO6 : Hid (Only (fun _ => False) w w6) := by rw [hw6]; exact (unhide HO5).trans (unhide HO) (fun _ _ e => e)
          have HL6 : Hid (RLogs w0 w6 F R w.heap.size d (lgOf (found d)) sl) := by rw [hw6]; exact unhide HLG
          have hL6 : w.heap.size < w6.heap.size := (unhide HL6).lt
          have HH6 := hide (Has.ofOwns (unhide HOW).out)
          go_wp2_with fail
          rw [← hw6] at HH6
          rw [← hw6]
          clear hw6 HLG HO HOW HRF HBL hfu hfa hst hL5 HO5 HL5 c0 c1 c2 c3 c4 c5 cf hk
          go_loopg [9, 13] bs.length (fun gk p q wx => ∃ us rest, Has wx p rest ∧ (rest ≠ [] → ∀ j, blk p = some j → j < w6.heap.size) ∧ OwnsU w6.heap.size wx q us ∧ us.length + rest.length ≤ bs.length ∧ rest.length ≤ gk ∧ rest.length % 64 = 0 ∧ gk ≤ bs.length ∧ Hid (takeAll bs.length bs = (takeAll rest.length rest).map (us ++ ·)) ∧ Only (fun _ => False) w6 wx)
          case atStart => exact ⟨[], bs, unhide HH6, fun hne j hj => (unhide HH6).blk_lt hne j hj, ownsU_nil _ _, by simp, Nat.le_refl _, hb0, Nat.le_refl _, by show _ = _; simp, Only.refl _ _⟩
          case round =>
            obtain ⟨us, rest, hall, hbk6, hus, hub, hrk, hr64, hkb, HT, ho⟩ := hrel
            have HBK6 := hide hbk6
            clear hbk6
            have HALL := hide hall
            have HUS := hide hus
            have HO := hide ho
            have hul : us.length ≤ 131008 := by omega
            obtain ⟨xo, xc, rfl, hxl, hxm⟩ := hall.shape
            clear hall hus ho
            by_cases hne : rest = []
            · subst hne
              have HEND : Hid (unitsOf d (found d).1 = some us) := by
                show unitsOf d (found d).1 = _
                rw [unhide HUN, unhide HT]
                simp [takeAll]
              go_wp2
              go_ret3
              rw [unhide HEND]
              exact ⟨⟨w.heap.size, _, sl, rfl, (unhide HUS).base hL6, (unhide HL6).same (unhide HO), Nat.le_refl _⟩, (unhide HO6).trans (unhide HO) (fun _ _ e => e)⟩
            · have hp : 64 ≤ rest.length := by have := List.length_pos_iff.2 hne; omega
              have hp' : (0 : Int) < rest.length := by omega
              have hbd : rest.length ≤ 131008 := by omega
              obtain ⟨bb, off, hxo, hxq, hxc⟩ := (unhide HALL).at (by omega)
              subst hxo
              have hbw := (unhide HALL).blk_lt hne bb rfl
              have hbw6 : bb < w6.heap.size := unhide HBK6 hne bb rfl
              have HT0 := hide (fun h => takeAll_none hne h)
              have HT1 := hide (fun u r h => takeAll_some (u := u) (r := r) hne h)
              have HTR := hide (fun u r h => takeUnit_rest (bs := rest) (u := u) (r := r) h)
              have HTL := hide (fun u r h => takeUnit_lt (bs := rest) (u := u) (r := r) h)
              clear hxq hxc hne
              go_wp2_with fail
              have hR1 := heap_alloc_new wr (.cells #[.slice (some ⟨bb, off, none⟩) rest.length xc, .bool false] 91)
              have o1 := (Only.refl (fun _ => False) wr).alloc (.cells #[.slice (some ⟨bb, off, none⟩) rest.length xc, .bool false] 91)
              generalize wr.alloc (.cells #[.slice (some ⟨bb, off, none⟩) rest.length xc, .bool false] 91) = w1 at *
              have r1 : Rdr 91 w1 wr.heap.size (.slice (some ⟨bb, off, none⟩) rest.length xc) false rest := ⟨⟨hR1, (unhide HALL).only o1 (fun _ _ _ h => h), fun k hk => by simp only [blk, Option.map_some, Option.some.injEq] at hk; omega⟩, fun h => by cases h⟩
              have HR1 := hide (RR.u32_any _ _ _ _ w1 r1 (by omega))
              obtain ⟨e1, e2, e3⟩ := RO.rd_yes rest 4 (by omega)
              rw [show ((4 : Nat) : Int) = 4 from rfl] at e1 e2 e3
              rw [e1, e2, e3] at HR1
              have HO1 := hide o1
              clear hR1 o1 r1 e1 e2 e3
              obtain ⟨n, hn⟩ : ∃ n, n = de (rest.take 4) := ⟨_, rfl⟩
              obtain ⟨sm, hsm⟩ : ∃ s, s = de ((rest.drop 4).take 4) := ⟨_, rfl⟩
              rw [← hn] at HR1
              have hnb : n < 4294967296 := by
                have := de_lt (rest.take 4)
                rw [show (rest.take 4).length = 4 by simp; omega] at this
                omega
              have hsb : sm < 4294967296 := by
                have := de_lt ((rest.drop 4).take 4)
                rw [show ((rest.drop 4).take 4).length = 4 by simp; omega] at this
                omega
              refine (unhide HR1).mono ?_
              rintro e w2 ⟨rfl, v2, t2⟩
              have HR2 := hide (RR.u32_any _ _ _ _ w2 t2.now (by simp; omega))
              obtain ⟨e1, e2, e3⟩ := RO.rd_yes (rest.drop 4) 4 (by simp; omega)
              rw [show ((4 : Nat) : Int) = 4 from rfl] at e1 e2 e3
              rw [e1, e2, e3, ← hsm, show (rest.drop 4).drop 4 = rest.drop 8 from by simp] at HR2
              have HO2 := hide t2.only
              have HN := hide hn
              have HS := hide hsm
              have h12 := t2.only.size
              clear t2 HR1 e1 e2 e3 hn hsm
              go_wp2_with fail
              refine (unhide HR2).mono ?_
              rintro e w3 ⟨rfl, v3, t3⟩
              have HT3 := hide t3.now
              have O3 : Hid (Only (fun _ => False) wr w3) := (unhide HO1).trans ((unhide HO2).trans t3.only (fun _ _ e => e)) (fun i hi e => by omega)
              have HO3 := hide ((unhide HO).trans (unhide O3) (fun _ _ e => e))
              clear t3 HR2 HO2 HO1
              by_cases hfit : 8 + n ≤ rest.length
              · have hfi : ¬ (rest.length : Int) - 8 < n := by omega
                have hfit' : 8 + de (rest.take 4) ≤ rest.length := by rw [← unhide HN]; exact hfit
                have hul2 := unitOf_length rest hfit'
                have htwo := takeUnit_two rest hfit'
                rw [← unhide HS] at htwo
                have hue : (rest.drop 8).take n = unitOf rest := by rw [unhide HN]; rfl
                rw [← unhide HN] at hul2
                obtain ⟨u, hu⟩ : ∃ u, u = unitOf rest := ⟨_, rfl⟩
                rw [← hu] at hul2 htwo hue
                have HTWO := hide htwo
                have HRW := hide (RR.raw_any _ _ _ _ (n : Int) w3 (unhide HT3) (by simp; omega))
                obtain ⟨e1, e2, e3⟩ := RO.rd_yes (rest.drop 8) n (by simp; omega)
                rw [e1, e2, e3, hue] at HRW
                have hun : u.length ≤ 131000 := by omega
                clear htwo hue hu hfit' e1 e2 e3 HT3 hul2
                go_wp2_with fail
                refine (unhide HRW).mono ?_
                rintro e w4 ⟨u4, rfl, own4, v4, t4⟩
                have o4 := t4.only
                have hh4 := Has.ofOwns own4.out
                obtain ⟨uo, uc, rfl, huc, hum⟩ := hh4.shape
                have HLY := hide (rlay_any _ u w4 hh4 (by omega))
                have HW4 := hide own4
                have O4 : Hid (Only (fun _ => False) wr w4) := (unhide O3).trans o4 (fun i hi e => by omega)
                have h34 := (unhide O3).size
                have h44 := o4.size
                clear HRW own4 t4 hh4 o4
                go_wp2_with fail
                refine (unhide HLY).mono ?_
                rintro e w5 ⟨y5, rfl, own5, o5⟩
                have hh5 := Has.ofOwns own5.out
                have hyl : (lay u).length = size u * 64 := lay_length u
                obtain ⟨m, hm⟩ : ∃ m, m = size u * 64 := ⟨_, rfl⟩
                rw [← hm] at hyl
                obtain ⟨yo, yc, hy5, hyc, hym⟩ := hh5.shape
                rw [hyl] at hy5 hyc
                subst hy5
                have O5 : Hid (Only (fun _ => False) wr w5) := (unhide O4).trans o5 (fun _ _ e => e)
                have HU5 : Hid (Owns w3.heap.size w5 (.slice uo u.length uc) u) := o5.owns (unhide HW4).out (fun _ _ e => e)
                have HA5 := hide ((unhide HALL).only (unhide O5) (fun _ _ _ h => h))
                have HSM := hide (fun (n : Nat) => Crc.rsum_any _ u (w5.drewN n) ((Has.ofOwns (unhide HU5).out).only (Only.drews n) (fun _ _ _ h => h)))
                have hsz : size u * 64 ≤ 262144 := by have := secsOf_lt (8 + u.length); unfold size; omega
                have hsl := Crc.more_lt 0 u (by decide)
                have HLL := hide hyl
                have cv5 : ∀ n, (convert 32 9 (.slice yo m yc)).run Try.prog (w5.drewN n) = .ok (.string (str (lay u))) (w5.drewN n) := fun n => str_conv (hh5.only (Only.drews n) (fun _ _ _ h => h))
                have HM := hide hm
                rw [← hm] at hsz
                clear HLY own5 o5 hh5 hm hyl
                obtain ⟨cs, hcs⟩ : ∃ cs, cs = Crc.more 0 u := ⟨_, rfl⟩
                rw [← hcs] at HTWO HSM hsl
                clear hcs
                by_cases hsum : cs = sm
                · subst hsum
                  have cvA : ∀ mm n, mm ≤ rest.length → (convert 32 9 (.slice (some ⟨bb, off, none⟩) mm xc)).run Try.prog (w5.drewN n) = .ok (.string (str (rest.take mm))) (w5.drewN n) := fun mm n hmm => str_conv (((unhide HA5).front (n := mm) hmm).only (Only.drews n) (fun _ _ _ h => h))
                  obtain ⟨mm, hmm⟩ : ∃ mm, mm = min m rest.length := ⟨_, rfl⟩
                  have HMIN : Hid ((if m < rest.length then (m : Int) else (rest.length : Int)).toNat = mm) := by
                    show (if m < rest.length then (m : Int) else (rest.length : Int)).toNat = mm
                    split <;> omega
                  have hmk : rest.take mm = rest.take m := by
                    rw [hmm]
                    rcases Nat.le_total m rest.length with h | h
                    · rw [Nat.min_eq_left h]
                    · rw [Nat.min_eq_right h, List.take_of_length_le h, List.take_of_length_le (Nat.le_refl _)]
                  have CVB := hide (fun n => cvA mm n (by omega))
                  rw [hmk] at CVB
                  have CV5 := hide cv5
                  have hmx : mm ≤ xc := by omega
                  clear cvA cv5 hmk hmm
                  by_cases hlay : lay u = rest.take m
                  · rw [hlay] at CV5
                    have htk : takeUnit rest = some (u, rest.drop m) := by rw [unhide HTWO, if_pos ⟨rfl, by rw [← unhide HM]; exact hlay⟩, ← unhide HM]
                    have h1 := unhide HT1 u _ htk
                    have h2 := unhide HTR u _ htk
                    have h3 := unhide HTL u _ htk
                    rw [h1] at HT
                    have hml : m ≤ rest.length := by rw [unhide HM]; exact h2.2.1
                    have hrl : (rest.drop m).length = rest.length - m := List.length_drop
                    have hm64 : m % 64 = 0 := by rw [unhide HM]; exact Nat.mul_mod_left _ _
                    have hm0 : ¬ m = 0 := by have := size_pos u; rw [unhide HM]; omega
                    have hab := (unhide HA5).back (n := m) hml
                    rw [show Option.map (fun x => Addr.add x m) (some (⟨bb, off, none⟩ : Addr)) = some ⟨bb, off + m, none⟩ from by simp [Addr.add, hm0]] at hab
                    have HAB := hide hab
                    clear hab
                    have HAN := hide (fun (e : xc = m) => Has.backNone (n := m) (by rw [← e]; exact unhide HA5) hml)
                    have hml' : (m : Int) ≤ rest.length := by omega
                    have hmx' : (rest.length : Int) ≤ xc := by omega
                    clear htk h1 h2 hlay
                    generalize rest.drop m = r at *
                    generalize str (rest.take m) = y2 at *
                    go_wp2_with fail
                    go_quiet ((first | (go_at_call 55; exact Calls.quiet_of_same (unhide HSM _)) | (rw [unhide HMIN, unhide CVB]; exact ⟨rfl, rfl⟩) | (rw [unhide CV5]; exact ⟨rfl, rfl⟩)))
                    generalize (if m < rest.length then (m : Int) else (rest.length : Int)) = mi
                    obtain ⟨w7, hw7⟩ : ∃ w7, w7 = w5.drewN nq := ⟨_, rfl⟩
                    have O57 : Only (fun _ => False) w5 w7 := by rw [hw7]; exact Only.drews nq
                    rw [← hw7]
                    have hX7 : Owns w3.heap.size w7 (.slice uo u.length uc) u := O57.owns (unhide HU5).out (fun _ _ e => e)
                    have HX7 := hide hX7
                    have HU7 := hide ((unhide HUS).same ((unhide O5).trans O57 (fun _ _ e => e)))
                    have HAB7 := hide ((unhide HAB).only O57 (fun _ _ _ h => h))
                    have HAN7 := hide (fun e => (unhide HAN e).only O57 (fun _ _ _ h => h))
                    have HO7 := hide ((unhide HO).trans ((unhide O5).trans O57 (fun _ _ e => e)) (fun _ _ e => e))
                    have h67 := (unhide HO7).size
                    have h6r := (unhide HO).size
                    have h3r := (unhide O3).size
                    clear hX7 O57 hw7 HSM CVB CV5 HMIN
                    obtain ⟨vs, hvs, hev⟩ := (unhide HU7).own
                    have HVS := hide hvs
                    have HEV := hide hev
                    clear hvs hev
                    have hH7 := Has.ofOwns (unhide HX7).out
                    obtain ⟨i1, hi1, hz10, hz11, hz12⟩ := info_parts Try.info32
                    have hfr := owns_fresh (unhide HX7)
                    go_wp2_with (at_builtin; refine wpList_append_hasV rfl (.tmp 130) (.tmp 132) 23 rfl w6.heap.size 32 i1 (.slice none 0 0) 24 Try.underlying23 hi1 hz10 hz11 hz12 rfl u13 us.length vs rfl ((unhide HVS).alloc _) _ [.slice uo u.length uc] rfl (hasV_lit (heap_alloc_new _ _) (by simp [maxLen])) (by simp [Value.oneCell']) (by simp [maxLen]; omega) (by simp; omega) (by simp; omega) ?_; intro ao6 cap6 w8 own6 gr6 at6)
                    · have hP := OwnsU.pushes (xs := [u]) (unhide HVS) (unhide HEV) (ys := [.slice uo u.length uc]) ⟨hH7, fun hne k hk => ⟨by have := hfr k hk; omega, fun e => by have := hfr k hk; have := ((unhide HUS).own.choose_spec.1.lt k e).2; omega⟩, trivial⟩ ((Only.refl _ _).alloc _) own6 gr6 at6
                      have hnot : ∀ j, bb = j → ¬ u13.ownBlock = some j := fun j e k => by have := ((unhide HVS).lt j k).1; omega
                      have HT' : Hid (takeAll bs.length bs = (takeAll r.length r).map ((us ++ [u]) ++ ·)) := by
                        show takeAll bs.length bs = _
                        rw [unhide HT, map_push]
                      have hub' : (us ++ [u]).length + r.length ≤ bs.length := by rw [List.length_append, List.length_singleton]; omega
                      have HO8 := hide ((unhide HO7).trans hP.2 (fun i hi e => by have := ((unhide HVS).lt i e).1; omega))
                      have HP1 := hide hP.1
                      have HAN8 := hide ((unhide HAN7 (by assumption)).only hP.2 (fun _ k hk e => hnot k (by simpa [blk] using hk) e))
                      clear hP own6 gr6 at6 HAB7 HAN7 HAB HAN
                      go_roundg r.length
                      case measure => omega
                      case rel => exact ⟨us ++ [u], r, unhide HAN8, fun _ j hj => by simp [blk] at hj; omega, unhide HP1, hub', Nat.le_refl _, by omega, by omega, HT', unhide HO8⟩
                    · have hP := OwnsU.pushes (xs := [u]) (unhide HVS) (unhide HEV) (ys := [.slice uo u.length uc]) ⟨hH7, fun hne k hk => ⟨by have := hfr k hk; omega, fun e => by have := hfr k hk; have := ((unhide HUS).own.choose_spec.1.lt k e).2; omega⟩, trivial⟩ ((Only.refl _ _).alloc _) own6 gr6 at6
                      have hnot : ∀ j, bb = j → ¬ u13.ownBlock = some j := fun j e k => by have := ((unhide HVS).lt j k).1; omega
                      have HT' : Hid (takeAll bs.length bs = (takeAll r.length r).map ((us ++ [u]) ++ ·)) := by
                        show takeAll bs.length bs = _
                        rw [unhide HT, map_push]
                      have hub' : (us ++ [u]).length + r.length ≤ bs.length := by rw [List.length_append, List.length_singleton]; omega
                      have HO8 := hide ((unhide HO7).trans hP.2 (fun i hi e => by have := ((unhide HVS).lt i e).1; omega))
                      have HP1 := hide hP.1
                      have HAB8 := hide ((unhide HAB7).only hP.2 (fun _ k hk e => hnot k (by simpa [blk] using hk) e))
                      clear hP own6 gr6 at6 HAB7 HAN7 HAB HAN
                      go_roundg r.length
                      case measure => omega
                      case rel => exact ⟨us ++ [u], r, unhide HAB8, fun _ j hj => by simp [blk] at hj; omega, unhide HP1, hub', Nat.le_refl _, by omega, by omega, HT', unhide HO8⟩
                  · have hst : ((str (lay u)).toList == (str (rest.take m)).toList) = false := by rw [str_beq, decide_eq_false hlay]
                    have h0 := unhide HT0 (by rw [unhide HTWO, if_neg (fun e => hlay (by rw [unhide HM]; exact e.2))])
                    rw [h0] at HT
                    have HRE : Hid (unitsOf d (found d).1 = none) := by show unitsOf d (found d).1 = none; rw [unhide HUN, unhide HT]; rfl
                    have HOE := hide ((unhide HO6).trans ((unhide HO).trans (unhide O5) (fun _ _ e => e)) (fun _ _ e => e))
                    clear h0 hlay
                    generalize str (lay u) = y1 at *
                    generalize str (rest.take m) = y2 at *
                    go_wp2_with fail
                    go_quiet ((first | (go_at_call 55; exact Calls.quiet_of_same (unhide HSM _)) | (rw [unhide HMIN, unhide CVB]; exact ⟨rfl, rfl⟩) | (rw [unhide CV5]; exact ⟨rfl, rfl⟩)))
                    generalize (if m < rest.length then (m : Int) else (rest.length : Int)) = mi
                    go_wp2
                    go_ret3
                    rw [unhide HRE]
                    exact ⟨rfl, (unhide HOE).trans (Only.drews _) (fun _ _ e => e)⟩
                · have hie : ((cs : Int) != (sm : Int)) = true := by simp; omega
                  have h0 := unhide HT0 (by rw [unhide HTWO, if_neg (fun e => hsum e.1)])
                  rw [h0] at HT
                  have HRE : Hid (unitsOf d (found d).1 = none) := by show unitsOf d (found d).1 = none; rw [unhide HUN, unhide HT]; rfl
                  have HOE := hide ((unhide HO6).trans ((unhide HO).trans (unhide O5) (fun _ _ e => e)) (fun _ _ e => e))
                  clear h0 cv5
                  go_wp2_with fail
                  go_quiet ((go_at_call 55; exact Calls.quiet_of_same (unhide HSM _)))
                  go_wp2
                  go_ret3
                  rw [unhide HRE]
                  exact ⟨rfl, (unhide HOE).trans (Only.drews _) (fun _ _ e => e)⟩
              · have hfi : (rest.length : Int) - 8 < n := by omega
                have h0 := unhide HT0 (takeUnit_short rest (by rw [← unhide HN]; exact hfit))
                rw [h0] at HT
                go_wp2
                go_ret3
                rw [unhide HUN, unhide HT]
                exact ⟨rfl, (unhide HO6).trans (unhide HO3) (fun _ _ e => e)⟩
end

end Wal
end Go.Proofs.Ytoffcbopolonoaa
