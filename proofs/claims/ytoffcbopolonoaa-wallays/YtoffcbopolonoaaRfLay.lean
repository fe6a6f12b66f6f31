/-
  The reference's Lay, Size, layHead: contracts.
-/
import Derived.Test.YtoffcbopolonoaaWrLR
import Derived.Test.YtoffcbopolonoaaWalLay
import Derived.Test.YtoffcbopolonoaaWalUnit
import Derived.Test.YtoffcbopolonoaaCrcR
namespace Go.Proofs.Ytoffcbopolonoaa
open Go.RowKit
set_option linter.unusedSimpArgs false
set_option linter.unusedVariables false
namespace Wal

theorem rsize_any (xv : Value) (us : List UInt8) (w : World) (hx : Has w xv us) (hb : us.length ≤ 300000000000000) : Calls Try.prog 37 #[xv] w fun e w' => e = .returned (.int .i64 (size us)) ∧ w' = w := by
  obtain ⟨xo, xc, rfl, hlc, hm⟩ := hx.shape
  have hq : ((us.length : Int) + 8 + 64 - 1) / 64 = (size us : Int) := by unfold size secsOf; omega
  have h0 : ¬ (64 : Int) = 0 := by decide
  go_enter Try.func37, Try.ntmps37
  go_wp2
  go_ret
  rw [hq]
  exact ⟨rfl, rfl⟩

/-- a Writer that is written out -/
theorem mine_lit {w w' : World} (h : w' = w.alloc (.cells #[.slice none 0 0] 110)) : WR.Mine w w' w.heap.size [] := by
  subst h
  exact ⟨⟨_, ⟨heap_alloc_new _ _, World.ownsRow_nil _ _ _ _⟩, fun k e => by cases e⟩, Nat.le_refl _, (Only.refl _ _).alloc _⟩

theorem zeros_succ (a b : List UInt8) (p k : Nat) (h : k < p) : a ++ List.replicate (p - (k + 1)) 0 ++ [0] = a ++ List.replicate (p - k) (0 : UInt8) := by
  rw [show p - k = p - (k + 1) + 1 by omega, List.replicate_succ', List.append_assoc]

set_option maxHeartbeats 1000000 in
theorem rlay_any (xv : Value) (us : List UInt8) (w : World) (hx : Has w xv us) (hr : us.length ≤ 140737488351232) :
    Calls Try.prog 35 #[xv] w fun e w' => ∃ u, e = .returned u ∧ Owns w.heap.size w' u (lay us) ∧ Only (fun _ => False) w w' := by
  obtain ⟨xo, xc, rfl, hlc, hm⟩ := hx.shape
  have HX := hide hx
  have hsl := Crc.more_lt 0 us (by decide)
  have hpl := padOf_le us
  have hp64 : padOf us < 64 := by have := secsOf_lt (8 + us.length); unfold padOf size; omega
  have HLP : Hid (lay us = (front us ++ us) ++ List.replicate (padOf us) 0) := by
    show lay us = _
    rw [lay_parts]
    simp [front]
  have hfl : (front us ++ us).length = 8 + us.length := by rw [List.length_append, front_length]
  obtain ⟨p, hp⟩ : ∃ p, p = padOf us := ⟨_, rfl⟩
  rw [← hp] at hpl hp64 HLP
  clear hx hp
  go_enter Try.func35, Try.ntmps35
  go_wp2_with fail
  have h1 := mine_lit (w := w) rfl
  generalize w.alloc (.cells #[.slice none 0 0] 110) = w1 at *
  have HM1 := hide h1
  clear h1
  refine (WR.mine_u32 (unhide HM1) us.length (by omega) (by simp)).mono ?_
  rintro e w2 ⟨rfl, h2⟩
  have hx2 := (unhide HX).only h2.only (fun _ _ _ h => h)
  have HS := hide (Crc.rsum_any _ us w2 hx2)
  go_wp2_with fail
  refine (unhide HS).mono ?_
  rintro e w3 ⟨rfl, rfl⟩
  go_wp2_with fail
  refine (WR.mine_u32 h2 (Crc.more 0 us) (by omega) (by simp [be_length])).mono ?_
  rintro e w4 ⟨rfl, h4⟩
  have hx4 := (unhide HX).only h4.only (fun _ _ _ h => h)
  clear h2 hx2 HS
  go_wp2_with fail
  refine (WR.mine_raw h4 _ us hx4 (by simp [be_length]; omega)).mono ?_
  rintro e w5 ⟨rfl, h5⟩
  rw [show [] ++ be 4 us.length ++ be 4 (Crc.more 0 us) ++ us = front us ++ us from by simp [front]] at h5
  have HM5 := hide h5
  have HFL := hide hfl
  clear h4 hx4 h5 hfl
  generalize front us ++ us = fb at *
  go_wp2_with fail
  go_loopg [24] p (fun k q wr => k ≤ p ∧ WR.Mine w wr w.heap.size (fb ++ List.replicate (p - k) 0))
  case atStart => exact ⟨Nat.le_refl _, by simpa using unhide HM5⟩
  case round =>
    obtain ⟨hk, hm⟩ := hrel
    obtain ⟨v, hv, hvk⟩ := hm.at'
    have hlen : (fb ++ List.replicate (p - gk) (0 : UInt8)).length = 8 + us.length + (p - gk) := by rw [List.length_append, unhide HFL, List.length_replicate]
    have hc : wr.cell? ⟨w.heap.size, 0, none⟩ = some v := cell_of_one hv.blk
    have hca : ∀ o, (wr.alloc o).cell? ⟨w.heap.size, 0, none⟩ = some v := fun o => by rw [World.cell?_alloc_past _ _ _ (lt_of_block hv.blk)]; exact hc
    have hone := ownsRow_one hv.own
    obtain ⟨ao, cap, hsh⟩ := ownsRow_shape hv.own
    rw [hlen] at hsh
    subst hsh
    have hL : 8 + us.length + p = size us * 64 := hpl
    have HM := hide hm
    have HV := hide hv
    have HVK := hide hvk
    obtain ⟨ln, hln⟩ : ∃ ln, ln = 8 + us.length + (p - gk) := ⟨_, rfl⟩
    have HLN : Hid ((fb ++ List.replicate (p - gk) (0 : UInt8)).length = ln) := by show _ = ln; rw [hlen, hln]
    rw [← hln] at hc hca hone HV HVK
    have hbnd : ln ≤ 140737488351303 := by omega
    by_cases hlt : 0 < gk
    · obtain ⟨m, rfl⟩ : ∃ m, gk = m + 1 := ⟨gk - 1, by omega⟩
      have hmod : (0 : Int) < (ln : Int) % 64 := by omega
      have HZ := hide (zeros_succ fb fb p m (by omega))
      clear hm hv hvk hlen hln hpl hL
      generalize fb ++ List.replicate (p - (m + 1)) (0 : UInt8) = ys at *
      go_wp2_with (at_builtin; refine wpList_push rfl (.tmp 29) (.tmp 30) rfl 110 w.heap.size (.slice ao ln cap) ys (.slice (some ⟨wr.heap.size, 0, none⟩) 1 1) [0] (by decide) rfl rfl (has_one (by simp [bv])) ((unhide HV).push rfl) (by rw [unhide HLN]; simp; omega) ?_; intro ao2 cap2 w2 hc2 hf2 hb2 own2 gr2 at2)
      have R := ((unhide HV).laid (.cells #[.int .u8 0] 5)).trans (((unhide HV).push rfl).stored (by decide) hb2.out own2 gr2 at2)
      rw [unhide HZ] at R
      have HR := hide (WR.Mine.wrote (unhide HM).only (unhide HM).up (unhide HVK) R)
      go_roundg m
      case measure => omega
      case rel => exact ⟨by omega, unhide HR⟩
    · obtain rfl : gk = 0 := by omega
      have hmod : (ln : Int) % 64 = 0 := by omega
      have HO : Hid (Owns w.heap.size wr (.slice ao ln cap) (lay us)) := by
        show Owns w.heap.size wr (.slice ao ln cap) (lay us)
        rw [unhide HLP]
        have := (unhide HV).own
        refine ⟨this.1, ?_⟩
        rcases this.2 with hq | ⟨g, cap', cur, hv', hg, r⟩
        · exact Or.inl hq
        · exact Or.inr ⟨g, cap', cur, hv', unhide HVK g (by rw [hv']; rfl), r⟩
      clear hm hv hvk hlen hln
      go_wp2
      go_ret
      exact ⟨_, rfl, unhide HO, (unhide HM).only⟩

end Wal
end Go.Proofs.Ytoffcbopolonoaa
