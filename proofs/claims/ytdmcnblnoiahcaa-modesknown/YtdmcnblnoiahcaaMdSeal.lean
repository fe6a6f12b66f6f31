/-
  modes.Seal.
-/
import Derived.Test.YtdmcnblnoiahcaaMdFine
import Derived.Test.YtdmcnblnoiahcaaHeldL
namespace Go.Proofs.Ytdmcnblnoiahcaa
open Go.RowKit
set_option linter.unusedSimpArgs false
set_option linter.unusedVariables false
namespace Md
open Ae (upto upto_length blkOf zero16 Arr ag_one range_only after exec_load_mid step_store_mid Cip bflat)
attribute [local go_sem ↓] Md.execOp_loadBlk Md.execOp_rowBlk

theorem blocks_has (m : Nat) (bs : List UInt8) (hm : m ≤ 8796093022208) (hlen : bs.length = 16 * m) (v : Value) (w : World) (hx : Has w v bs) :
    Calls Try.prog 15 #[v] w fun e w' => ∃ v', e = .returned v' ∧ w'.ownsRow w.heap.size 37 16 v' m (bflat bs (upto m)) ∧ Only (fun _ => False) w w' := by
  obtain ⟨ao, cap, rfl, hlc, _⟩ := hx.shape
  by_cases h0 : m = 0
  · subst h0
    rw [hlen]
    exact blocks_any 0 0 0 cap ao (fun h => by omega) bs hm (by omega) hlen w (fun h => by omega) (fun j x hj => by have := (List.getElem?_eq_some_iff.1 hj).1; omega)
  · obtain ⟨b, o, rfl, _, hc⟩ := hx.at (by omega)
    have hb := hx.blk_lt (by intro e; rw [e] at hlen; simp at hlen; omega) b rfl
    rw [hlen]
    exact blocks_any b o m cap (some ⟨b, o, none⟩) (fun _ => rfl) bs hm (by omega) hlen w (fun _ => hb) (fun j x hj => by
      obtain ⟨hj2, e⟩ := List.getElem?_eq_some_iff.1 hj
      rw [hc j hj2, e])

/-- the box of a text -/
def mT (t : List UInt8) : Nat := t.length / 16 + 1
def boxT (key iv t : List UInt8) : List UInt8 := chT (sealF key) iv (padT t) (mT t)
theorem boxT_length (key iv t : List UInt8) (h : keyB key) (hi : iv.length = 16) : (boxT key iv t).length = 16 * mT t :=
  chT_length (sealF key) (fun s hs => sealF_length key h s hs) iv (padT t) hi (mT t) (padT_length t) (mT t) (Nat.le_refl _)

set_option maxRecDepth 100000 in
set_option maxHeartbeats 4000000 in
theorem sealM_fine (key iv t : List UInt8) (h : keyB key) (hi : iv.length = 16) (hl : t.length ≤ 140737488351232) (kv vv tv : Value) (w : World) (hk : Has w kv key) (hv : Has w vv iv) (ht : Has w tv t) :
    Calls Try.prog 6 #[kv, vv, tv] w fun e w' => ∃ v, e = .returned (.tuple #[v, .int .i64 0]) ∧ Owns w.heap.size w' v (boxT key iv t) ∧ Only (fun _ => False) w w' := by
  have HB := hide (begin_fine key iv h hi kv vv w hk hv)
  have HT := hide ht
  have hpl := padT_length t
  have hml : mT t ≤ 8796093022208 := by unfold mT; omega
  have hmt : (padT t).length = 16 * mT t := hpl
  have HBX : Hid (boxT key iv t = chT (sealF key) iv (padT t) (mT t)) := rfl
  have HCH := hide (chT_length (sealF key) (fun s hs => sealF_length key h s hs) iv (padT t) hi (mT t) (padT_length t) (mT t) (Nat.le_refl _))
  have HML := hide hml
  have HMT := hide hmt
  clear hk hv ht hpl hml hmt
  generalize mT t = m at *
  go_enter Try.func6, Try.ntmps6
  go_wp2_with fail
  refine (unhide HB).mono ?_
  rintro e w1 ⟨cb, rfl, hc, o1⟩
  have HC := hide hc
  have O1 := hide o1
  obtain ⟨wy, b9, ey, eb9, a9, o9⟩ := made16 w1 iv hi
  have ht2 : (w1.alloc (.cells (zero16.map bv).toArray 37)).there w1.heap.size 0 (iv.map bv).toArray.size := there16 (Arr.new w1 37 zero16 _ rfl) rfl hi
  have hz2 := size16s hi
  have HT2 := hide ht2
  have HZ2 := hide hz2
  clear hc o1 ht2 hz2
  go_upto_region 2 with (refine wpList_store_mid rfl 37 (.tmp 9) (.tmp 16) rfl w1.heap.size 0 (iv.map bv).toArray rfl rfl (unhide HT2) (unhide HZ2) (ag_one _) ?_)
  rw [Ae.zeros_eq, ← ey, ← eb9]
  have A9 := hide a9
  have O9 := hide ((unhide O1).trans o9 (fun _ _ e => e))
  have HAC := hide (acts_seal key h ((unhide HC).new o9))
  have HTY := hide ((unhide HT).only (unhide O9) (fun _ _ _ e => e))
  clear ey eb9 a9 o9 HT2 HZ2 HC O1 HB HT
  go_wp2_with fail
  refine wp_region_held_drew (S := (fun w' => Only (fun _ => False) wy w')) (by kernel_rfl) ((Only.refl _ _).drew) (fun hHeld => ?_)
  refine wpAnyH_take (i := 0) (v := ?v16) rfl (by kernel_rfl) (by kernel_rfl) (by kernel_rfl) (fun _ _ _ h => h) (Or.inl ⟨by rfl, ?hy16⟩) (by assumption) ?rest16
  case hy16 =>
    intro w hSw
    go_simp
    try with_reducible rfl
  try simp only [Act.put, List.setIfInBounds_toArray, List.set_cons_zero, List.set_cons_succ, List.getElem_toArray, List.getElem_cons_succ, List.getElem_cons_zero]
  refine wpAnyH_take (i := 1) (v := ?v17) rfl (by kernel_rfl) (by kernel_rfl) (by kernel_rfl) (fun _ _ _ h => h) (Or.inl ⟨by rfl, ?hy17⟩) (by assumption) ?rest17
  case hy17 =>
    intro w hSw
    (refine exec_load_mid 37 (.tmp 9) ?_ b9 0 ?_ (iv.map bv) _ (range_only (unhide A9).range hSw (fun e => e)) Try.underMB rfl (by rw [Try.sizeMB]; simp [hi]) <;> rfl)
  try simp only [Act.put, List.setIfInBounds_toArray, List.set_cons_zero, List.set_cons_succ, List.getElem_toArray, List.getElem_cons_succ, List.getElem_cons_zero]
  refine wpAnyH_take (i := 2) (v := ?v18) rfl (by kernel_rfl) (by kernel_rfl) (by kernel_rfl) (fun _ _ _ h => h) (Or.inl ⟨by rfl, ?hy18⟩) (by assumption) ?rest18
  case hy18 =>
    intro w hSw
    go_simp
    try with_reducible rfl
  try simp only [Act.put, List.setIfInBounds_toArray, List.set_cons_zero, List.set_cons_succ, List.getElem_toArray, List.getElem_cons_succ, List.getElem_cons_zero]
  refine wpAnyH_ready (rs := [3]) (by kernel_rfl) (by simp) ?_
  refine AllReadyH.cons rfl (fun K hK => ?_) AllReadyH.nil
  go_simp
  go_wp2_with fail; refine (pad_any _ t _ ((unhide HTY).only ((Only.refl _ wy).drew) (fun _ _ _ e => e)) hl).mono ?_; rintro e x1 ⟨v5, rfl, h5, y1⟩; have H5 := hide (Has.ofOwns h5); have Q1 : Hid (Only (fun _ => False) wy x1) := ((Only.refl (fun _ => False) wy).drew).trans y1 (fun _ _ e => e); clear y1 h5
  refine hK.out _ _ ((unhide Q1)) (fun hHeld => ?_)
  clear hK K
  try simp only [Act.put, List.setIfInBounds_toArray, List.set_cons_zero, List.set_cons_succ, List.getElem_toArray, List.getElem_cons_succ, List.getElem_cons_zero]
  refine wpAnyH_ready (rs := [4]) (by kernel_rfl) (by simp) ?_
  refine AllReadyH.cons rfl (fun K hK => ?_) AllReadyH.nil
  go_simp
  go_wp2_with fail; refine (blocks_has m (padT t) (unhide HML) (unhide HMT) v5 x1 (unhide H5)).mono ?_; rintro e x2 ⟨v6, rfl, h6, y2⟩; have H6 := hide h6; have Q2 : Hid (Only (fun _ => False) wy x2) := (unhide Q1).trans y2 (fun _ _ e => e); clear y2 h6
  refine hK.out _ _ ((unhide Q2)) (fun hHeld => ?_)
  clear hK K
  try simp only [Act.put, List.setIfInBounds_toArray, List.set_cons_zero, List.set_cons_succ, List.getElem_toArray, List.getElem_cons_succ, List.getElem_cons_zero]
  refine wpAnyH_ready (rs := [5]) (by kernel_rfl) (by simp) ?_
  refine AllReadyH.cons rfl (fun K hK => ?_) AllReadyH.nil
  go_simp
  go_wp2_with fail; refine (chain_any cb m (sealF key) (fun s hs => sealF_length key h s hs) iv (padT t) hi (unhide HMT) (unhide HML) v6 x2 (hide ((unhide HAC).new (unhide Q2))) _ (unhide H6)).mono ?_; rintro e x3 ⟨v7, rfl, h7, y3⟩; have H7 := hide h7; have Q3 : Hid (Only (fun _ => False) wy x3) := (unhide Q2).trans y3 (fun _ _ e => e); clear y3 h7
  refine hK.out _ _ ((unhide Q3)) (fun hHeld => ?_)
  clear hK K
  try simp only [Act.put, List.setIfInBounds_toArray, List.set_cons_zero, List.set_cons_succ, List.getElem_toArray, List.getElem_cons_succ, List.getElem_cons_zero]
  refine wpAnyH_ready (rs := [6]) (by kernel_rfl) (by simp) ?_
  refine AllReadyH.cons rfl (fun K hK => ?_) AllReadyH.nil
  go_simp
  go_wp2_with fail; refine (join_any m (chT (sealF key) iv (padT t) m) (unhide HCH) (unhide HML) v7 x3 (Blks.ofOwns (unhide HCH) (by rw [bflat_all _ _ (unhide HCH)]; exact unhide H7))).mono ?_; rintro e x4 ⟨v8, rfl, h8, y4⟩; have H8 := hide h8; have Q4 : Hid (Only (fun _ => False) wy x4) := (unhide Q3).trans y4 (fun _ _ e => e); clear y4 h8
  refine hK.out _ _ ((unhide Q4)) (fun hHeld => ?_)
  clear hK K
  try simp only [Act.put, List.setIfInBounds_toArray, List.set_cons_zero, List.set_cons_succ, List.getElem_toArray, List.getElem_cons_succ, List.getElem_cons_zero]
  refine wpAnyH_take (i := 7) (v := ?v19) rfl (by kernel_rfl) (by kernel_rfl) (by kernel_rfl) (fun _ _ _ h => h) (Or.inl ⟨by rfl, ?hy19⟩) (by assumption) ?rest19
  case hy19 =>
    intro w hSw
    go_simp
    try with_reducible rfl
  try simp only [Act.put, List.setIfInBounds_toArray, List.set_cons_zero, List.set_cons_succ, List.getElem_toArray, List.getElem_cons_succ, List.getElem_cons_zero]
  refine wpAnyH_take (i := 8) (v := ?v20) rfl (by kernel_rfl) (by kernel_rfl) (by kernel_rfl) (fun _ _ _ h => h) (Or.inl ⟨by rfl, ?hy20⟩) (by assumption) ?rest20
  case hy20 =>
    intro w hSw
    go_simp
    try with_reducible rfl
  try simp only [Act.put, List.setIfInBounds_toArray, List.set_cons_zero, List.set_cons_succ, List.getElem_toArray, List.getElem_cons_succ, List.getElem_cons_zero]
  refine wpAnyH_done (by kernel_rfl) ?_ _
  go_wp2
  go_ret2
  refine ⟨v8, rfl, ?_, (unhide O9).trans (unhide Q4) (fun _ _ e => e)⟩
  rw [unhide HBX]
  exact ownsRow_base (unhide H8) (by have h1 := (unhide O9).size; have h2 := (unhide Q3).size; omega)

set_option maxRecDepth 100000 in
set_option maxHeartbeats 2000000 in
theorem sealM_not (key iv : List UInt8) (h : ¬ (keyB key ∧ iv.length = 16)) (kv vv tv : Value) (w : World) (hk : Has w kv key) (hv : Has w vv iv) :
    Calls Try.prog 6 #[kv, vv, tv] w fun e w' => e = .returned (.tuple #[.slice none 0 0, .int .i64 1]) ∧ Only (fun _ => False) w w' := by
  obtain ⟨Z, hZ⟩ : ∃ Z : List UInt8, Z = zero16 := ⟨_, rfl⟩
  have HB := hide (begin_not key iv h kv vv w hk hv)
  rw [← hZ] at HB
  have hz16 : Z.length = 16 := by rw [hZ]; rfl
  clear hk hv h hZ
  go_enter Try.func6, Try.ntmps6
  go_wp2_with fail
  refine (unhide HB).mono ?_
  rintro e w1 ⟨rfl, o1⟩
  have O1 := hide o1
  obtain ⟨wy, b9, ey, eb9, a9, o9⟩ := made16 w1 Z hz16
  have ht2 : (w1.alloc (.cells (zero16.map bv).toArray 37)).there w1.heap.size 0 (Z.map bv).toArray.size := there16 (Arr.new w1 37 zero16 _ rfl) rfl hz16
  have hz2 := size16s hz16
  have HT2 := hide ht2
  have HZ2 := hide hz2
  clear o1 ht2 hz2
  go_upto_region 2 with (refine wpList_store_mid rfl 37 (.tmp 9) (.tmp 16) rfl w1.heap.size 0 (Z.map bv).toArray rfl rfl (unhide HT2) (unhide HZ2) (ag_one _) ?_)
  rw [Ae.zeros_eq, ← ey, ← eb9]
  have O9 := hide ((unhide O1).trans o9 (fun _ _ e => e))
  clear ey eb9 a9 o9
  go_wp2
  go_ret2
  exact ⟨rfl, unhide O9⟩

end Md
end Go.Proofs.Ytdmcnblnoiahcaa
