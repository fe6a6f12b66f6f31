/-
  The program's fresh: an item cloned, its data and its kids in new blocks.
-/
import Derived.Test.YtedmfjnmclbkpaaDoorTtFresh
namespace Go.Proofs.YtedmfjnmclbkpaaDoor
open Go.RowKit
set_option linter.unusedSimpArgs false
set_option linter.unusedVariables false
namespace Tt

theorem countAll_len : ∀ (ks : List It), ks.length ≤ It.countAll ks
  | [] => Nat.le_refl _
  | k :: r => by
    have h := countAll_len r
    obtain ⟨t, y, n, d, ks⟩ := k
    rw [It.countAll, It.count]
    simp only [List.length_cons]
    omega
theorem countAll_mem : ∀ {ks : List It} {k : It}, k ∈ ks → k.count ≤ It.countAll ks
  | [], k, h => by cases h
  | x :: r, k, h => by
    rw [It.countAll]
    rcases List.mem_cons.1 h with rfl | h
    · omega
    · have := countAll_mem h; omega

/-- fresh's loop: the first k kids are new ones, the others as they were -/
structure Frs (w w6 wr : World) (B n N : Nat) (box : Array Value) (v : Value) (ks : List It) (k : Nat) (zs : List (It × Value × Value)) : Prop where
  box : wr.heap[B]? = some (.cells box 25 (0, 0))
  zero : wr.heap[B + 1]? = some (.cells #[.int .i64 0, .int .i64 0, .int .i64 0, .slice none 0 0, .slice none 0 0] 25 (0, 0))
  map : zs.map (·.1) = ks
  own : wr.ownsRow (B + 2) 25 5 v N (zs.flatMap zi)
  new : ∀ j z, zs[j]? = some z → j < k → ItAt (fun q => w6.heap.size ≤ q) wr n z.1 z.2.1 z.2.2
  old : ∀ j z, zs[j]? = some z → k ≤ j → ItAt (fun q => q < B) wr n z.1 z.2.1 z.2.2
  only : Only (fun q => v.ownBlock = some q) w6 wr

theorem Frs.set {w w6 wr w1 W : World} {B n N g c k : Nat} {box : Array Value} {ks : List It} {zs : List (It × Value × Value)} {z : It × Value × Value} {dv kv : Value} (h : Frs w w6 wr B n N box (.slice (some ⟨g, 0, none⟩) N c) ks k zs) (hz : zs[k]? = some z) (ho : Only (fun _ => False) wr w1)
    (hnew : ItAt (fun q => w6.heap.size ≤ q) w1 n z.1 dv kv) (hN : zs.length = N) (hg : g < w6.heap.size)
    (hW : W = ((((w1.setCell ⟨g, k * 5, none⟩ (.int .i64 z.1.tag)).setCell ⟨g, k * 5 + 1, none⟩ (.int .i64 z.1.typ)).setCell ⟨g, k * 5 + 2, none⟩ (.int .i64 z.1.int)).setCell ⟨g, k * 5 + 3, none⟩ dv).setCell ⟨g, k * 5 + 4, none⟩ kv) :
    Frs w w6 W B n N box (.slice (some ⟨g, 0, none⟩) N c) ks (k + 1) (zs.set k (z.1, dv, kv)) := by
  have hk : k < zs.length := (List.getElem?_eq_some_iff.1 hz).1
  have hW' : W = w1.setCells g (k * 5) (zi (z.1, dv, kv)) := hW
  have hb2 := (h.own.lt g rfl).1
  have o1 : Only (fun q => q = g) w1 W := by
    rw [hW]
    exact (((((Only.refl _ _).here _ _).here _ _).here _ _).here _ _).here _ _
  have o2 : Only (fun q => q = g) wr W := (ho.mono (fun _ _ e => e.elim)).trans o1 (fun _ _ e => e)
  have own1 : w1.ownsRow (B + 2) 25 5 (.slice (some ⟨g, 0, none⟩) N c) N (zs.flatMap zi) := ho.owns h.own (fun _ _ e => e)
  refine ⟨o2.heap h.box (by omega), o2.heap h.zero (by omega), ?_, ?_, ?_, ?_, ?_⟩
  · rw [List.map_set]
    have : ks[k]? = some z.1 := by rw [← h.map, List.getElem?_map, hz]; rfl
    rw [h.map]
    apply List.ext_getElem?
    intro j
    by_cases e : k = j
    · subst e
      rw [List.getElem?_set_self (by rw [← h.map, List.length_map]; exact hk), this]
    · rw [List.getElem?_set_ne e]
  · rw [hW']
    exact row_set own1 (fun _ _ => rfl) hN k (by omega) _ rfl
  · intro j y hy hj
    by_cases e : k = j
    · subst e
      rw [List.getElem?_set_self hk] at hy
      cases hy
      exact ItAt.only o1 (fun q _ hq e => by omega) n hnew
    · rw [List.getElem?_set_ne e] at hy
      exact ItAt.only o2 (fun q _ hq e => by omega) n (h.new j y hy (by omega))
  · intro j y hy hj
    rw [List.getElem?_set_ne (by omega)] at hy
    exact ItAt.only o2 (fun q _ hq e => by omega) n (h.old j y hy (by omega))
  · exact h.only.trans o2 (fun q _ e => by rw [e]; rfl)

set_option maxHeartbeats 4000000 in
set_option maxRecDepth 100000 in
theorem fresh_any {Q : Nat → Prop} : ∀ (n : Nat) (i : It) (dv kv : Value) (w : World), ItAt Q w n i dv kv → i.count ≤ 1000 → i.small 1000 →
    Calls Tryd.prog 30 #[ival i dv kv] w fun e w' => ∃ da dl dc ka kl kc, e = .returned (ival i (.slice da dl dc) (.slice ka kl kc)) ∧ ItAt (fun q => w.heap.size ≤ q) w' n i (.slice da dl dc) (.slice ka kl kc) ∧ Only (fun _ => False) w w' := by
  intro n
  induction n generalizing Q with
  | zero => intro i dv kv w h; exact h.elim
  | succ n ih =>
    intro i dv kv w h hcnt hsm
    obtain ⟨⟨da, dc, hds⟩, ka, kc, hks⟩ := h.shapes
    subst hds
    subst hks
    obtain ⟨t, y, k, d, ks⟩ := i
    have hkl : ks.length ≤ 1000 := by have := countAll_len ks; rw [It.count] at hcnt; omega
    have hkc : ∀ x ∈ ks, x.count ≤ 1000 ∧ x.small 1000 := fun x hx => by
      rw [It.small] at hsm
      rw [It.count] at hcnt
      exact ⟨by have := countAll_mem hx; omega, (smallAll_iff 1000 ks).1 hsm.2.2.2.2 x hx⟩
    have hdl : d.length ≤ 1000 := by rw [It.small] at hsm; exact hsm.2.2.2.1
    have HIT := hide (ItAt.mono (R := fun q => q < w.heap.size) (fun q hq _ => hq) (n + 1) h)
    have HKC := hide hkc
    have HKL := hide hkl
    have HDL := hide hdl
    show Calls Tryd.prog 30 #[.agg #[.int .i64 t, .int .i64 y, .int .i64 k, .slice da d.length dc, .slice ka ks.length kc]] w _
    have HIT : Hid (ItAt (fun q => q < w.heap.size) w (n + 1) (.mk t y k d ks) (.slice da d.length dc) (.slice ka ks.length kc)) := HIT
    clear h hcnt hsm hkc hkl hdl
    obtain ⟨⟨a0, a1, a2, a3, a4⟩, oA⟩ := boxed w (.int .i64 t) (.int .i64 y) (.int .i64 k) (.slice da d.length dc) (.slice ka ks.length kc)
    have hbi := heap_alloc_new w (.cells #[.int .i64 t, .int .i64 y, .int .i64 k, .slice da d.length dc, .slice ka ks.length kc] 25)
    generalize hw1 : w.alloc (.cells #[.int .i64 t, .int .i64 y, .int .i64 k, .slice da d.length dc, .slice ka ks.length kc] 25) = w1 at *
    have hs1 : w1.heap.size = w.heap.size + 1 := by rw [← hw1]; simp
    have oZ : Only (fun _ => False) w1 (w1.alloc (.cells #[.int .i64 0, .int .i64 0, .int .i64 0, .slice none 0 0, .slice none 0 0] 25)) := (Only.refl _ _).alloc _
    have hbz := heap_alloc_new w1 (.cells #[.int .i64 0, .int .i64 0, .int .i64 0, .slice none 0 0, .slice none 0 0] 25)
    have hs2 : (w1.alloc (.cells #[.int .i64 0, .int .i64 0, .int .i64 0, .slice none 0 0, .slice none 0 0] 25)).heap.size = w.heap.size + 2 := by simp [hs1]
    rw [hs1] at hbz
    have hb2 := oZ.heap hbi (fun e => e)
    have HO := hide (oA.trans oZ (fun _ _ e => e))
    have HBI := hide hb2
    have HBZ := hide hbz
    have HS2 := hide hs2
    subst hw1
    clear a0 a1 a2 a3 a4 oA hbi hs1 oZ hbz hb2 hs2
    go_enter Tryd.func30, Tryd.ntmps30
    go_upto_region 1 with fail
    generalize ((w.alloc (.cells #[.int .i64 t, .int .i64 y, .int .i64 k, .slice da d.length dc, .slice ka ks.length kc] 25)).alloc (.cells #[.int .i64 0, .int .i64 0, .int .i64 0, .slice none 0 0, .slice none 0 0] 25)) = w2 at *
    generalize hB : w.heap.size = B at *
    have HBB := hide hB
    obtain ⟨c0, c1, c2, c3, c4⟩ := cells_of5 (unhide HBI)
    have HIT2 := hide ((unhide HIT).same (unhide HO))
    clear hB c0 c1 c2 c4
    go_wp2_with fail
    refine (cloneB_any _ d w2 (unhide HIT2).1 (by have := unhide HDL; omega)).mono ?_
    rintro e w3 ⟨u1, rfl, hu1, o3⟩
    obtain ⟨a1, c1, rfl⟩ := ownsRow_shape hu1
    have hb3 := o3.heap (unhide HBI) (fun e => e)
    have hz3 := o3.heap (unhide HBZ) (fun e => e)
    have hf3 : ∀ i, w3.frozen? ⟨B, i, none⟩ = false := by simp [World.frozen?, hb3]
    obtain ⟨d0, d1, d2, d3, d4⟩ := cells_of5 hb3
    have hb4 : (w3.setCell ⟨B, 3, none⟩ (.slice a1 d.length c1)).heap[B]? = some (.cells #[.int .i64 t, .int .i64 y, .int .i64 k, .slice a1 d.length c1, .slice ka ks.length kc] 25 (0, 0)) := two_setCell (i := 3) hb3
    have o4 : Only (fun q => q = B) w3 (w3.setCell ⟨B, 3, none⟩ (.slice a1 d.length c1)) := (Only.refl _ _).here 3 _
    have HB4 := hide hb4
    have HZ4 := hide (o4.heap hz3 (by omega))
    have HO4 : Hid (Only (fun _ => False) w (w3.setCell ⟨B, 3, none⟩ (.slice a1 d.length c1))) := ((unhide HO).trans o3 (fun _ _ e => e)).setCell (p := ⟨B, 3, none⟩) (fun h => by have h1 := unhide HBB; have h2 : B < w.heap.size := h; omega) _
    have hs4 : w2.heap.size ≤ (w3.setCell ⟨B, 3, none⟩ (.slice a1 d.length c1)).heap.size := (o3.mono (T := fun q => q = B) (fun _ _ e => e.elim)).trans o4 (fun _ _ e => e) |>.size
    have hob : ∀ q, blk (.slice a1 d.length c1) = some q → (Value.slice a1 d.length c1).ownBlock = some q := fun q hq => by
      cases a1 with
      | none => cases hq
      | some a => exact hq
    have HU1 : Hid (Has (w3.setCell ⟨B, 3, none⟩ (.slice a1 d.length c1)) (.slice a1 d.length c1) d) := (Has.ofOwns hu1.out).only o4 (fun _ q hq e => by have h1 := unhide HS2; have h2 := (hu1.out.lt q (hob q hq)).1; omega)
    have HUB : Hid (∀ q, blk (.slice a1 d.length c1) = some q → w2.heap.size ≤ q ∧ q < (w3.setCell ⟨B, 3, none⟩ (.slice a1 d.length c1)).heap.size) := fun q hq => by
      have h1 := hu1.out.lt q (hob q hq)
      have h2 := o4.size
      omega
    have HS4 := hide hs4
    have HIT4 := hide ((unhide HIT).same (unhide HO4))
    clear hu1 o3 hb3 hz3 hb4 o4 hs4 HIT2 hob
    go_upto_region 2 with fail
    clear d0 d1 d2 d3 d4 hf3 c3
    generalize w3.setCell ⟨B, 3, none⟩ (.slice a1 d.length c1) = w4 at *
    obtain ⟨d0, d1, d2, d3, d4⟩ := cells_of5 (unhide HB4)
    clear d0 d1 d2 d3
    go_wp2_with fail
    refine (cloneI_any n _ ks w4 (unhide HIT4).2.2 (by have := unhide HKL; omega)).mono ?_
    rintro e w5 ⟨u2, zs, rfl, hzm, hzE, hown5, o5⟩
    obtain ⟨a2, c2, rfl⟩ := ownsRow_shape hown5
    have hb5 := o5.heap (unhide HB4) (fun e => e)
    have hz5 := o5.heap (unhide HZ4) (fun e => e)
    have hf5 : ∀ i, w5.frozen? ⟨B, i, none⟩ = false := by simp [World.frozen?, hb5]
    obtain ⟨d0, d1, d2, d3, d4'⟩ := cells_of5 hb5
    have hb6 : (w5.setCell ⟨B, 4, none⟩ (.slice a2 ks.length c2)).heap[B]? = some (.cells #[.int .i64 t, .int .i64 y, .int .i64 k, .slice a1 d.length c1, .slice a2 ks.length c2] 25 (0, 0)) := two_setCell (i := 4) hb5
    have o6 : Only (fun q => q = B) w5 (w5.setCell ⟨B, 4, none⟩ (.slice a2 ks.length c2)) := (Only.refl _ _).here 4 _
    have o46 := (o5.mono (T := fun q => q = B) (fun _ _ e => e.elim)).trans o6 (fun _ _ e => e)
    have hlow : ∀ q, (Value.slice a2 ks.length c2).ownBlock = some q → w4.heap.size ≤ q ∧ q < (w5.setCell ⟨B, 4, none⟩ (.slice a2 ks.length c2)).heap.size := fun q hq => by
      have h1 := hown5.lt q hq
      have h2 := o6.size
      omega
    have HLow := hide hlow
    have HS6 : Hid (w4.heap.size ≤ (w5.setCell ⟨B, 4, none⟩ (.slice a2 ks.length c2)).heap.size) := o46.size
    have HB2 : Hid (B + 2 ≤ w4.heap.size) := by show _ ≤ _; have := unhide HS2; have := unhide HS4; omega
    have HFr : Hid (Frs w (w5.setCell ⟨B, 4, none⟩ (.slice a2 ks.length c2)) (w5.setCell ⟨B, 4, none⟩ (.slice a2 ks.length c2)) B n ks.length #[.int .i64 t, .int .i64 y, .int .i64 k, .slice a1 d.length c1, .slice a2 ks.length c2] (.slice a2 ks.length c2) ks 0 zs) :=
      ⟨hb6, o6.heap hz5 (by omega), hzm, ownsRow_base (o6.owns hown5 (fun q hq e => by have := (hown5.lt q hq).1; have := unhide HB2; omega)) (unhide HB2), fun j z _ hj => absurd hj (Nat.not_lt_zero _),
        fun j z hj _ => ItAt.mono (fun q _ hq => by have := hq.1; have := unhide HBB; omega) n (ItAt.only o46 (fun q _ hq e => by have := hq.1; have := unhide HBB; omega) n (hzE z (List.mem_of_getElem? hj))), Only.refl _ _⟩
    have HO6 : Hid (Only (fun _ => False) w (w5.setCell ⟨B, 4, none⟩ (.slice a2 ks.length c2))) := ((unhide HO4).trans o5 (fun _ _ e => e)).setCell (p := ⟨B, 4, none⟩) (fun h => by have h1 := unhide HBB; have h2 : B < w.heap.size := h; omega) _
    have HU6 : Hid (Has (w5.setCell ⟨B, 4, none⟩ (.slice a2 ks.length c2)) (.slice a1 d.length c1) d) := (unhide HU1).only o46 (fun _ q hq e => by have h1 := unhide HUB q hq; have h2 := unhide HS2; omega)
    have hzl : zs.length = ks.length := by rw [← hzm, List.length_map]
    clear hown5 o5 hb5 hz5 hb6 o6 o46 hlow hzm hzE d0 d1 d2 d3 HB4 HZ4 HO4 HU1 HIT4 hzl
    go_upto_region 3 with fail
    clear hf5 d4 d4'
    generalize w5.setCell ⟨B, 4, none⟩ (.slice a2 ks.length c2) = w6 at *
    obtain ⟨d0, d1, d2, d3, d4⟩ := cells_of5 (unhide HFr).box
    clear d0 d1 d2 d3
    obtain ⟨N, hN⟩ : ∃ N, N = ks.length := ⟨_, rfl⟩
    rw [← hN] at HFr HLow d4 ⊢
    have HN := hide hN
    clear hN
    go_wp2
    go_loopw [15] (fun j wr => ∃ (m : Nat) (zs' : List (It × Value × Value)), m ≤ N ∧ j = .int .i64 m ∧ Hid (Frs w w6 wr B n N #[.int .i64 t, .int .i64 y, .int .i64 k, .slice a1 d.length c1, .slice a2 N c2] (.slice a2 N c2) ks m zs')) (fun j _ => N - (intOf j).toNat)
    case atStart => exact ⟨0, zs, Nat.zero_le _, rfl, HFr⟩
    case round =>
      obtain ⟨m, zs', hm, rfl, HF⟩ := hrel
      by_cases hlt : m < N
      · have hzl : zs'.length = N := by rw [unhide HN, ← (unhide HF).map, List.length_map]
        obtain ⟨g, cg, hv, hg1, hg2⟩ := (unhide HF).own.form (by omega)
        simp only [Value.slice.injEq, true_and] at hv
        obtain ⟨rfl, rfl⟩ := hv
        obtain ⟨⟨kid, dv, kv⟩, hz⟩ : ∃ z, zs'[m]? = some z := ⟨_, List.getElem?_eq_getElem (by omega)⟩
        have hrow := row_range (unhide HF).own (fun _ _ => rfl) hzl m _ hz
        have hkid : kid ∈ ks := by
          have : ks[m]? = some kid := by rw [← (unhide HF).map, List.getElem?_map, hz]; rfl
          exact List.mem_of_getElem? this
        have hit := (unhide HF).old m _ hz (Nat.le_refl _)
        obtain ⟨⟨da', dc', hds⟩, ka', kc', hks⟩ := hit.shapes
        simp only at hds hks
        subst hds
        subst hks
        have p0 := hrow 0 _ (show (zi _)[0]? = some (.int .i64 kid.tag) from rfl)
        have p1 := hrow 1 _ (show (zi _)[1]? = some (.int .i64 kid.typ) from rfl)
        have p2 := hrow 2 _ (show (zi _)[2]? = some (.int .i64 kid.int) from rfl)
        have p3 := hrow 3 _ (show (zi _)[3]? = some (.slice da' kid.data.length dc') from rfl)
        have p4 := hrow 4 _ (show (zi _)[4]? = some (.slice ka' kid.kids.length kc') from rfl)
        rw [Nat.add_zero] at p0
        have HP := hide (And.intro p0 (And.intro p1 (And.intro p2 (And.intro p3 p4))))
        have hc4 := (cells_of5 (unhide HF).box).2.2.2.2
        have HC4 := hide hc4
        have hfz : ∀ i, wr.frozen? ⟨g, i, none⟩ = false := (unhide HF).own.frozenAt
        have HFZ := hide hfz
        have HIH := hide (fun W (o : Only (fun _ => False) wr W) => ih kid (.slice da' kid.data.length dc') (.slice ka' kid.kids.length kc') W (hit.same o) (unhide HKC kid hkid).1 (unhide HKC kid hkid).2)
        have HZ := hide hz
        have HZL := hide hzl
        have hmi : (m : Int) < N := by omega
        have hg6 : g < w6.heap.size := (unhide HLow g rfl).2
        have HG6 := hide hg6
        have HM := hide hlt
        unfold ival at HIH
        clear p0 p1 p2 p3 p4 hrow hit hc4 hz hzl hg1 hg2 hfz hg6 hkid
        go_wp2_with fail
        obtain ⟨p0, p1, p2, p3, p4⟩ := unhide HP
        refine wp_region_held_drew (S := (fun w' => w'.cell? ⟨B, 4, none⟩ = some (.slice (some ⟨g, 0, none⟩) N c2))) (by kernel_rfl) (unhide HC4) (fun hHeld => ?_)
        refine wpAnyH_take (i := 0) (v := ?v1) rfl (by kernel_rfl) (by kernel_rfl) (by kernel_rfl) (fun _ _ _ h => h) (Or.inl ⟨by rfl, ?hy1⟩) (by assumption) ?rest1
        case hy1 =>
          intro w hSw
          go_simp
          try with_reducible rfl
        try simp only [Act.put, List.setIfInBounds_toArray, List.set_cons_zero, List.set_cons_succ, List.getElem_toArray, List.getElem_cons_succ, List.getElem_cons_zero]
        refine wpAnyH_take (i := 1) (v := ?v2) rfl (by kernel_rfl) (by kernel_rfl) (by kernel_rfl) (fun _ _ _ h => h) (Or.inl ⟨by rfl, ?hy2⟩) (by assumption) ?rest2
        case hy2 =>
          intro w hSw
          (go_simp; try with_reducible rfl)
        try simp only [Act.put, List.setIfInBounds_toArray, List.set_cons_zero, List.set_cons_succ, List.getElem_toArray, List.getElem_cons_succ, List.getElem_cons_zero]
        refine wpAnyH_take (i := 2) (v := ?v3) rfl (by kernel_rfl) (by kernel_rfl) (by kernel_rfl) (fun _ _ _ h => h) (Or.inl ⟨by rfl, ?hy3⟩) (by assumption) ?rest3
        case hy3 =>
          intro w hSw
          go_simp
          try with_reducible rfl
        try simp only [Act.put, List.setIfInBounds_toArray, List.set_cons_zero, List.set_cons_succ, List.getElem_toArray, List.getElem_cons_succ, List.getElem_cons_zero]
        refine wpAnyH_take (i := 3) (v := ?v4) rfl (by kernel_rfl) (by kernel_rfl) (by kernel_rfl) (fun _ _ _ h => h) (Or.inl ⟨by rfl, ?hy4⟩) (by assumption) ?rest4
        case hy4 =>
          intro w hSw
          go_simp
          try with_reducible rfl
        try simp only [Act.put, List.setIfInBounds_toArray, List.set_cons_zero, List.set_cons_succ, List.getElem_toArray, List.getElem_cons_succ, List.getElem_cons_zero]
        refine wpAnyH_take (i := 4) (v := ?v5) rfl (by kernel_rfl) (by kernel_rfl) (by kernel_rfl) (fun _ _ _ h => h) (Or.inl ⟨by rfl, ?hy5⟩) (by assumption) ?rest5
        case hy5 =>
          intro w hSw
          (go_simp; try with_reducible rfl)
        try simp only [Act.put, List.setIfInBounds_toArray, List.set_cons_zero, List.set_cons_succ, List.getElem_toArray, List.getElem_cons_succ, List.getElem_cons_zero]
        refine wpAnyH_take (i := 5) (v := ?v6) rfl (by kernel_rfl) (by kernel_rfl) (by kernel_rfl) (fun _ _ _ h => h) (Or.inl ⟨by rfl, ?hy6⟩) (by assumption) ?rest6
        case hy6 =>
          intro w hSw
          go_simp
          try with_reducible rfl
        try simp only [Act.put, List.setIfInBounds_toArray, List.set_cons_zero, List.set_cons_succ, List.getElem_toArray, List.getElem_cons_succ, List.getElem_cons_zero]
        refine wpAnyH_take (i := 6) (v := ?v7) rfl (by kernel_rfl) (by kernel_rfl) (by kernel_rfl) (fun _ _ _ h => h) (Or.inl ⟨by rfl, ?hy7⟩) (by assumption) ?rest7
        case hy7 =>
          intro w hSw
          go_simp
          try with_reducible rfl
        try simp only [Act.put, List.setIfInBounds_toArray, List.set_cons_zero, List.set_cons_succ, List.getElem_toArray, List.getElem_cons_succ, List.getElem_cons_zero]
        refine wpAnyH_ready (rs := [7]) (by kernel_rfl) (by simp) ?_
        refine AllReadyH.cons rfl (fun K hK => ?_) AllReadyH.nil
        go_simp
        refine hK.out _ _ ((unhide HC4)) (fun hHeld => ?_)
        clear hK K
        try simp only [Act.put, List.setIfInBounds_toArray, List.set_cons_zero, List.set_cons_succ, List.getElem_toArray, List.getElem_cons_succ, List.getElem_cons_zero]
        refine wpAnyH_ready (rs := [8]) (by kernel_rfl) (by simp) ?_
        refine AllReadyH.cons rfl (fun K hK => ?_) AllReadyH.nil
        go_simp
        go_wp2_with fail; refine (unhide HIH _ (by first | exact Only.refl _ _ | exact (Only.refl _ _).drew)).mono ?_; rintro e w1 ⟨da2, dl2, dc2, ka2, kl2, kc2, rfl, hit2, o2⟩; have HOw : Hid (Only (fun _ => False) wr w1) := Only.trans (by first | exact Only.refl _ _ | exact (Only.refl _ _).drew) o2 (fun _ _ e => e); have HI2 : Hid (ItAt (fun q => w6.heap.size ≤ q) w1 n kid (.slice da2 dl2 dc2) (.slice ka2 kl2 kc2)) := ItAt.mono (fun q _ hq => by have h1 := (unhide HF).only.size; have h2 : wr.heap.size ≤ q := hq; omega) n hit2
        refine hK.out _ _ (((unhide HOw).cell (unhide HC4) (fun e => e))) (fun hHeld => ?_)
        clear hK K
        try simp only [Act.put, List.setIfInBounds_toArray, List.set_cons_zero, List.set_cons_succ, List.getElem_toArray, List.getElem_cons_succ, List.getElem_cons_zero]
        clear p0 p1 p2 p3 p4 hit2 o2
        obtain ⟨p0, p1, p2, p3, p4⟩ := unhide HP
        have p0 := (unhide HOw).cell p0 (fun e => e)
        have p1 := (unhide HOw).cell p1 (fun e => e)
        have p2 := (unhide HOw).cell p2 (fun e => e)
        have p3 := (unhide HOw).cell p3 (fun e => e)
        have p4 := (unhide HOw).cell p4 (fun e => e)
        have hfz : ∀ i, w1.frozen? ⟨g, i, none⟩ = false := ((unhide HOw).owns (unhide HF).own (fun _ _ e => e)).frozenAt
        have HEnd := hide (Frs.set (unhide HF) (unhide HZ) (unhide HOw) (unhide HI2) (unhide HZL) (unhide HG6) rfl)
        refine wpAnyH_take (i := 9) (v := ?v8) rfl (by kernel_rfl) (by kernel_rfl) (by kernel_rfl) (fun _ _ _ h => h) (Or.inl ⟨by rfl, ?hy8⟩) (by assumption) ?rest8
        case hy8 =>
          intro w hSw
          go_simp
          try with_reducible rfl
        try simp only [Act.put, List.setIfInBounds_toArray, List.set_cons_zero, List.set_cons_succ, List.getElem_toArray, List.getElem_cons_succ, List.getElem_cons_zero]
        refine wpAnyH_ready (rs := [10]) (by kernel_rfl) (by simp) ?_
        refine AllReadyH.cons rfl (fun K hK => ?_) AllReadyH.nil
        go_simp
        refine hK.out _ _ (((((((((Only.refl (fun q => q = g) w1).here _ _).here _ _).here _ _).here _ _).here _ _)).cell ((unhide HOw).cell (unhide HC4) (fun e => e)) (by have := ((unhide HF).own.lt g rfl).1; simp only; omega))) (fun hHeld => ?_)
        clear hK K
        try simp only [Act.put, List.setIfInBounds_toArray, List.set_cons_zero, List.set_cons_succ, List.getElem_toArray, List.getElem_cons_succ, List.getElem_cons_zero]
        refine wpAnyH_done (by kernel_rfl) ?_ _
        have hNb : N ≤ 1000 := by rw [unhide HN]; exact unhide HKL
        have hMb := unhide HM
        go_wp2
        go_roundw
        case rel => exact ⟨m + 1, _, by have := unhide HM; omega, by go_num, HEnd⟩
        case measure => have := unhide HM; simp [intOf]; omega
      · obtain rfl : m = N := by omega
        have HFI := hide (unhide HF)
        have hbox := (unhide HF).box
        have hzero := (unhide HF).zero
        obtain ⟨x0, x1, x2, x3, x4⟩ := cells_of5 hbox
        obtain ⟨z0, z1, z2, z3, z4⟩ := cells_of5 hzero
        have hfz : ∀ i, wr.frozen? ⟨B + 1, i, none⟩ = false := by simp [World.frozen?, hzero]
        have HZero := hide hzero
        clear hbox hzero
        go_wp2
        obtain ⟨hb7, o7⟩ := put5 (unhide HZero) (.int .i64 t) (.int .i64 y) (.int .i64 k) (.slice a1 d.length c1) (.slice a2 m c2)
        refine bodyPost_ret (results_it1 rfl _ _ (B + 1) t y k a1 d.length c1 a2 m c2 rfl (cells_of5 hb7)) rfl ?_
        have hs6 : w4.heap.size ≤ w6.heap.size := unhide HS6
        have hne : ∀ q, (Value.slice a2 m c2).ownBlock = some q → w4.heap.size ≤ q ∧ q < w6.heap.size := unhide HLow
        have oL := ((unhide HF).only.mono (T := fun q => q = B + 1 ∨ (Value.slice a2 m c2).ownBlock = some q) (fun q _ e => Or.inr e)).trans o7 (fun q _ e => Or.inl e)
        have hnew : ∀ z ∈ zs', ItAt (fun q => w6.heap.size ≤ q) wr n z.1 z.2.1 z.2.2 := fun z hz => by
          obtain ⟨j, hj⟩ := List.mem_iff_getElem?.1 hz
          have hlj := (List.getElem?_eq_some_iff.1 hj).1
          have hzl : zs'.length = m := by rw [unhide HN, ← (unhide HF).map, List.length_map]
          exact (unhide HF).new j z hj (by omega)
        have hB1 := unhide HB2
        have hwB := unhide HBB
        have hw2 := unhide HS2
        have hU := unhide HUB
        refine ⟨a1, d.length, c1, a2, m, c2, rfl, ⟨?_, ?_, ?_⟩, ?_⟩
        · exact (unhide HU6).only oL (fun _ q hq e => by
            have h1 := hU q hq
            rcases e with e | e
            · omega
            · have := hne q e; omega)
        · intro _ q hq
          have h1 := hU q hq
          omega
        · have hrow : RowI (fun q => w4.heap.size ≤ q) (B + 2) n wr (.slice a2 m c2) ks := by
            have hkl : ks.length = m := (unhide HN).symm
            exact ⟨zs', (unhide HF).map, by rw [hkl]; exact (unhide HF).own, fun z hz => ItAt.mono (fun q _ hq => ⟨by omega, fun e => by have := hne q e; omega⟩) n (hnew z hz)⟩
          have hk1 := (hrow.later o7 (fun q _ hq e => by omega) (fun q hq e => by have := hne q hq; omega))
          exact (RowI.mono (R := fun q => w.heap.size ≤ q) hk1 (fun q _ hq => by omega)).kids (fun q hq => by omega)
        · exact (unhide HO6).trans oL (fun q hq e => by
            rcases e with e | e
            · omega
            · have := hne q e; omega)
end Tt
end Go.Proofs.YtedmfjnmclbkpaaDoor
