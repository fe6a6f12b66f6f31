/-
  Whether two items are alike: plain, and the reference's.
-/
import Derived.Test.YtedmfjnmclbkpabDoorTtSize
import Derived.Test.YtedmfjnmclbkpabDoorStr
import Derived.Deep.RegionHeldLaw
namespace Go.Proofs.YtedmfjnmclbkpabDoor
open Go.RowKit
set_option linter.unusedSimpArgs false
set_option linter.unusedVariables false
namespace Tt

mutual
def sameB : It → It → Bool
  | .mk t y n d ks, .mk t' y' n' d' ks' => decide (t = t') && decide (y = y') && decide (n = n') && decide (d = d') && sameAllB ks ks'
def sameAllB : List It → List It → Bool
  | [], [] => true
  | k :: r, k' :: r' => sameB k k' && sameAllB r r'
  | [], _ :: _ => false
  | _ :: _, [] => false
end
theorem sameAll_iff : ∀ (a b : List It), sameAllB a b = true ↔ a.length = b.length ∧ ∀ (j : Nat) (x y : It), a[j]? = some x → b[j]? = some y → sameB x y = true
  | [], [] => by simp [sameAllB]
  | [], _ :: _ => by simp [sameAllB]
  | _ :: _, [] => by simp [sameAllB]
  | k :: r, k' :: r' => by
    rw [sameAllB, Bool.and_eq_true, sameAll_iff r r']
    constructor
    · rintro ⟨h1, h2, h3⟩
      refine ⟨by simp [h2], fun j x y hx hy => ?_⟩
      cases j with
      | zero => simp at hx hy; rw [← hx, ← hy]; exact h1
      | succ j => simp at hx hy; exact h3 j x y hx hy
    · rintro ⟨h1, h2⟩
      exact ⟨h2 0 k k' rfl rfl, by simpa using h1, fun j x y hx hy => h2 (j + 1) x y (by simpa using hx) (by simpa using hy)⟩

theorem sameB_eq (t y n : Int) (d : List UInt8) (ks : List It) (t' y' n' : Int) (d' : List UInt8) (ks' : List It) : sameB (.mk t y n d ks) (.mk t' y' n' d' ks') = (decide (t = t') && decide (y = y') && decide (n = n') && decide (d = d') && sameAllB ks ks') := by rw [sameB]

set_option maxHeartbeats 2000000 in
set_option maxRecDepth 100000 in
theorem rsame_any {Q R : Nat → Prop} : ∀ (n : Nat) (i i' : It) (dv kv dv' kv' : Value) (w : World), ItAt Q w n i dv kv → ItAt R w n i' dv' kv' →
    Calls Tryd.prog 10 #[ival i dv kv, ival i' dv' kv'] w fun e w' => e = .returned (.bool (sameB i i')) ∧ Only (fun _ => False) w w' := by
  intro n
  induction n with
  | zero => intro i i' dv kv dv' kv' w h; exact h.elim
  | succ n ih =>
    intro i i' dv kv dv' kv' w h h'
    obtain ⟨t, y, nn, d, ks⟩ := i
    obtain ⟨t', y', nn', d', ks'⟩ := i'
    obtain ⟨h1, h2, h3⟩ := h
    obtain ⟨g1, g2, g3⟩ := h'
    have HK := hide h3
    have HG := hide g3
    obtain ⟨da, dc, hds, _⟩ := h1.shape
    obtain ⟨ka, kc, hks, hkl, hkm⟩ := h3.shape
    obtain ⟨ea, ec, hes, _⟩ := g1.shape
    obtain ⟨la, lc, hls, hll, hlm⟩ := g3.shape
    simp only [It.data, It.kids] at hds hks hkl HK hes hls hll HG h1 g1
    subst hds
    subst hks
    subst hes
    subst hls
    have HSB := hide (sameB_eq t y nn d ks t' y' nn' d' ks')
    obtain ⟨o1, ho1⟩ : ∃ o1 : Obj, o1 = .cells #[.int .i64 t, .int .i64 y, .int .i64 nn, .slice da d.length dc, .slice ka ks.length kc] 26 := ⟨_, rfl⟩
    obtain ⟨o2, ho2⟩ : ∃ o2 : Obj, o2 = .cells #[.int .i64 t', .int .i64 y', .int .i64 nn', .slice ea d'.length ec, .slice la ks'.length lc] 26 := ⟨_, rfl⟩
    have hB1 : ((w.alloc o1).alloc o2).heap[w.heap.size]? = some o1 := ((Only.refl (fun _ => False) (w.alloc o1)).alloc o2).heap (heap_alloc_new w o1) (fun e => e)
    have hB2 : ((w.alloc o1).alloc o2).heap[w.heap.size + 1]? = some o2 := by have := heap_alloc_new (w.alloc o1) o2; simpa using this
    have oA : Only (fun _ => False) w ((w.alloc o1).alloc o2) := ((Only.refl _ _).alloc _).alloc _
    rw [ho1] at hB1
    rw [ho2] at hB2
    subst ho1
    subst ho2
    obtain ⟨a0, a1, a2, a3, a4⟩ := cells_of5 hB1
    obtain ⟨b0, b1, b2, b3, b4⟩ := cells_of5 hB2
    have hc1 := str_conv (h1.only oA (fun _ _ _ e => e))
    have hc2 := str_conv (g1.only oA (fun _ _ _ e => e))
    have HOA := hide oA
    unfold ival
    simp only [It.tag, It.typ, It.int]
    clear h1 h2 h3 g1 g2 g3 hB1 hB2 oA
    by_cases ht : t = t'
    · subst ht
      by_cases hy : y = y'
      · subst hy
        by_cases hn : nn = nn'
        · subst hn
          by_cases hd : d = d'
          · subst hd
            by_cases hlen : ks.length = ks'.length
            · obtain ⟨kl, hkl0⟩ : ∃ kl, kl = ks.length := ⟨_, rfl⟩
              have HKL : Hid (ks.length = kl ∧ ks'.length = kl) := ⟨hkl0.symm, by rw [← hlen]; exact hkl0.symm⟩
              rw [(unhide HKL).1] at HK HOA a0 a1 a2 a3 a4 b0 b1 b2 b3 b4 hc1 hc2 hkl ⊢
              rw [(unhide HKL).2] at HG HOA a0 a1 a2 a3 a4 b0 b1 b2 b3 b4 hc1 hc2 hll ⊢
              clear hlen hkl0
              have hklt : (kl : Int) < 9223372036854775808 := by unfold maxLen at hkm; omega
              go_enter Tryd.func10, Tryd.ntmps10
              go_wp2
              generalize (w.alloc (.cells #[.int .i64 t, .int .i64 y, .int .i64 nn, .slice da d.length dc, .slice ka kl kc] 26)).alloc (.cells #[.int .i64 t, .int .i64 y, .int .i64 nn, .slice ea d.length ec, .slice la kl lc] 26) = w2 at *
              have HA4 := hide a4
              have HB4 := hide b4
              clear a0 a1 a2 a3 a4 b0 b1 b2 b3 b4 hc1 hc2
              go_loopw [5] (fun j wr => ∃ k : Nat, k ≤ kl ∧ j = .int .i64 k ∧ (∀ (m : Nat) (x y : It), m < k → ks[m]? = some x → ks'[m]? = some y → sameB x y = true) ∧ Only (fun _ => False) w2 wr) (fun j _ => kl - (intOf j).toNat)
              case atStart => exact ⟨0, Nat.zero_le _, rfl, fun m x y h => absurd h (by omega), Only.refl _ _⟩
              case round =>
                obtain ⟨k, hk, rfl, hall, ho⟩ := hrel
                have HALL := hide hall
                have HO := hide ho
                have a4 := ho.cell (unhide HA4) (fun e => e)
                have b4 := ho.cell (unhide HB4) (fun e => e)
                clear hall ho
                by_cases hlt : k < kl
                · have hku : k < ks.length := by have := (unhide HKL).1; omega
                  have hlu : k < ks'.length := by have := (unhide HKL).2; omega
                  have hlt' : (k : Int) < kl := by omega
                  have HON := hide ((unhide HOA).trans (unhide HO) (fun _ _ e => e))
                  obtain ⟨bb, off, v1, v2, hao, _, e0, e1, e2, e3, e4, hit⟩ := (unhide HK).at k hku
                  obtain ⟨cb, coff, u1, u2, hbo, _, g0, g1, g2, g3, g4, git⟩ := (unhide HG).at k hlu
                  subst hao
                  subst hbo
                  have HIH := hide (fun (W : World) (o : Only (fun _ => False) w W) => ih ks[k] ks'[k] v1 v2 u1 u2 W (hit.same o) (git.same o))
                  have f0 := (unhide HON).cell e0 (fun e => e)
                  have f1 := (unhide HON).cell e1 (fun e => e)
                  have f2 := (unhide HON).cell e2 (fun e => e)
                  have f3 := (unhide HON).cell e3 (fun e => e)
                  have f4 := (unhide HON).cell e4 (fun e => e)
                  have p0 := (unhide HON).cell g0 (fun e => e)
                  have p1 := (unhide HON).cell g1 (fun e => e)
                  have p2 := (unhide HON).cell g2 (fun e => e)
                  have p3 := (unhide HON).cell g3 (fun e => e)
                  have p4 := (unhide HON).cell g4 (fun e => e)
                  have HX : Hid (ks[k]? = some ks[k] ∧ ks'[k]? = some ks'[k]) := ⟨List.getElem?_eq_getElem hku, List.getElem?_eq_getElem hlu⟩
                  obtain ⟨⟨va, vc, hvs⟩, xa, xc, hxs⟩ := hit.shapes
                  obtain ⟨⟨ua, uc, hus⟩, za, zc, hzs⟩ := git.shapes
                  obtain ⟨kid, hkid⟩ : ∃ kid, kid = ks[k] := ⟨_, rfl⟩
                  obtain ⟨lid, hlid⟩ : ∃ lid, lid = ks'[k] := ⟨_, rfl⟩
                  rw [← hkid] at f0 f1 f2 HIH hvs hxs HX
                  rw [← hlid] at p0 p1 p2 HIH hus hzs HX
                  subst hvs
                  subst hxs
                  subst hus
                  subst hzs
                  unfold ival at HIH
                  clear hkid hlid e0 e1 e2 e3 e4 g0 g1 g2 g3 g4 hit git
                  go_wp2_with fail
                  refine wp_region_held_drew (S := (fun w' => (w'.cell? ⟨w.heap.size, 4, none⟩ = some (.slice (some ⟨bb, off, none⟩) kl kc) ∧ w'.cell? ⟨w.heap.size + 1, 4, none⟩ = some (.slice (some ⟨cb, coff, none⟩) kl lc)) ∧ (w'.cell? ⟨bb, off + k * 5, none⟩ = some (.int .i64 kid.tag) ∧ w'.cell? ⟨bb, off + k * 5 + 1, none⟩ = some (.int .i64 kid.typ) ∧ w'.cell? ⟨bb, off + k * 5 + 2, none⟩ = some (.int .i64 kid.int) ∧ w'.cell? ⟨bb, off + k * 5 + 3, none⟩ = some (.slice va kid.data.length vc) ∧ w'.cell? ⟨bb, off + k * 5 + 4, none⟩ = some (.slice xa kid.kids.length xc)) ∧ (w'.cell? ⟨cb, coff + k * 5, none⟩ = some (.int .i64 lid.tag) ∧ w'.cell? ⟨cb, coff + k * 5 + 1, none⟩ = some (.int .i64 lid.typ) ∧ w'.cell? ⟨cb, coff + k * 5 + 2, none⟩ = some (.int .i64 lid.int) ∧ w'.cell? ⟨cb, coff + k * 5 + 3, none⟩ = some (.slice ua lid.data.length uc) ∧ w'.cell? ⟨cb, coff + k * 5 + 4, none⟩ = some (.slice za lid.kids.length zc)))) (by kernel_rfl) (⟨⟨a4, b4⟩, ⟨f0, f1, f2, f3, f4⟩, ⟨p0, p1, p2, p3, p4⟩⟩) (fun hHeld => ?_)
                  refine wpAnyH_take (i := 0) (v := ?v1) rfl (by kernel_rfl) (by kernel_rfl) (by kernel_rfl) (fun _ _ _ h => h) (Or.inl ⟨by rfl, ?hy1⟩) (by assumption) ?rest1
                  case hy1 =>
                    intro w hSw
                    go_simp
                    try with_reducible rfl
                  try simp only [Act.put, List.setIfInBounds_toArray, List.set_cons_zero, List.set_cons_succ, List.getElem_toArray, List.getElem_cons_succ, List.getElem_cons_zero]
                  refine wpAnyH_take (i := 1) (v := ?v2) rfl (by kernel_rfl) (by kernel_rfl) (by kernel_rfl) (fun _ _ _ h => h) (Or.inl ⟨by rfl, ?hy2⟩) (by assumption) ?rest2
                  case hy2 =>
                    intro w hSw
                    (obtain ⟨⟨q0, q1⟩, ⟨q2, q3, q4, q5, q6⟩, ⟨r2, r3, r4, r5, r6⟩⟩ := hSw; go_simp; try with_reducible rfl)
                  try simp only [Act.put, List.setIfInBounds_toArray, List.set_cons_zero, List.set_cons_succ, List.getElem_toArray, List.getElem_cons_succ, List.getElem_cons_zero]
                  refine wpAnyH_take (i := 2) (v := ?v3) rfl (by kernel_rfl) (by kernel_rfl) (by kernel_rfl) (fun _ _ _ h => h) (Or.inl ⟨by rfl, ?hy3⟩) (by assumption) ?rest3
                  case hy3 =>
                    intro w hSw
                    go_simp
                    try with_reducible rfl
                  try simp only [Act.put, List.setIfInBounds_toArray, List.set_cons_zero, List.set_cons_succ, List.getElem_toArray, List.getElem_cons_succ, List.getElem_cons_zero]
                  refine wpAnyH_take (i := 3) (v := ?v4) rfl (by kernel_rfl) (by kernel_rfl) (by kernel_rfl) (fun _ _ _ h => h) (Or.inl ⟨by rfl, ?hy4⟩) (by assumption) ?rest4
                  case hy4 =>
                    intro w hSw
                    go_simp
                    try with_reducible rfl
                  try simp only [Act.put, List.setIfInBounds_toArray, List.set_cons_zero, List.set_cons_succ, List.getElem_toArray, List.getElem_cons_succ, List.getElem_cons_zero]
                  refine wpAnyH_take (i := 4) (v := ?v5) rfl (by kernel_rfl) (by kernel_rfl) (by kernel_rfl) (fun _ _ _ h => h) (Or.inl ⟨by rfl, ?hy5⟩) (by assumption) ?rest5
                  case hy5 =>
                    intro w hSw
                    (obtain ⟨⟨q0, q1⟩, ⟨q2, q3, q4, q5, q6⟩, ⟨r2, r3, r4, r5, r6⟩⟩ := hSw; go_simp; try with_reducible rfl)
                  try simp only [Act.put, List.setIfInBounds_toArray, List.set_cons_zero, List.set_cons_succ, List.getElem_toArray, List.getElem_cons_succ, List.getElem_cons_zero]
                  refine wpAnyH_take (i := 5) (v := ?v6) rfl (by kernel_rfl) (by kernel_rfl) (by kernel_rfl) (fun _ _ _ h => h) (Or.inl ⟨by rfl, ?hy6⟩) (by assumption) ?rest6
                  case hy6 =>
                    intro w hSw
                    go_simp
                    try with_reducible rfl
                  try simp only [Act.put, List.setIfInBounds_toArray, List.set_cons_zero, List.set_cons_succ, List.getElem_toArray, List.getElem_cons_succ, List.getElem_cons_zero]
                  refine wpAnyH_take (i := 6) (v := ?v7) rfl (by kernel_rfl) (by kernel_rfl) (by kernel_rfl) (fun _ _ _ h => h) (Or.inl ⟨by rfl, ?hy7⟩) (by assumption) ?rest7
                  case hy7 =>
                    intro w hSw
                    (obtain ⟨⟨q0, q1⟩, ⟨q2, q3, q4, q5, q6⟩, ⟨r2, r3, r4, r5, r6⟩⟩ := hSw; go_simp; try with_reducible rfl)
                  try simp only [Act.put, List.setIfInBounds_toArray, List.set_cons_zero, List.set_cons_succ, List.getElem_toArray, List.getElem_cons_succ, List.getElem_cons_zero]
                  refine wpAnyH_take (i := 7) (v := ?v8) rfl (by kernel_rfl) (by kernel_rfl) (by kernel_rfl) (fun _ _ _ h => h) (Or.inl ⟨by rfl, ?hy8⟩) (by assumption) ?rest8
                  case hy8 =>
                    intro w hSw
                    go_simp
                    try with_reducible rfl
                  try simp only [Act.put, List.setIfInBounds_toArray, List.set_cons_zero, List.set_cons_succ, List.getElem_toArray, List.getElem_cons_succ, List.getElem_cons_zero]
                  refine wpAnyH_take (i := 8) (v := ?v9) rfl (by kernel_rfl) (by kernel_rfl) (by kernel_rfl) (fun _ _ _ h => h) (Or.inl ⟨by rfl, ?hy9⟩) (by assumption) ?rest9
                  case hy9 =>
                    intro w hSw
                    go_simp
                    try with_reducible rfl
                  try simp only [Act.put, List.setIfInBounds_toArray, List.set_cons_zero, List.set_cons_succ, List.getElem_toArray, List.getElem_cons_succ, List.getElem_cons_zero]
                  refine wpAnyH_take (i := 9) (v := ?v10) rfl (by kernel_rfl) (by kernel_rfl) (by kernel_rfl) (fun _ _ _ h => h) (Or.inl ⟨by rfl, ?hy10⟩) (by assumption) ?rest10
                  case hy10 =>
                    intro w hSw
                    (obtain ⟨⟨q0, q1⟩, ⟨q2, q3, q4, q5, q6⟩, ⟨r2, r3, r4, r5, r6⟩⟩ := hSw; go_simp; try with_reducible rfl)
                  try simp only [Act.put, List.setIfInBounds_toArray, List.set_cons_zero, List.set_cons_succ, List.getElem_toArray, List.getElem_cons_succ, List.getElem_cons_zero]
                  refine wpAnyH_ready (rs := [10]) (by kernel_rfl) (by simp) ?_
                  refine AllReadyH.cons rfl (fun K hK => ?_) AllReadyH.nil
                  go_simp
                  go_wp2_with fail; refine (unhide HIH _ ((unhide HON).drew)).mono ?_; rintro e w3 ⟨rfl, o3d⟩; have o3 : Only (fun _ => False) wr w3 := ((Only.refl _ _).drew).trans o3d (fun _ _ e => e)
                  refine hK.out _ _ (⟨⟨o3.cell a4 (fun e => e), o3.cell b4 (fun e => e)⟩, ⟨o3.cell f0 (fun e => e), o3.cell f1 (fun e => e), o3.cell f2 (fun e => e), o3.cell f3 (fun e => e), o3.cell f4 (fun e => e)⟩, ⟨o3.cell p0 (fun e => e), o3.cell p1 (fun e => e), o3.cell p2 (fun e => e), o3.cell p3 (fun e => e), o3.cell p4 (fun e => e)⟩⟩) (fun hHeld => ?_)
                  clear hK K
                  try simp only [Act.put, List.setIfInBounds_toArray, List.set_cons_zero, List.set_cons_succ, List.getElem_toArray, List.getElem_cons_succ, List.getElem_cons_zero]
                  refine wpAnyH_take (i := 11) (v := ?v11) rfl (by kernel_rfl) (by kernel_rfl) (by kernel_rfl) (fun _ _ _ h => h) (Or.inl ⟨by rfl, ?hy11⟩) (by assumption) ?rest11
                  case hy11 =>
                    intro w hSw
                    go_simp
                    try with_reducible rfl
                  try simp only [Act.put, List.setIfInBounds_toArray, List.set_cons_zero, List.set_cons_succ, List.getElem_toArray, List.getElem_cons_succ, List.getElem_cons_zero]
                  refine wpAnyH_done (by kernel_rfl) ?_ _
                  have HO3 := hide ((unhide HO).trans o3 (fun _ _ e => e))
                  clear hHeld o3 o3d a4 b4 f0 f1 f2 f3 f4 p0 p1 p2 p3 p4 HIH
                  cases hsb : sameB kid lid with
                  | true =>
                    have HN : Hid (∀ (m : Nat) (x y : It), m < k + 1 → ks[m]? = some x → ks'[m]? = some y → sameB x y = true) := fun m x y hm hx hy => by
                      by_cases e : m < k
                      · exact unhide HALL m x y e hx hy
                      · obtain rfl : m = k := by omega
                        rw [(unhide HX).1] at hx
                        rw [(unhide HX).2] at hy
                        cases hx
                        cases hy
                        exact hsb
                    clear hsb
                    rw [Bool.not_true]
                    go_wp2
                    go_roundw
                    case rel => exact ⟨k + 1, by omega, by go_num, unhide HN, unhide HO3⟩
                    case measure => simp [intOf]; omega
                  | false =>
                    have HF : Hid (sameAllB ks ks' = false) := by
                      show _ = _
                      rw [← Bool.not_eq_true, sameAll_iff]
                      intro h
                      rw [h.2 k kid lid (unhide HX).1 (unhide HX).2] at hsb
                      cases hsb
                    clear hsb
                    rw [Bool.not_false]
                    go_wp2
                    go_ret
                    rw [unhide HSB, unhide HF]
                    exact ⟨by simp, (unhide HOA).trans (unhide HO3) (fun _ _ e => e)⟩
                · obtain rfl : kl = k := by omega
                  have HT : Hid (sameAllB ks ks' = true) := by
                    show _ = _
                    rw [sameAll_iff]
                    refine ⟨by rw [(unhide HKL).1, (unhide HKL).2], fun m x y hx hy => unhide HALL m x y ?_ hx hy⟩
                    have := (List.getElem?_eq_some_iff.1 hx).1
                    rw [(unhide HKL).1] at this
                    exact this
                  go_wp2
                  go_ret
                  rw [unhide HSB, unhide HT]
                  exact ⟨by simp, (unhide HOA).trans (unhide HO) (fun _ _ e => e)⟩
            · have hl : ((ks.length : Int) == (ks'.length : Int)) = false := by rw [beq_eq_false_iff_ne]; omega
              have HF : Hid (sameAllB ks ks' = false) := by
                show _ = _
                rw [← Bool.not_eq_true, sameAll_iff]
                exact fun h => hlen h.1
              clear hlen
              go_enter Tryd.func10, Tryd.ntmps10
              go_wp2
              go_ret
              rw [unhide HSB, unhide HF]
              exact ⟨by simp, unhide HOA⟩
          · have hs : ((str d).toList == (str d').toList) = false := by rw [str_beq]; exact decide_eq_false hd
            have HD := hide hd
            clear hd
            go_enter Tryd.func10, Tryd.ntmps10
            go_wp2
            go_ret
            rw [unhide HSB]
            exact ⟨by simp [unhide HD], unhide HOA⟩
        · have hs : (nn == nn') = false := by rw [beq_eq_false_iff_ne]; exact hn
          have HD := hide hn
          clear hn
          go_enter Tryd.func10, Tryd.ntmps10
          go_wp2
          go_ret
          rw [unhide HSB]
          exact ⟨by simp [unhide HD], unhide HOA⟩
      · have hs : (y == y') = false := by rw [beq_eq_false_iff_ne]; exact hy
        have HD := hide hy
        clear hy
        go_enter Tryd.func10, Tryd.ntmps10
        go_wp2
        go_ret
        rw [unhide HSB]
        exact ⟨by simp [unhide HD], unhide HOA⟩
    · have hs : (t == t') = false := by rw [beq_eq_false_iff_ne]; exact ht
      have HD := hide ht
      clear ht
      go_enter Tryd.func10, Tryd.ntmps10
      go_wp2
      go_ret
      rw [unhide HSB]
      exact ⟨by simp [unhide HD], unhide HOA⟩
end Tt
end Go.Proofs.YtedmfjnmclbkpabDoor
