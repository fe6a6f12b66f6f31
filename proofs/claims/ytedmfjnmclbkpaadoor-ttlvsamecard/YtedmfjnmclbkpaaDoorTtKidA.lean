/-
  The program's Kid, at any item.
-/
import Derived.Test.YtedmfjnmclbkpaaDoorTtFresh2
namespace Go.Proofs.YtedmfjnmclbkpaaDoor
open Go.RowKit
set_option linter.unusedSimpArgs false
set_option linter.unusedVariables false
namespace Tt

/-- the first kid of a tag -/
def firstKid (tag : Int) : List It → Option It
  | [] => none
  | k :: r => if k.tag = tag then some k else firstKid tag r
theorem firstKid_at {tag : Int} : ∀ {ks : List It} {m : Nat} {k : It}, ks[m]? = some k → k.tag = tag → (∀ j x, j < m → ks[j]? = some x → x.tag ≠ tag) → firstKid tag ks = some k
  | [], m, k, h, _, _ => by simp at h
  | x :: r, 0, k, h, ht, _ => by
    simp at h
    subst h
    unfold firstKid
    rw [if_pos ht]
  | x :: r, m + 1, k, h, ht, hn => by
    unfold firstKid
    rw [if_neg (hn 0 x (by omega) rfl)]
    exact firstKid_at (by simpa using h) ht (fun j y hj hy => hn (j + 1) y (by omega) (by simpa using hy))
theorem firstKid_no {tag : Int} : ∀ {ks : List It}, (∀ (j : Nat) (x : It), ks[j]? = some x → x.tag ≠ tag) → firstKid tag ks = none
  | [], _ => rfl
  | x :: r, h => by
    unfold firstKid
    rw [if_neg (h 0 x rfl)]
    exact firstKid_no (fun j y hy => h (j + 1) y (by simpa using hy))

/-- what Kid answers -/
def KidAs (n : Nat) (w w' : World) (e : Ending) : Option It → Prop
  | none => e = .returned (.tuple #[zeroI, .bool false])
  | some k => ∃ da dl dc ka kl kc, e = .returned (.tuple #[ival k (.slice da dl dc) (.slice ka kl kc), .bool true]) ∧ ItAt (fun q => w.heap.size ≤ q) w' n k (.slice da dl dc) (.slice ka kl kc)

set_option maxHeartbeats 4000000 in
set_option maxRecDepth 100000 in
theorem kid_any {Q : Nat → Prop} (n : Nat) (i : It) (dv kv : Value) (tag : Int) (w : World) (h : ItAt Q w (n + 1) i dv kv) (hc : i.count ≤ 1000) (hs : i.small 1000) :
    Calls Tryd.prog 11 #[ival i dv kv, .int .i64 tag] w fun e w' => KidAs n w w' e (firstKid tag i.kids) ∧ Only (fun _ => False) w w' := by
  obtain ⟨⟨da, dc, hds⟩, ka, kc, hks⟩ := h.shapes
  subst hds
  subst hks
  obtain ⟨t, y, k, d, ks⟩ := i
  have hkl : ks.length ≤ 1000 := by have := countAll_len ks; rw [It.count] at hc; omega
  have hkc : ∀ x ∈ ks, x.count ≤ 1000 ∧ x.small 1000 := fun x hx => by
    rw [It.small] at hs
    rw [It.count] at hc
    exact ⟨by have := countAll_mem hx; omega, (smallAll_iff 1000 ks).1 hs.2.2.2.2 x hx⟩
  have HKS : Hid (KidsAt (fun q => q < w.heap.size) w (ItAt (fun q => q < w.heap.size) w n) (.slice ka ks.length kc) ks) := (ItAt.mono (R := fun q => q < w.heap.size) (fun q hq _ => hq) (n + 1) h).2.2
  have HKC := hide hkc
  show Calls Tryd.prog 11 #[.agg #[.int .i64 t, .int .i64 y, .int .i64 k, .slice da d.length dc, .slice ka ks.length kc], .int .i64 tag] w fun e w' => KidAs n w w' e (firstKid tag ks) ∧ Only (fun _ => False) w w'
  clear h hc hs hkc
  obtain ⟨⟨a0, a1, a2, a3, a4⟩, oA⟩ := boxed w (.int .i64 t) (.int .i64 y) (.int .i64 k) (.slice da d.length dc) (.slice ka ks.length kc)
  generalize hw1 : w.alloc (.cells #[.int .i64 t, .int .i64 y, .int .i64 k, .slice da d.length dc, .slice ka ks.length kc] 25) = w1 at *
  have hs1 : w1.heap.size = w.heap.size + 1 := by rw [← hw1]; simp
  have oZ : Only (fun _ => False) w1 (w1.alloc (.cells #[.int .i64 0, .int .i64 0, .int .i64 0, .slice none 0 0, .slice none 0 0] 25)) := (Only.refl _ _).alloc _
  have hbz := heap_alloc_new w1 (.cells #[.int .i64 0, .int .i64 0, .int .i64 0, .slice none 0 0, .slice none 0 0] 25)
  rw [hs1] at hbz
  have b4 := oZ.cell a4 (fun e => e)
  have HO := hide (oA.trans oZ (fun _ _ e => e))
  have HBZ := hide hbz
  subst hw1
  clear a0 a1 a2 a3 a4 oA hs1 oZ hbz
  go_enter Tryd.func11, Tryd.ntmps11
  go_upto_region 1 with fail
  generalize ((w.alloc (.cells #[.int .i64 t, .int .i64 y, .int .i64 k, .slice da d.length dc, .slice ka ks.length kc] 25)).alloc (.cells #[.int .i64 0, .int .i64 0, .int .i64 0, .slice none 0 0, .slice none 0 0] 25)) = w2 at *
  generalize hB : w.heap.size = B at *
  have HBB := hide hB
  clear hB
  obtain ⟨N, hN⟩ : ∃ N, N = ks.length := ⟨_, rfl⟩
  rw [← hN] at HKS b4 hkl ⊢
  have HN := hide hN
  clear hN
  go_wp2
  go_loopw [11] (fun j wr => ∃ m : Nat, m ≤ N ∧ j = .int .i64 m ∧ Hid (∀ j x, j < m → ks[j]? = some x → x.tag ≠ tag) ∧ Only (fun _ => False) w2 wr) (fun j _ => N - (intOf j).toNat)
  case atStart => exact ⟨0, Nat.zero_le _, rfl, fun j x hj => absurd hj (Nat.not_lt_zero _), Only.refl _ _⟩
  case round =>
    obtain ⟨m, hm, rfl, HNo, ho⟩ := hrel
    have HOr := hide ho
    have hzr := ho.heap (unhide HBZ) (fun e => e)
    have HZR := hide hzr
    clear ho hzr
    by_cases hlt : m < N
    · have hmk : m < ks.length := by rw [← unhide HN]; exact hlt
      obtain ⟨bb, off, dv, kv, rfl, hq, p0, p1, p2, p3, p4, hit⟩ := (unhide HKS).at m hmk
      obtain ⟨⟨da', dc', hds⟩, ka', kc', hks⟩ := hit.shapes
      have HKm : Hid (ks[m]? = some ks[m]) := List.getElem?_eq_getElem hmk
      have HKin := hide (unhide HKC _ (List.getElem_mem hmk))
      have o02 := (unhide HO).trans (unhide HOr) (fun _ _ e => e)
      have q0 := o02.cell p0 (fun e => e)
      have q1 := o02.cell p1 (fun e => e)
      have q2 := o02.cell p2 (fun e => e)
      have q3 := o02.cell p3 (fun e => e)
      have q4 := o02.cell p4 (fun e => e)
      have hitr := hit.same o02
      generalize ks[m] = kid at *
      subst hds
      subst hks
      have oK := (Only.refl (fun _ => False) wr).alloc (.cells #[.int .i64 kid.tag, .int .i64 kid.typ, .int .i64 kid.int, .slice da' kid.data.length dc', .slice ka' kid.kids.length kc'] 25)
      have hKb := heap_alloc_new wr (.cells #[.int .i64 kid.tag, .int .i64 kid.typ, .int .i64 kid.int, .slice da' kid.data.length dc', .slice ka' kid.kids.length kc'] 25)
      have HKB := hide hKb
      have HO5 := hide (o02.trans oK (fun _ _ e => e))
      have HOr5 := hide ((unhide HOr).trans oK (fun _ _ e => e))
      have HZ5 := hide (oK.heap (unhide HZR) (fun e => e))
      have HFr := hide (fresh_any n kid _ _ _ (hitr.same oK) (unhide HKin).1 (unhide HKin).2)
      unfold ival at HFr
      have hmi : (m : Int) < N := by omega
      clear p0 p1 p2 p3 p4 hit o02 hitr oK hKb hq hmk
      go_upto_region 4 with fail
      generalize wr.alloc (.cells #[.int .i64 kid.tag, .int .i64 kid.typ, .int .i64 kid.int, .slice da' kid.data.length dc', .slice ka' kid.kids.length kc'] 25) = w5 at *
      generalize wr.heap.size = b5 at *
      obtain ⟨k0, k1, k2, k3, k4⟩ := cells_of5 (unhide HKB)
      by_cases he : kid.tag = tag
      · have HE : Hid (firstKid tag ks = some kid) := firstKid_at (unhide HKm) he (unhide HNo)
        have heb : (kid.tag == tag) = true := by simp [he]
        clear he
        go_wp2_with fail
        refine (unhide HFr).mono ?_
        rintro e w6 ⟨da2, dl2, dc2, ka2, kl2, kc2, rfl, hit6, o6⟩
        have hz6 := o6.heap (unhide HZ5) (fun e => e)
        have HZ6 := hide hz6
        have hfz : ∀ i, w6.frozen? ⟨B + 1, i, none⟩ = false := by simp [World.frozen?, hz6]
        obtain ⟨z0, z1, z2, z3, z4⟩ := cells_of5 hz6
        have HO6 := hide ((unhide HO5).trans o6 (fun _ _ e => e))
        have HIT6 := hide hit6
        have HS5 := hide (unhide HO5).size
        have HS25 := hide (unhide HO).size
        have HS5r := hide (unhide HOr5).size
        have HBLT : Hid (B + 2 ≤ w2.heap.size) := (Array.getElem?_eq_some_iff.1 (unhide HBZ)).1
        clear o6 hz6 hit6 k0 k1 k2 k3 k4 q0 q1 q2 q3 q4
        go_wp2
        obtain ⟨hb7, o7⟩ := put5 (unhide HZ6) (.int .i64 kid.tag) (.int .i64 kid.typ) (.int .i64 kid.int) (.slice da2 dl2 dc2) (.slice ka2 kl2 kc2)
        refine bodyPost_ret (results_it2 rfl _ _ (B + 1) kid.tag kid.typ kid.int da2 dl2 dc2 ka2 kl2 kc2 rfl (cells_of5 hb7)) rfl ?_
        rw [unhide HE]
        refine ⟨⟨da2, dl2, dc2, ka2, kl2, kc2, rfl, ItAt.mono (fun q _ hq => ?_) n (ItAt.only o7 (fun q _ hq e => ?_) n (unhide HIT6))⟩, (unhide HO6).trans o7 (fun q hq e => ?_)⟩
        · have := unhide HS5; omega
        · have := unhide HS5r; have := unhide HBLT; omega
        · have := unhide HBB; omega
      · have HN2 : Hid (∀ j x, j < m + 1 → ks[j]? = some x → x.tag ≠ tag) := fun j x hj hx => by
          by_cases e : j < m
          · exact unhide HNo j x e hx
          · obtain rfl : j = m := by omega
            rw [unhide HKm] at hx
            cases hx
            exact he
        have heb : (kid.tag == tag) = false := by simp [he]
        clear he
        go_wp2
        go_roundw
        case rel => exact ⟨m + 1, by omega, by go_num, HN2, unhide HOr5⟩
        case measure => simp [intOf]; omega
    · obtain rfl : m = N := by omega
      have HE : Hid (firstKid tag ks = none) := firstKid_no (fun j x hx => unhide HNo j x (by have := (List.getElem?_eq_some_iff.1 hx).1; rw [unhide HN]; exact this) hx)
      have hfz : ∀ i, wr.frozen? ⟨B + 1, i, none⟩ = false := by have := unhide HZR; simp [World.frozen?, this]
      obtain ⟨z0, z1, z2, z3, z4⟩ := cells_of5 (unhide HZR)
      go_wp2
      obtain ⟨hb7, o7⟩ := put5 (unhide HZR) (.int .i64 0) (.int .i64 0) (.int .i64 0) (.slice none 0 0) (.slice none 0 0)
      refine bodyPost_ret (results_it2 rfl _ _ (B + 1) 0 0 0 none 0 0 none 0 0 rfl (cells_of5 hb7)) rfl ?_
      rw [unhide HE]
      exact ⟨rfl, ((unhide HO).trans (unhide HOr) (fun _ _ e => e)).trans o7 (fun q hq e => by have := unhide HBB; omega)⟩
end Tt
end Go.Proofs.YtedmfjnmclbkpaaDoor
