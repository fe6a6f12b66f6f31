/-
  Whether two items are alike: the program's Same.
-/
import Derived.Test.YtedmfjnmclbkpaaDoorTtSame
import Derived.Test.YtedmfjnmclbkpaaDoorTtTag
namespace Go.Proofs.YtedmfjnmclbkpaaDoor
open Go.RowKit
set_option linter.unusedSimpArgs false
set_option linter.unusedVariables false
namespace Tt

theorem bequal_any (xv yv : Value) (xs ys : List UInt8) (w : World) (hx : Has w xv xs) (hy : Has w yv ys) : Calls Tryd.prog 37 #[xv, yv] w fun e w' => e = .returned (.bool (decide (xs = ys))) ∧ w' = w := by
  obtain ⟨xa, xc, hxs, _⟩ := hx.shape
  obtain ⟨ya, yc, hys, _⟩ := hy.shape
  subst hxs
  subst hys
  have h1 := str_conv hx
  have h2 := str_conv hy
  have HB := hide (str_beq xs ys)
  generalize str xs = X at *
  generalize str ys = Y at *
  generalize xs.length = xl at *
  generalize ys.length = yl at *
  clear hx hy
  go_enter Tryd.func37, Tryd.ntmps37
  go_wp2
  go_ret
  rw [← unhide HB]
  exact ⟨rfl, rfl⟩

/-- Same, so deep -/
def SameC (n : Nat) : Prop := ∀ (Q R : Nat → Prop) (i i' : It) (dv kv dv' kv' : Value) (w : World), ItAt Q w n i dv kv → ItAt R w n i' dv' kv' →
    Calls Tryd.prog 23 #[ival i dv kv, ival i' dv' kv'] w fun e w' => e = .returned (.bool (sameB i i')) ∧ Only (fun _ => False) w w'

set_option maxHeartbeats 2000000 in
set_option maxRecDepth 100000 in
theorem eqFunc_any {n : Nat} (ih : SameC n) {Q R : Nat → Prop} (ks ks' : List It) (kv kv' : Value) (w : World) (h : KidsAt Q w (ItAt Q w n) kv ks) (h' : KidsAt R w (ItAt R w n) kv' ks') :
    Calls Tryd.prog 38 #[kv, kv', .func (.func 23) #[] #[]] w fun e w' => e = .returned (.bool (sameAllB ks ks')) ∧ Only (fun _ => False) w w' := by
  obtain ⟨ka, kc, hks, hkl, hkm⟩ := h.shape
  obtain ⟨la, lc, hls, hll, hlm⟩ := h'.shape
  subst hks
  subst hls
  have HK := hide h
  have HG := hide h'
  have HIH := hide ih
  clear h h' ih
  by_cases hlen : ks.length = ks'.length
  case neg =>
    have hl : ((ks.length : Int) == (ks'.length : Int)) = false := by rw [beq_eq_false_iff_ne]; omega
    have HF : Hid (sameAllB ks ks' = false) := by
      show _ = _
      rw [← Bool.not_eq_true, sameAll_iff]
      exact fun h => hlen h.1
    clear hlen
    go_enter Tryd.func38, Tryd.ntmps38
    go_wp2
    go_ret
    rw [unhide HF]
    exact ⟨rfl, Only.refl _ _⟩
  case pos =>
  obtain ⟨kl, hkl0⟩ : ∃ kl, kl = ks.length := ⟨_, rfl⟩
  have HKL : Hid (ks.length = kl ∧ ks'.length = kl) := ⟨hkl0.symm, by rw [← hlen]; exact hkl0.symm⟩
  rw [(unhide HKL).1] at HK hkl ⊢
  rw [(unhide HKL).2] at HG hll ⊢
  clear hlen hkl0
  have hklt : (kl : Int) < 9223372036854775808 := by unfold maxLen at hkm; omega
  go_enter Tryd.func38, Tryd.ntmps38
  go_wp2
  go_loopw [17] (fun j wr => ∃ k : Nat, k ≤ kl ∧ j = .int .i64 k ∧ (∀ (m : Nat) (x y : It), m < k → ks[m]? = some x → ks'[m]? = some y → sameB x y = true) ∧ Only (fun _ => False) w wr) (fun j _ => kl - (intOf j).toNat)
  case atStart => exact ⟨0, Nat.zero_le _, rfl, fun m x y h => absurd h (by omega), Only.refl _ _⟩
  case round =>
    obtain ⟨k, hk, rfl, hall, ho⟩ := hrel
    have HALL := hide hall
    have HO := hide ho
    clear hall ho
    by_cases hlt : k < kl
    case neg =>
      obtain rfl : kl = k := by omega
      have HTr : Hid (sameAllB ks ks' = true) := by
        show _ = _
        rw [sameAll_iff]
        refine ⟨by rw [(unhide HKL).1, (unhide HKL).2], fun m x y hx hy => unhide HALL m x y ?_ hx hy⟩
        have := (List.getElem?_eq_some_iff.1 hx).1
        rw [(unhide HKL).1] at this
        exact this
      go_wp2
      go_ret
      rw [unhide HTr]
      exact ⟨rfl, unhide HO⟩
    case pos =>
    have hku : k < ks.length := by have := (unhide HKL).1; omega
    have hlu : k < ks'.length := by have := (unhide HKL).2; omega
    have hlt' : (k : Int) < kl := by omega
    obtain ⟨bb, off, v1, v2, hao, _, e0, e1, e2, e3, e4, hit⟩ := (unhide HK).at k hku
    obtain ⟨cb, coff, u1, u2, hbo, _, g0, g1, g2, g3, g4, git⟩ := (unhide HG).at k hlu
    subst hao
    subst hbo
    have f0 := (unhide HO).cell e0 (fun e => e)
    have f1 := (unhide HO).cell e1 (fun e => e)
    have f2 := (unhide HO).cell e2 (fun e => e)
    have f3 := (unhide HO).cell e3 (fun e => e)
    have f4 := (unhide HO).cell e4 (fun e => e)
    have HX : Hid (ks[k]? = some ks[k] ∧ ks'[k]? = some ks'[k]) := ⟨List.getElem?_eq_getElem hku, List.getElem?_eq_getElem hlu⟩
    obtain ⟨⟨va, vc, hvs⟩, xa, xc, hxs⟩ := hit.shapes
    obtain ⟨⟨ua, uc, hus⟩, za, zc, hzs⟩ := git.shapes
    have HIK := hide (fun (W : World) (o : Only (fun _ => False) w W) => unhide HIH Q R ks[k] ks'[k] v1 v2 u1 u2 W (hit.same o) (git.same o))
    obtain ⟨kid, hkid⟩ : ∃ kid, kid = ks[k] := ⟨_, rfl⟩
    obtain ⟨lid, hlid⟩ : ∃ lid, lid = ks'[k] := ⟨_, rfl⟩
    rw [← hkid] at f0 f1 f2 HIK hvs hxs HX
    rw [← hlid] at g0 g1 g2 HIK hus hzs HX
    subst hvs
    subst hxs
    subst hus
    subst hzs
    unfold ival at HIK
    clear hkid hlid e0 e1 e2 e3 e4 hit git
    obtain ⟨⟨x0, x1, x2, x3, x4⟩, oA⟩ := boxed wr (.int .i64 kid.tag) (.int .i64 kid.typ) (.int .i64 kid.int) (.slice va kid.data.length vc) (.slice xa kid.kids.length xc)
    have HOA := hide ((unhide HO).trans oA (fun _ _ e => e))
    have p0 := (unhide HOA).cell g0 (fun e => e)
    have p1 := (unhide HOA).cell g1 (fun e => e)
    have p2 := (unhide HOA).cell g2 (fun e => e)
    have p3 := (unhide HOA).cell g3 (fun e => e)
    have p4 := (unhide HOA).cell g4 (fun e => e)
    clear g0 g1 g2 g3 g4 oA
    go_upto_region 6 with fail
    generalize wr.alloc (.cells #[.int .i64 kid.tag, .int .i64 kid.typ, .int .i64 kid.int, .slice va kid.data.length vc, .slice xa kid.kids.length xc] 25) = w1 at *
    obtain ⟨⟨y0, y1, y2, y3, y4⟩, oB⟩ := boxed w1 (.int .i64 lid.tag) (.int .i64 lid.typ) (.int .i64 lid.int) (.slice ua lid.data.length uc) (.slice za lid.kids.length zc)
    have z0 := oB.cell x0 (fun e => e)
    have z1 := oB.cell x1 (fun e => e)
    have z2 := oB.cell x2 (fun e => e)
    have z3 := oB.cell x3 (fun e => e)
    have z4 := oB.cell x4 (fun e => e)
    have HOB := hide ((unhide HOA).trans oB (fun _ _ e => e))
    clear oB x0 x1 x2 x3 x4 f0 f1 f2 f3 f4
    go_upto_region 7 with fail
    generalize w1.alloc (.cells #[.int .i64 lid.tag, .int .i64 lid.typ, .int .i64 lid.int, .slice ua lid.data.length uc, .slice za lid.kids.length zc] 25) = w2 at *
    go_wp2_with fail
    refine (unhide HIK _ (unhide HOB)).mono ?_
    rintro e w3 ⟨rfl, o3⟩
    have HO3 := hide ((unhide HOB).trans o3 (fun _ _ e => e))
    clear o3 HIK z0 z1 z2 z3 z4 y0 y1 y2 y3 y4 p0 p1 p2 p3 p4
    cases hsb : sameB kid lid with
    | true =>
      have HN : Hid (∀ (m : Nat) (x y : It), m < k + 1 → ks[m]? = some x → ks'[m]? = some y → sameB x y = true) := fun m x y hm hx hy => by
        by_cases e : m < k
        · exact unhide HALL m x y e hx hy
        · obtain rfl : m = k := by omega
          rw [(unhide HX).1] at hx
          rw [(unhide HX).2] at hy
          cases hx
          cases hy
          exact hsb
      clear hsb
      go_wp2
      go_roundw
      case rel => exact ⟨k + 1, by omega, by go_num, unhide HN, unhide HO3⟩
      case measure => simp [intOf]; omega
    | false =>
      have HF : Hid (sameAllB ks ks' = false) := by
        show _ = _
        rw [← Bool.not_eq_true, sameAll_iff]
        intro h
        rw [h.2 k kid lid (unhide HX).1 (unhide HX).2] at hsb
        cases hsb
      clear hsb
      go_wp2
      go_ret
      rw [unhide HF]
      exact ⟨rfl, unhide HO3⟩

set_option maxHeartbeats 2000000 in
set_option maxRecDepth 100000 in
theorem psame_any : ∀ n, SameC n := by
  intro n
  induction n with
  | zero => intro Q R i i' dv kv dv' kv' w h; exact h.elim
  | succ n ih =>
    intro Q R i i' dv kv dv' kv' w h h'
    obtain ⟨t, y, nn, d, ks⟩ := i
    obtain ⟨t', y', nn', d', ks'⟩ := i'
    obtain ⟨h1, h2, h3⟩ := h
    obtain ⟨g1, g2, g3⟩ := h'
    obtain ⟨da, dc, hds, _⟩ := h1.shape
    obtain ⟨ka, kc, hks, hkl, hkm⟩ := h3.shape
    obtain ⟨ea, ec, hes, _⟩ := g1.shape
    obtain ⟨la, lc, hls, hll, hlm⟩ := g3.shape
    simp only [It.data, It.kids] at hds hks hkl hes hls hll h1 g1 h3 g3
    subst hds
    subst hks
    subst hes
    subst hls
    obtain ⟨A, hA⟩ : ∃ A, sameB (.mk t y nn d ks) (.mk t' y' nn' d' ks') = A := ⟨_, rfl⟩
    rw [hA]
    rw [sameB_eq] at hA
    have HA := hide hA
    obtain ⟨⟨a0, a1, a2, a3, a4⟩, oA⟩ := boxed w (.int .i64 t) (.int .i64 y) (.int .i64 nn) (.slice da d.length dc) (.slice ka ks.length kc)
    generalize hw1 : w.alloc (.cells #[.int .i64 t, .int .i64 y, .int .i64 nn, .slice da d.length dc, .slice ka ks.length kc] 25) = w1 at *
    have hs1 : w1.heap.size = w.heap.size + 1 := by rw [← hw1]; simp
    obtain ⟨⟨b0, b1, b2, b3, b4⟩, oB⟩ := boxed w1 (.int .i64 t') (.int .i64 y') (.int .i64 nn') (.slice ea d'.length ec) (.slice la ks'.length lc)
    rw [hs1] at b0 b1 b2 b3 b4
    have c0 := oB.cell a0 (fun e => e)
    have c1 := oB.cell a1 (fun e => e)
    have c2 := oB.cell a2 (fun e => e)
    have c3 := oB.cell a3 (fun e => e)
    have c4 := oB.cell a4 (fun e => e)
    have oC := oA.trans oB (fun _ _ e => e)
    have HBE := hide (bequal_any _ _ d d' _ (h1.only oC (fun _ _ _ e => e)) (g1.only oC (fun _ _ _ e => e)))
    have HKK := hide (fun (W : World) (o : Only (fun _ => False) w W) => eqFunc_any ih ks ks' (.slice ka ks.length kc) (.slice la ks'.length lc) W (h3.imp (fun a v hs _ hc => o.cell hc (fun e => e)) o.size (fun _ _ h => h) (fun k _ dv kv hi => hi.same o)) (g3.imp (fun a v hs _ hc => o.cell hc (fun e => e)) o.size (fun _ _ h => h) (fun k _ dv kv hi => hi.same o)))
    have HOC := hide oC
    subst hw1
    unfold ival
    simp only [It.tag, It.typ, It.int]
    clear h1 h2 h3 g1 g2 g3 hA oA oB oC hs1 ih a0 a1 a2 a3 a4
    generalize d.length = dl at *
    generalize d'.length = dl' at *
    generalize ks.length = kl at *
    generalize ks'.length = kl' at *
    by_cases ht : t = t'
    case neg =>
      have hs : (t == t') = false := by rw [beq_eq_false_iff_ne]; exact ht
      have HE : Hid (A = false) := by show _ = _; rw [← unhide HA]; simp [ht]
      clear ht
      go_enter Tryd.func23, Tryd.ntmps23
      go_wp2
      go_ret
      rw [unhide HE]
      exact ⟨rfl, unhide HOC⟩
    case pos =>
    subst ht
    by_cases hy : y = y'
    case neg =>
      have hs : (y == y') = false := by rw [beq_eq_false_iff_ne]; exact hy
      have HE : Hid (A = false) := by show _ = _; rw [← unhide HA]; simp [hy]
      clear hy
      go_enter Tryd.func23, Tryd.ntmps23
      go_wp2
      go_ret
      rw [unhide HE]
      exact ⟨rfl, unhide HOC⟩
    case pos =>
    subst hy
    by_cases hn : nn = nn'
    case neg =>
      have hs : (nn == nn') = false := by rw [beq_eq_false_iff_ne]; exact hn
      have HE : Hid (A = false) := by show _ = _; rw [← unhide HA]; simp [hn]
      clear hn
      go_enter Tryd.func23, Tryd.ntmps23
      go_wp2
      go_ret
      rw [unhide HE]
      exact ⟨rfl, unhide HOC⟩
    case pos =>
    subst hn
    by_cases hd : d = d'
    case neg =>
      have HE : Hid (A = false) := by show _ = _; rw [← unhide HA]; simp [hd]
      rw [decide_eq_false hd] at HBE
      clear hd
      go_enter Tryd.func23, Tryd.ntmps23
      go_wp2_with fail
      refine (unhide HBE).mono ?_
      rintro e w3 ⟨rfl, rfl⟩
      go_wp2
      go_ret
      rw [unhide HE]
      exact ⟨rfl, unhide HOC⟩
    case pos =>
      rw [decide_eq_true hd] at HBE
      have HE : Hid (A = sameAllB ks ks') := by show _ = _; rw [← unhide HA]; simp [hd]
      have HK2 := hide (unhide HKK _ (unhide HOC))
      clear hd HKK
      go_enter Tryd.func23, Tryd.ntmps23
      go_wp2_with fail
      refine (unhide HBE).mono ?_
      rintro e w3 ⟨rfl, rfl⟩
      clear HBE
      go_wp2_with fail
      refine (unhide HK2).mono ?_
      rintro e w4 ⟨rfl, o4⟩
      have HO4 := hide ((unhide HOC).trans o4 (fun _ _ e => e))
      clear o4 HK2
      go_wp2
      go_ret
      rw [unhide HE]
      exact ⟨rfl, unhide HO4⟩
end Tt
end Go.Proofs.YtedmfjnmclbkpaaDoor
