/-
  locksmithlaw10.ObjectTexts, ObjectKnown.
-/
import Derived.Test.YtlcnckmbimmpjaaDoorObKnow
import Derived.Test.YtlcnckmbimmpjaaDoorObRefT
import Derived.Test.YtlcnckmbimmpjaaDoorHandPick
namespace Go.Proofs.YtlcnckmbimmpjaaDoor
open Go.RowKit
set_option linter.unusedSimpArgs false
set_option linter.unusedVariables false
namespace Ob

set_option maxRecDepth 100000 in
set_option maxHeartbeats 1000000 in
theorem texts_short (s : List UInt8) (n : Int) (w : World) (hs : s.length ≤ maxLen) (hT : Tabs w) :
    Calls Tryd.prog 7 #[.string (str s), .int .i64 n, .bool false] w fun e w' => e = .returned (.bool true) ∧ Only (fun _ => False) w w' := by
  have HK := hide (known_any w hT)
  have H1 := hide (fun W (o : Only (fun _ => False) w W) => text_any s W hs (hT.same o))
  have H2 := hide (fun W (o : Only (fun _ => False) w W) => xtext_any s W hs (hT.same o))
  have H3 := hide (fun W (o : Only (fun _ => False) w W) => cust_any s W hs (hT.same o))
  have H4 := hide (fun W (o : Only (fun _ => False) w W) => xcust_any s W hs (hT.same o))
  clear hT hs
  generalize str s = S at *
  generalize isText s = T at *
  generalize isCust s = C at *
  go_enter Tryd.func7, Tryd.ntmps7
  go_wp2_with (first
    | (refine (unhide HK).mono ?_; rintro e x1 ⟨rfl, o1⟩; have O1 := hide o1; clear o1)
    | (refine (unhide H1 _ (unhide O1)).mono ?_; rintro e x2 ⟨rfl, o2⟩; have O2 := hide ((unhide O1).trans o2 (fun _ _ e => e)); clear o2 H1)
    | (refine (unhide H2 _ (unhide O2)).mono ?_; rintro e x3 ⟨rfl, o3⟩; have O3 := hide ((unhide O2).trans o3 (fun _ _ e => e)); clear o3 H2)
    | (refine (unhide H3 _ (unhide O3)).mono ?_; rintro e x4 ⟨rfl, o4⟩; have O4 := hide ((unhide O3).trans o4 (fun _ _ e => e)); clear o4 H3)
    | (refine (unhide H4 _ (unhide O4)).mono ?_; rintro e x5 ⟨rfl, o5⟩; have O5 := hide ((unhide O4).trans o5 (fun _ _ e => e)); clear o5 H4))
  go_ret
  exact ⟨rfl, unhide O5⟩

theorem str_app (a b : List UInt8) : str a ++ str b = str (a ++ b) := by
  apply ByteArray.ext
  simp [str, ByteArray.data_append]

set_option maxRecDepth 100000 in
set_option maxHeartbeats 1000000 in
theorem texts_long (s : List UInt8) (n : Int) (w : World) (hT : Tabs w) :
    Calls Tryd.prog 7 #[.string (str s), .int .i64 n, .bool true] w fun e w' => e = .returned (.bool true) ∧ Only (fun _ => False) w w' := by
  have HP := hide (pick_any n 12 w (by decide) (by decide))
  have h0 := Int.emod_nonneg n (show (12 : Int) ≠ 0 by decide)
  have h1 := Int.emod_lt_of_pos n (show (0 : Int) < 12 by decide)
  obtain ⟨p, hp⟩ : ∃ p : Nat, n % 12 = p := ⟨(n % 12).toNat, by omega⟩
  rw [hp] at HP
  obtain ⟨m, hm⟩ : ∃ m, m = 110 + p := ⟨_, rfl⟩
  have hm1 : m ≤ 121 := by omega
  have hsum : (110 : Int) + (p : Int) = (m : Int) := by omega
  obtain ⟨Z, hmk, zs, hzl, hZ⟩ := make_zeros m (by omega)
  have hwm : wrap64 (m : Int) = (m : Int) := by unfold wrap64; omega
  obtain ⟨w1, k1, e1, ek1, hb1, o1, hs1⟩ := boxed w Z 5
  have hh : Has w1 (.slice (some ⟨k1, 0, none⟩) m m) zs := by
    have h := has_lit (w := w1) (g := k1) (bs := zs) (t := 5) (fr := (0, 0)) (by rw [← hZ]; have := hb1.out; simpa using this) (by unfold maxLen; omega)
    rw [hzl] at h
    exact h
  have hcv := str_conv hh
  have hzz : ¬ 9223372036854775807 < 2 + (str zs).size := by rw [str_size, hzl]; omega
  obtain ⟨q, hq⟩ : ∃ q, q = [120, 45] ++ zs := ⟨_, rfl⟩
  have hql : q.length ≤ maxLen := by rw [hq]; simp; unfold maxLen; omega
  have happ : (⟨#[120, 45]⟩ : ByteArray) ++ str zs = str q := by rw [hq]; exact str_app [120, 45] zs
  have hT1 := hT.same o1
  have HK := hide (known_any w1 hT1)
  have H1 := hide (fun W (o : Only (fun _ => False) w1 W) => text_any q W hql (hT1.same o))
  have H2 := hide (fun W (o : Only (fun _ => False) w1 W) => xtext_any q W hql (hT1.same o))
  have H3 := hide (fun W (o : Only (fun _ => False) w1 W) => cust_any q W hql (hT1.same o))
  have H4 := hide (fun W (o : Only (fun _ => False) w1 W) => xcust_any q W hql (hT1.same o))
  have OW := hide o1
  have HE1 := hide e1
  have HEK1 := hide ek1
  have hmki := hmk w
  rw [← e1, ← ek1] at hmki
  clear hT hT1 hb1 hs1 hh o1 e1 ek1 hmk hZ hzl hq hql h0 h1 hp hm
  generalize str s = S0 at *
  generalize str zs = SZ at *
  generalize str q = S at *
  generalize isText q = T at *
  generalize isCust q = C at *
  go_enter Tryd.func7, Tryd.ntmps7
  go_wp2_with fail
  refine (unhide HP).mono ?_
  rintro e x ⟨rfl, hx⟩
  rw [hx]
  clear hx x
  go_wp2_with (first
    | (refine (unhide HK).mono ?_; rintro e x1 ⟨rfl, o1⟩; have O1 := hide o1; clear o1)
    | (refine (unhide H1 _ (unhide O1)).mono ?_; rintro e x2 ⟨rfl, o2⟩; have O2 := hide ((unhide O1).trans o2 (fun _ _ e => e)); clear o2 H1)
    | (refine (unhide H2 _ (unhide O2)).mono ?_; rintro e x3 ⟨rfl, o3⟩; have O3 := hide ((unhide O2).trans o3 (fun _ _ e => e)); clear o3 H2)
    | (refine (unhide H3 _ (unhide O3)).mono ?_; rintro e x4 ⟨rfl, o4⟩; have O4 := hide ((unhide O3).trans o4 (fun _ _ e => e)); clear o4 H3)
    | (refine (unhide H4 _ (unhide O4)).mono ?_; rintro e x5 ⟨rfl, o5⟩; have O5 := hide ((unhide O4).trans o5 (fun _ _ e => e)); clear o5 H4))
  go_ret
  exact ⟨rfl, (unhide OW).trans (unhide O5) (fun _ _ e => e)⟩

theorem texts_any (s : List UInt8) (n : Int) (b : Bool) (w : World) (hs : s.length ≤ maxLen) (hT : Tabs w) :
    Calls Tryd.prog 7 #[.string (str s), .int .i64 n, .bool b] w fun e w' => e = .returned (.bool true) ∧ Only (fun _ => False) w w' := by
  cases b
  · exact texts_short s n w hs hT
  · exact texts_long s n w hT
end Ob
end Go.Proofs.YtlcnckmbimmpjaaDoor
