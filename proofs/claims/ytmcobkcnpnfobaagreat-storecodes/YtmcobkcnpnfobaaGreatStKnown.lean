/-
  locksmithlaw5's known.
-/
import Derived.Test.YtmcobkcnpnfobaaGreatStStore
namespace Go.Proofs.YtmcobkcnpnfobaaGreat
open Go.RowKit Go.Maps
set_option linter.unusedSimpArgs false
set_option linter.unusedVariables false

namespace St

theorem hasC_lit {Q : Nat → Prop} {w : World} {g : Nat} {t : TypeId} {fr : Nat × Nat} (zs : List (Value × Chg)) (h : w.heap[g]? = some (.cells (zs.flatMap zc).toArray t fr)) (he : EachZ Q w zs) (hg : Q g) (hm : zs.length ≤ 1000) : HasC Q w (.slice (some ⟨g, 0, none⟩) zs.length zs.length) (zs.map (·.2)) := by
  refine ⟨zs, rfl, Or.inr ⟨⟨g, 0, none⟩, _, rfl, fun _ => rfl, Nat.le_refl _, by unfold maxLen; omega, fun _ => lt_of_block h, fun j z hj => ?_⟩, he, fun _ k hk => by simp [blk] at hk; subst hk; exact hg⟩
  have hc : ∀ i, w.cell? ⟨g, i, none⟩ = (zs.flatMap zc)[i]? := fun i => by simp [World.cell?, h]
  have h0 := flat_at zc 3 zs (fun _ _ => rfl) j 0 (by decide) z hj
  have h1 := flat_at zc 3 zs (fun _ _ => rfl) j 1 (by decide) z hj
  have h2 := flat_at zc 3 zs (fun _ _ => rfl) j 2 (by decide) z hj
  simp only [Nat.zero_add]
  refine ⟨?_, ?_, ?_⟩
  · rw [hc]; exact h0
  · rw [hc]; exact h1
  · rw [hc]; exact h2
theorem hasCC_lit {Q : Nat → Prop} {w : World} {g : Nat} {t : TypeId} {fr : Nat × Nat} (vs : List Value) (ls : List (List Chg)) (h : w.heap[g]? = some (.cells vs.toArray t fr)) (he : EachC Q w vs ls) (hg : Q g) (hm : vs.length ≤ 1000) : HasCC Q w (.slice (some ⟨g, 0, none⟩) vs.length vs.length) ls :=
  ⟨vs, hasV_lit h (by unfold maxLen; omega), he, fun _ k hk => by simp [blk] at hk; subst hk; exact hg⟩

def kn : Nat × KRes LD := keepEachS apL reL [[⟨[97], true, [49]⟩]] ⟨⟨Wal.Hd.zero, 0, false⟩, Dk.new 20⟩ [] 0
theorem kn_facts : kn.1 = 1 ∧ kn.2.e = 0 ∧ kn.2.P = [([97], [49])] ∧ kn.2.s.d.works ≤ 100 := by decide +kernel

set_option maxHeartbeats 2000000 in
set_option maxRecDepth 100000 in
theorem known_any (w : World) : Calls Tryz.prog 11 #[] w fun e w' => e = .returned (.bool true) ∧ Only (fun _ => False) w w' := by
  have kc := fun (w : World) (C : Array Value) (n c : Nat) => Lib.run_convert_bytes_const (P := Tryz.prog) w 24 5 C n c Tryz.underlying24 Tryz.underlying5
  obtain ⟨k1, k2, k3, k4⟩ := kn_facts
  have HK1 := hide k1
  have HK2 := hide k2
  have HK3 := hide k3
  have HK4 := hide k4
  clear k1 k2 k3 k4
  go_enter Tryz.func11, Tryz.ntmps11
  go_wp2_with fail
  refine (dks_new 20 (by decide) (by decide) w w (Only.refl _ _)).mono ?_
  rintro e w1 ⟨B, F, rfl, hd, hF, o1⟩
  have HOP := hide (stt_open (s := ⟨⟨Wal.Hd.zero, 0, false⟩, Dk.new 20⟩) hd (by decide) (good_new 20 (by decide) (by decide)) (by decide) (by decide))
  clear hd o1
  go_wp2_with fail
  refine (unhide HOP).mono ?_
  rintro e w2 ⟨sb, X, rfl, hs, hX, o2⟩
  have HS := hide hs
  clear hs o2 HOP hX
  have HCO : Hid (∀ (W1 W2 W3 : World), W1 = w2.alloc (.cells #[.int .u8 49] 5 (1, 2)) → W2 = W1.alloc (.cells #[.string ⟨#[97]⟩, .bool true, .slice (some ⟨w2.heap.size, 0, none⟩) 1 1] 39) → W3 = W2.alloc (.cells #[.slice (some ⟨w2.heap.size + 1, 0, none⟩) 1 1] 23) →
      Calls Tryz.prog 32 #[.pointer (some ⟨sb, 0, none⟩), .slice (some ⟨w2.heap.size + 1 + 1, 0, none⟩) 1 1] W3 fun e w' => e = .returned (.tuple #[.int .i64 1, .int .i64 0]) ∧ ∃ X', Stt w w' B sb X' kn.2.s kn.2.P kn.2.u 1) := by
    intro W1 W2 W3 h1 h2 h3
    have o1 : Only (fun _ => False) w2 W1 := by rw [h1]; exact (Only.refl _ _).alloc _
    have o2 : Only (fun _ => False) W1 W2 := by rw [h2]; exact (Only.refl _ _).alloc _
    have o3 : Only (fun _ => False) W2 W3 := by rw [h3]; exact (Only.refl _ _).alloc _
    have z1 : W1.heap.size = w2.heap.size + 1 := by rw [h1]; simp
    have z2 : W2.heap.size = w2.heap.size + 1 + 1 := by rw [h2]; simp [z1]
    have b1 : W1.heap[w2.heap.size]? = some (.cells ([49].map bv).toArray 5 (1, 2)) := by rw [h1]; exact heap_alloc_new _ _
    have b2 : W2.heap[w2.heap.size + 1]? = some (.cells ([((.slice (some ⟨w2.heap.size, 0, none⟩) 1 1 : Value), (⟨[97], true, [49]⟩ : Chg))].flatMap zc).toArray 39) := by rw [h2, ← z1]; exact heap_alloc_new _ _
    have b3 : W3.heap[w2.heap.size + 1 + 1]? = some (.cells ([.slice (some ⟨w2.heap.size + 1, 0, none⟩) 1 1] : List Value).toArray 23) := by rw [h3, ← z2]; exact heap_alloc_new _ _
    have k1 : Has W1 (.slice (some ⟨w2.heap.size, 0, none⟩) 1 1) [49] := has_lit (bs := [49]) b1 (by decide)
    have k2 : HasC (fun j => w2.heap.size ≤ j) W2 (.slice (some ⟨w2.heap.size + 1, 0, none⟩) 1 1) [⟨[97], true, [49]⟩] :=
      hasC_lit [((.slice (some ⟨w2.heap.size, 0, none⟩) 1 1 : Value), (⟨[97], true, [49]⟩ : Chg))] b2 (fun z hz => by rw [List.mem_singleton.1 hz]; exact ⟨k1.only o2 (fun _ _ _ e => e), fun _ k hk => by simp [blk] at hk; omega⟩) (by omega) (by simp)
    have k3 : HasCC (fun j => w2.heap.size ≤ j) W3 (.slice (some ⟨w2.heap.size + 1 + 1, 0, none⟩) 1 1) [[⟨[97], true, [49]⟩]] := hasCC_lit [_] _ b3 ⟨k2.same o3, trivial⟩ (by omega) (by simp)
    have hlt := (unhide HS).lt
    have hs3 := (unhide HS).same ((o1.trans o2 (fun _ _ e => e)).trans o3 (fun _ _ e => e))
    refine (stt_commit hs3 _ _ (k3.mono (fun j _ hj e => by have := (hlt j e).2; omega)) (by decide) (by decide) (by unfold okL; decide +kernel)).mono ?_
    rintro e w' ⟨rfl, hw⟩
    obtain ⟨X', h', _⟩ := hw.now
    refine ⟨?_, X', h'⟩
    have e1 := unhide HK1
    have e2 := unhide HK2
    unfold kn at e1 e2
    rw [e1, e2]
    rfl
  go_wp2_with fail
  refine (unhide HCO _ _ _ rfl rfl rfl).mono ?_
  rintro e w3 ⟨rfl, X3, h3⟩
  have HS3 := hide h3
  clear h3 HCO
  have HCR := hide (stt_crash (unhide HS3) (by have := unhide HK4; omega) (.slice none 0 0) [] (Or.inl ⟨rfl, rfl⟩) (fun e => absurd rfl e))
  have hkg : Good kn.2.s kn.2.P kn.2.u 1 1 1 := by
    have h := each_good [[⟨[97], true, [49]⟩]] (good_new 20 (by decide) (by decide)) (by decide)
    rcases h.out with ⟨_, _, c⟩ | ⟨a, _⟩ | ⟨a, _⟩
    · exact c
    · have := unhide HK2; unfold kn at this; rw [this] at a; rcases a with a | a <;> cases a
    · have := unhide HK2; unfold kn at this; rw [this] at a; cases a
  have HKG := hide hkg
  clear hkg
  go_wp2_with fail
  refine (unhide HCR).mono ?_
  rintro e w4 ⟨rfl, F4, hd4, o4, hF4⟩
  have HOP := hide (stt_open (s := Crashed kn.2.s.d []) hd4 (by have := unhide HK4; show kn.2.s.d.works ≤ _; omega) ((unhide HKG).crash []) (by decide) (by decide))
  clear hd4 o4 hF4 HCR
  go_wp2_with fail
  refine (unhide HOP).mono ?_
  rintro e w5 ⟨sb5, X5, rfl, h5, _, o5⟩
  rw [unhide HK3] at h5
  have HGE := hide (stt_get h5 [97] [49] (by decide) (by decide) (by decide))
  have HO := hide h5.only
  clear h5 o5 HOP
  go_wp2_with fail
  refine (unhide HGE).mono ?_
  rintro e w6 ⟨v6, rfl, hv6, o6⟩
  have hcv := str_conv (Has.ofOwns hv6.out)
  obtain ⟨vo, vc, rfl, _⟩ := (Has.ofOwns hv6.out).shape
  rw [show ([49] : List UInt8).length = 1 from rfl] at hcv
  have hbe : ((str [49]).toList == [49]) = true := by decide +kernel
  have HO6 := hide ((unhide HO).trans o6 (fun _ _ e => e))
  clear hv6 o6
  go_wp2
  go_ret
  exact ⟨rfl, unhide HO6⟩
end St
end Go.Proofs.YtmcobkcnpnfobaaGreat
