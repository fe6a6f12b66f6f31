/-
  utf8.Valid at any bytes: the same answer as utf8.ValidString at the text that they are.
-/
import Derived.Test.YtedmfjnmclbkpaaDoorU8w
import Derived.Test.YtedmfjnmclbkpaaDoorRow
import Derived.BigQuiet
import Derived.Lib.ValidAsc
import Derived.Laws.BitsAllLaws
import Derived.Deep.LoopGhost
import Derived.Deep.CutBlock
import Derived.Deep.DeepCutAuto
namespace Go.Proofs.YtedmfjnmclbkpaaDoor
open Go.RowKit Go.Shelf Go.Lib
set_option linter.unusedSimpArgs false
set_option linter.unusedVariables false
namespace U8

theorem lie_skip {w : World} {b o : Nat} {t : ByteArray} (h : Lie w b o t) (k : Nat) : Lie w b (o + k) (t.extract k t.size) := fun j hj => by
  rw [Lib.ext_size] at hj
  rw [Nat.add_assoc]
  have e : (t.extract k t.size).get! j = t.get! (k + j) := by
    rw [← Lib.getD_get!', ← Lib.getD_get!', Lib.ext_list]
    simp
  rw [e]
  exact h (k + j) (by omega)
theorem word8_lt (t : ByteArray) : word8 t < 18446744073709551616 := Lib.word_lt t
theorem word8_asc (t : ByteArray) (h : 8 ≤ t.size) : word8 t &&& 9259542123273814144 = 0 → Lib.Asc t 8 := (Lib.word_asc t h).1
theorem drewN_only {w wr : World} (h : Only (fun _ => False) w wr) : ∀ q, Only (fun _ => False) w (wr.drewN q)
  | 0 => h
  | q + 1 => (drewN_only h q).drew

/-- a place behind the first k bytes, all below 128 -/
structure To (w : World) (b : Nat) (A : Bool) (t : ByteArray) (o : Nat) : Prop where
  lie : Lie w b o t
  val : Lib.validD t.data.toList = A
theorem To.skip {w : World} {b : Nat} {A : Bool} {t : ByteArray} {o : Nat} (h : To w b A t o) (k : Nat) (ha : Lib.Asc t k) : To w b A (t.extract k t.size) (o + k) := ⟨lie_skip h.lie k, by rw [Lib.valid_skip t k ha]; exact h.val⟩
theorem To.word {w wr : World} {b : Nat} {A : Bool} {t : ByteArray} {o : Nat} (h : To w b A t o) (ho : Only (fun _ => False) w wr) (k : Nat) {n : Nat} (hn : t.size - k = n) (hk : 8 ≤ n) (cp : Nat) (q : Nat) :
    Calls Tryd.prog 100 #[.slice (some ⟨b, o + k, none⟩) n cp] (wr.drewN q) fun e w' => e = .returned (.int .u64 (word8 (t.extract k t.size))) ∧ ∃ q', w' = (wr.drewN q).drewN q' := by
  have := word_any (t.extract k t.size) b (o + k) cp (wr.drewN q) (((lie_skip h.lie k).only ho (fun e => e)).drewN q) (by rw [Lib.ext_size]; omega)
  rw [Lib.ext_size, hn] at this
  exact this
theorem To.word0 {w wr : World} {b : Nat} {A : Bool} {t : ByteArray} {o : Nat} (h : To w b A t o) (ho : Only (fun _ => False) w wr) {n : Nat} (hn : t.size = n) (hk : 8 ≤ n) (cp : Nat) (q : Nat) :
    Calls Tryd.prog 100 #[.slice (some ⟨b, o, none⟩) n cp] (wr.drewN q) fun e w' => e = .returned (.int .u64 (word8 t)) ∧ ∃ q', w' = (wr.drewN q).drewN q' :=
  hn ▸ word_any t b o cp (wr.drewN q) ((h.lie.only ho (fun e => e)).drewN q) (by omega)
theorem cells_of2 {w : World} {b : Nat} {x y : Value} {t : TypeId} (h : w.heap[b]? = some (.cells #[x, y] t (0, 0))) :
    w.cell? ⟨b, 0, none⟩ = some x ∧ w.cell? ⟨b, 1, none⟩ = some y := by
  simp [World.cell?, h]
set_option maxRecDepth 100000 in
theorem and7' : ∀ X : Fin 256, bits .and .u8 ((X.val : Nat) : Int) 7 = ((X.val % 8 : Nat) : Int) := by decide

/-- one round's state: what is left is a slice of just its bytes -/
def Rd (w : World) (b : Nat) (A : Bool) (m : Nat) (s0 : Value) (wx : World) : Prop := Only (fun _ => False) w wx ∧ ∃ (t : ByteArray) (o : Nat), s0 = .slice (some ⟨b, o, none⟩) t.size t.size ∧ To w b A t o ∧ t.size < m
theorem Rd.ext {w : World} {b : Nat} {A : Bool} {m n k : Nat} {wx : World} {t : ByteArray} {o : Nat} (ho : Only (fun _ => False) w wx) (h : To w b A (t.extract k t.size) (o + k)) (hn : t.size - k = n) (hm : n < m) : Rd w b A m (.slice (some ⟨b, o + k, none⟩) n n) wx :=
  ⟨ho, t.extract k t.size, o + k, by rw [Lib.ext_size, hn], h, by rw [Lib.ext_size]; omega⟩
theorem Rd.none {w : World} {b : Nat} {A : Bool} {m : Nat} {wx : World} {t : ByteArray} {o k : Nat} (o' : Nat) (ho : Only (fun _ => False) w wx) (h : To w b A (t.extract k t.size) (o + k)) (hn : t.size = k) (hm : 0 < m) : Rd w b A m (.slice (some ⟨b, o', none⟩) 0 0) wx :=
  have e : (t.extract k t.size).size = 0 := by rw [Lib.ext_size]; omega
  ⟨ho, t.extract k t.size, o', by rw [e], ⟨fun j hj => absurd hj (by omega), h.val⟩, by omega⟩

set_option maxHeartbeats 16000000 in
set_option maxRecDepth 1000000 in
theorem valid_at (t0 : ByteArray) (b o0 : Nat) (cp : Nat) (w : World) (hcp : t0.size ≤ cp) (h0 : 0 < t0.size) (hL0 : Lie w b o0 t0) (hs : t0.size ≤ 9223372036854775807) (hT : Tabs w) :
    Calls Tryd.prog 98 #[.slice (some ⟨b, o0, none⟩) t0.size cp] w fun e w' => e = .returned (.bool (Lib.validD t0.data.toList)) ∧ Only (fun _ => False) w w' := by
  obtain ⟨ANS, hANS⟩ : ∃ ANS, Lib.validD t0.data.toList = ANS := ⟨_, rfl⟩
  rw [hANS]
  have HT := hide hT
  have HTO : Hid (To w b ANS t0 o0) := ⟨hL0, hANS⟩
  have hcpz : (t0.size : Int) ≤ (cp : Int) := by omega
  clear hANS hL0 hT
  go_enter Tryd.func98, Tryd.ntmps98
  go_wp2
  go_loopg [0] (t0.size + 1) (fun gk s0 wx => Rd w b ANS gk s0 wx)
  case atStart => exact ⟨Only.refl _ _, t0, o0, rfl, unhide HTO, by omega⟩
  case round =>
    obtain ⟨ho, t, o, rfl, hto, hg⟩ := hrel
    have HO := hide ho
    have HTo := hide hto
    clear HTO hcpz hcp
    by_cases hz : 0 < t.size
    case neg =>
      have hzz : ¬ ((0 : Int) < (t.size : Int)) := by omega
      have hnil : t.data.toList = [] := List.eq_nil_of_length_eq_zero (by rw [← Lib.size_eq]; omega)
      have hv := hto.val
      rw [hnil, Lib.validD_nil] at hv
      subst hv
      clear hto ho
      go_wp2
      go_ret
      exact ⟨rfl, unhide HO⟩
    case pos =>
    obtain ⟨g', rfl⟩ : ∃ g', gk = g' + 1 := ⟨gk - 1, by omega⟩
    have hzz : (0 : Int) < (t.size : Int) := by omega
    have k0 := ho.cell (hto.lie 0 hz) (fun e => e)
    simp only [Nat.add_zero] at k0
    obtain ⟨x0, hx0⟩ : ∃ x0, t.get! 0 = x0 := ⟨_, rfl⟩
    rw [hx0] at k0
    have l0 := x0.toNat_lt
    by_cases hasc : x0.toNat < 128
    case pos =>
     as_aux_lemma =>
      have hascz : (x0.toNat : Int) < 128 := by omega
      have H1 := hide (hto.skip 1 (Lib.asc_one t hz (by rw [hx0]; exact hasc)))
      clear hto ho hasc HTo HT
      by_cases h1 : t.size = 1
      case pos =>
        have H1s := hide h1
        simp only [h1] at k0 hzz ⊢
        clear h1
        go_wp2
        go_roundg g'
        case measure => omega
        case rel => exact Rd.none o (unhide HO) (unhide H1) (unhide H1s) (by omega)
      case neg =>
      have h1a : (1 : Int) ≤ (t.size : Int) := by omega
      obtain ⟨n1, hn1⟩ : ∃ n1, t.size - 1 = n1 := ⟨_, rfl⟩
      have s1 : (t.extract 1 t.size).size = n1 := by rw [Lib.ext_size, hn1]
      by_cases c8 : 8 < n1
      case neg =>
        have c8z : ¬ ((8 : Int) < (n1 : Int)) := by omega
        clear s1
        go_wp2
        go_roundg g'
        case measure => omega
        case rel => exact Rd.ext (unhide HO) (unhide H1) hn1 (by omega)
      case pos =>
      have c8z : (8 : Int) < (n1 : Int) := by omega
      have CW := hide ((unhide H1).word0 (unhide HO) s1 (by omega) n1 0)
      have lA := word8_lt (t.extract 1 t.size)
      have kA := word8_asc (t.extract 1 t.size) (by omega)
      obtain ⟨t1, ht1⟩ : ∃ t1, t.extract 1 t.size = t1 := ⟨_, rfl⟩
      rw [ht1] at H1 CW lA kA s1
      have KA := hide kA
      obtain ⟨A1, hA1⟩ : ∃ A1, word8 t1 = A1 := ⟨_, rfl⟩
      rw [hA1] at CW lA KA
      have hand1 : bits .and .u64 (A1 : Int) 9259542123273814144 = ((A1 &&& 9259542123273814144 : Nat) : Int) := u64_and_nat A1 9259542123273814144 lA (by omega)
      obtain ⟨Z1, hZ1⟩ : ∃ Z1, A1 &&& 9259542123273814144 = Z1 := ⟨_, rfl⟩
      rw [hZ1] at hand1 KA
      have H1e : Hid (To w b ANS (t.extract 1 t.size) (o + 1)) := by rw [ht1]; exact H1
      clear kA hA1 hZ1 ht1
      by_cases hz1 : Z1 = 0
      case neg =>
        have hz1b : ((Z1 : Int) == 0) = false := by rw [beq_eq_false_iff_ne]; omega
        clear hz1
        go_wp2_with fail
        refine (unhide CW).mono ?_
        rintro e w1 ⟨rfl, q1, rfl⟩
        go_wp2
        go_roundg g'
        case measure => omega
        case rel => exact Rd.ext (drewN_only (drewN_only (unhide HO) 0) q1) (unhide H1e) hn1 (by omega)
      case pos =>
      have hz1b : ((Z1 : Int) == 0) = true := by rw [hz1]; rfl
      have H2 := hide ((unhide H1).skip 8 (unhide KA hz1))
      obtain ⟨n2, hn2⟩ : ∃ n2, n1 - 8 = n2 := ⟨_, rfl⟩
      have h8a : (8 : Int) ≤ (n1 : Int) := by omega
      clear hz1 KA lA
      go_wp2_with fail
      refine (unhide CW).mono ?_
      rintro e w1 ⟨rfl, q1, rfl⟩
      have HO1 := hide (drewN_only (drewN_only (unhide HO) 0) q1)
      generalize (wr.drewN 0).drewN q1 = wq at HO1 ⊢
      clear CW k0
      have s2 : (t1.extract 8 t1.size).size = n2 := by rw [Lib.ext_size, s1, hn2]
      have H2e := H2
      by_cases c16 : 16 < n2
      case neg =>
        have c16z : ¬ ((16 : Int) < (n2 : Int)) := by omega
        have c16b : decide ((16 : Int) < (n2 : Int)) = false := decide_eq_false c16z
        have R : ∀ wx, Only (fun _ => False) w wx → Rd w b ANS g' (.slice (some ⟨b, o + 1 + 8, none⟩) n2 n2) wx := fun wx hx => Rd.ext (t := t1) (o := o + 1) (k := 8) hx (unhide H2) (by omega) (by omega)
        have HR := hide R
        clear R s1 s2 H1 H1e H2 H2e
        go_wp2_with fail
        go_quiet ((fail))
        go_wp2
        go_roundg g'
        case measure => omega
        case rel => exact unhide HR _ (drewN_only (unhide HO1) _)
      case pos =>
      have c16z : (16 : Int) < (n2 : Int) := by omega
      have h8b : (8 : Int) ≤ (n2 : Int) := by omega
      obtain ⟨n3, hn3⟩ : ∃ n3, n2 - 8 = n3 := ⟨_, rfl⟩
      have CW2 := hide (fun q => (unhide H2).word0 (unhide HO1) s2 (by omega) n2 q)
      have CW3 := hide (fun q => (unhide H2).word (unhide HO1) 8 (show (t1.extract 8 t1.size).size - 8 = n3 by omega) (by omega) n3 q)
      have l2 := word8_lt (t1.extract 8 t1.size)
      have k2 := word8_asc (t1.extract 8 t1.size) (by omega)
      obtain ⟨t2, ht2⟩ : ∃ t2, t1.extract 8 t1.size = t2 := ⟨_, rfl⟩
      rw [ht2] at H2 H2e CW2 CW3 l2 k2 s2
      have l3 := word8_lt (t2.extract 8 t2.size)
      have k3 := word8_asc (t2.extract 8 t2.size) (by rw [Lib.ext_size]; omega)
      obtain ⟨A2, hA2⟩ : ∃ A2, word8 t2 = A2 := ⟨_, rfl⟩
      obtain ⟨A3, hA3⟩ : ∃ A3, word8 (t2.extract 8 t2.size) = A3 := ⟨_, rfl⟩
      rw [hA2] at CW2 l2 k2
      rw [hA3] at CW3 l3 k3
      have hor2 : bits .or .u64 (A2 : Int) (A3 : Int) = ((A2 ||| A3 : Nat) : Int) := u64_or_nat A2 A3 l2 l3
      have lor2 : A2 ||| A3 < 18446744073709551616 := Nat.or_lt_two_pow (n := 64) l2 l3
      have hand2 : bits .and .u64 ((A2 ||| A3 : Nat) : Int) 9259542123273814144 = (((A2 ||| A3) &&& 9259542123273814144 : Nat) : Int) := u64_and_nat _ 9259542123273814144 lor2 (by omega)
      have K2 : Hid ((A2 ||| A3) &&& 9259542123273814144 = 0 → Lib.Asc t2 16) := fun h => by
        obtain ⟨e1, e2⟩ := (Lib.or_mask A2 A3 _).1 h
        exact Lib.asc_add t2 8 8 (k2 e1) (k3 e2)
      obtain ⟨O2, hO2⟩ : ∃ O2, A2 ||| A3 = O2 := ⟨_, rfl⟩
      rw [hO2] at hor2 hand2 K2
      obtain ⟨Z2, hZ2⟩ : ∃ Z2, O2 &&& 9259542123273814144 = Z2 := ⟨_, rfl⟩
      rw [hZ2] at hand2 K2
      clear k2 k3 lor2 hO2 hZ2 hA2 hA3 l2 l3
      by_cases hz2 : Z2 = 0
      case neg =>
        have hz2b : ((Z2 : Int) == 0) = false := by rw [beq_eq_false_iff_ne]; omega
        have R : ∀ wx, Only (fun _ => False) w wx → Rd w b ANS g' (.slice (some ⟨b, o + 1 + 8, none⟩) n2 n2) wx := fun wx hx => Rd.ext (t := t1) (o := o + 1) (k := 8) hx (by rw [ht2]; exact unhide H2) (by omega) (by omega)
        have HR := hide R
        clear R s1 s2 H1 H1e H2 H2e hz2 ht2 K2
        go_wp2_with fail
        go_quiet ((first | (go_at_call 100; with_reducible exact Calls.quiet_of (unhide CW2 _)) | (go_at_call 100; with_reducible exact Calls.quiet_of (unhide CW3 _))))
        go_wp2
        go_roundg g'
        case measure => omega
        case rel => exact unhide HR _ (drewN_only (unhide HO1) _)
      case pos =>
      have hz2b : ((Z2 : Int) == 0) = true := by rw [hz2]; rfl
      have H3 := hide ((unhide H2).skip 16 (unhide K2 hz2))
      obtain ⟨n4, hn4⟩ : ∃ n4, n2 - 16 = n4 := ⟨_, rfl⟩
      have h16a : (16 : Int) ≤ (n2 : Int) := by omega
      have R : ∀ m wx, n4 < m → Only (fun _ => False) w wx → Rd w b ANS m (.slice (some ⟨b, o + 1 + 8 + 16, none⟩) n4 n4) wx := fun m wx hm hx => Rd.ext (t := t2) (o := o + 1 + 8) (k := 16) hx (unhide H3) (by omega) hm
      have HR := hide R
      clear R s1 s2 H1 H1e H2 H2e hz2 ht2 K2 H3
      go_wp2_with fail
      go_quiet ((first | (go_at_call 100; with_reducible exact Calls.quiet_of (unhide CW2 _)) | (go_at_call 100; with_reducible exact Calls.quiet_of (unhide CW3 _))))
      have HO2 := hide (drewN_only (unhide HO1) nq)
      generalize wq.drewN nq = wq2 at HO2 ⊢
      clear CW2 CW3
      have hg4 : n4 + 1 ≤ g' := by omega
      clear hand1 hand2 hor2 hz1b hz2b c8z c16z h8a h8b h16a h1a hzz hascz
      go_wp2
      go_loopg [0] (n4 + 1) (fun g2 s0 wx => Rd w b ANS g2 s0 wx ∧ g2 ≤ g')
      case atStart => exact ⟨unhide HR _ _ (by omega) (unhide HO2), hg4⟩
      case round =>
        obtain ⟨⟨hou, u, ou, rfl, htu, hgu⟩, hgg⟩ := hrel
        have HOU := hide hou
        have HTU := hide htu
        clear hou htu HR HO2 HO1 HO
        obtain ⟨m0, hm0⟩ : ∃ m0, u.size = m0 := ⟨_, rfl⟩
        by_cases c32 : 32 < m0
        case neg =>
          have c32z : ¬ ((32 : Int) < (m0 : Int)) := by omega
          have c32b : decide ((32 : Int) < (m0 : Int)) = false := decide_eq_false c32z
          have R : ∀ wx, Only (fun _ => False) w wx → Rd w b ANS g' (.slice (some ⟨b, ou, none⟩) m0 m0) wx := fun wx hx => ⟨hx, u, ou, by rw [hm0], unhide HTU, by omega⟩
          have HR := hide R
          clear R HTU
          go_wp2_with fail
          go_quiet ((fail))
          go_wp2
          go_roundg g'
          case measure => omega
          case rel => exact unhide HR _ (drewN_only (unhide HOU) _)
        case pos =>
        obtain ⟨g3, rfl⟩ : ∃ g3, gk = g3 + 1 := ⟨gk - 1, by omega⟩
        have c32z : (32 : Int) < (m0 : Int) := by omega
        have e8 : (8 : Int) ≤ (m0 : Int) := by omega
        have e16 : (16 : Int) ≤ (m0 : Int) := by omega
        have e24 : (24 : Int) ≤ (m0 : Int) := by omega
        have e32 : (32 : Int) ≤ (m0 : Int) := by omega
        obtain ⟨m1, hm1⟩ : ∃ m1, m0 - 8 = m1 := ⟨_, rfl⟩
        obtain ⟨m2, hm2⟩ : ∃ m2, m0 - 16 = m2 := ⟨_, rfl⟩
        obtain ⟨m3, hm3⟩ : ∃ m3, m0 - 24 = m3 := ⟨_, rfl⟩
        obtain ⟨m4, hm4⟩ : ∃ m4, m0 - 32 = m4 := ⟨_, rfl⟩
        have C0 := hide (fun q => (unhide HTU).word0 (unhide HOU) hm0 (by omega) m0 q)
        have C1 := hide (fun q => (unhide HTU).word (unhide HOU) 8 (show u.size - 8 = m1 by omega) (by omega) m1 q)
        have C2 := hide (fun q => (unhide HTU).word (unhide HOU) 16 (show u.size - 16 = m2 by omega) (by omega) m2 q)
        have C3 := hide (fun q => (unhide HTU).word (unhide HOU) 24 (show u.size - 24 = m3 by omega) (by omega) m3 q)
        have b0 := word8_lt u
        have b1 := word8_lt (u.extract 8 u.size)
        have b2 := word8_lt (u.extract 16 u.size)
        have b3 := word8_lt (u.extract 24 u.size)
        have a0 := word8_asc u (by omega)
        have a1 := word8_asc (u.extract 8 u.size) (by rw [Lib.ext_size]; omega)
        have a2 := word8_asc (u.extract 16 u.size) (by rw [Lib.ext_size]; omega)
        have a3 := word8_asc (u.extract 24 u.size) (by rw [Lib.ext_size]; omega)
        obtain ⟨B0, hB0⟩ : ∃ B0, word8 u = B0 := ⟨_, rfl⟩
        obtain ⟨B1, hB1⟩ : ∃ B1, word8 (u.extract 8 u.size) = B1 := ⟨_, rfl⟩
        obtain ⟨B2, hB2⟩ : ∃ B2, word8 (u.extract 16 u.size) = B2 := ⟨_, rfl⟩
        obtain ⟨B3, hB3⟩ : ∃ B3, word8 (u.extract 24 u.size) = B3 := ⟨_, rfl⟩
        rw [hB0] at C0 b0 a0
        rw [hB1] at C1 b1 a1
        rw [hB2] at C2 b2 a2
        rw [hB3] at C3 b3 a3
        have ho1 : bits .or .u64 (B0 : Int) (B1 : Int) = ((B0 ||| B1 : Nat) : Int) := u64_or_nat B0 B1 b0 b1
        have ho2 : bits .or .u64 (B2 : Int) (B3 : Int) = ((B2 ||| B3 : Nat) : Int) := u64_or_nat B2 B3 b2 b3
        have lo1 : B0 ||| B1 < 18446744073709551616 := Nat.or_lt_two_pow (n := 64) b0 b1
        have lo2 : B2 ||| B3 < 18446744073709551616 := Nat.or_lt_two_pow (n := 64) b2 b3
        have ho3 : bits .or .u64 ((B0 ||| B1 : Nat) : Int) ((B2 ||| B3 : Nat) : Int) = (((B0 ||| B1) ||| (B2 ||| B3) : Nat) : Int) := u64_or_nat _ _ lo1 lo2
        have lo3 : (B0 ||| B1) ||| (B2 ||| B3) < 18446744073709551616 := Nat.or_lt_two_pow (n := 64) lo1 lo2
        have hand3 : bits .and .u64 (((B0 ||| B1) ||| (B2 ||| B3) : Nat) : Int) 9259542123273814144 = ((((B0 ||| B1) ||| (B2 ||| B3)) &&& 9259542123273814144 : Nat) : Int) := u64_and_nat _ 9259542123273814144 lo3 (by omega)
        have K3 : Hid (((B0 ||| B1) ||| (B2 ||| B3)) &&& 9259542123273814144 = 0 → Lib.Asc u 32) := fun h => by
          obtain ⟨e01, e23⟩ := (Lib.or_mask _ _ _).1 h
          obtain ⟨f0, f1⟩ := (Lib.or_mask _ _ _).1 e01
          obtain ⟨f2, f3⟩ := (Lib.or_mask _ _ _).1 e23
          exact Lib.asc_add u 24 8 (Lib.asc_add u 16 8 (Lib.asc_add u 8 8 (a0 f0) (a1 f1)) (a2 f2)) (a3 f3)
        obtain ⟨P1, hP1⟩ : ∃ P1, B0 ||| B1 = P1 := ⟨_, rfl⟩
        obtain ⟨P2, hP2⟩ : ∃ P2, B2 ||| B3 = P2 := ⟨_, rfl⟩
        rw [hP1, hP2] at ho3 hand3 K3
        rw [hP1] at ho1
        rw [hP2] at ho2
        obtain ⟨P3, hP3⟩ : ∃ P3, P1 ||| P2 = P3 := ⟨_, rfl⟩
        rw [hP3] at ho3 hand3 K3
        obtain ⟨Z3, hZ3⟩ : ∃ Z3, P3 &&& 9259542123273814144 = Z3 := ⟨_, rfl⟩
        rw [hZ3] at hand3 K3
        clear a0 a1 a2 a3 lo1 lo2 lo3 hP1 hP2 hP3 hZ3 hB0 hB1 hB2 hB3 b0 b1 b2 b3
        by_cases hz3 : Z3 = 0
        case pos =>
          have hz3b : ((Z3 : Int) == 0) = true := by rw [hz3]; rfl
          have H4 := hide ((unhide HTU).skip 32 (unhide K3 hz3))
          have R : ∀ wx, Only (fun _ => False) w wx → Rd w b ANS g3 (.slice (some ⟨b, ou + 32, none⟩) m4 m4) wx := fun wx hx => Rd.ext (t := u) (o := ou) (k := 32) hx (unhide H4) (by omega) (by omega)
          have HR := hide R
          clear R HTU H4 K3 hz3
          go_wp2_with fail
          go_quiet ((first | (go_at_call 100; with_reducible exact Calls.quiet_of (unhide C0 _)) | (go_at_call 100; with_reducible exact Calls.quiet_of (unhide C1 _)) | (go_at_call 100; with_reducible exact Calls.quiet_of (unhide C2 _)) | (go_at_call 100; with_reducible exact Calls.quiet_of (unhide C3 _))))
          go_wp2
          go_roundg g3
          case measure => omega
          case rel => exact ⟨unhide HR _ (drewN_only (unhide HOU) _), by omega⟩
        case neg =>
          have hz3b : ((Z3 : Int) == 0) = false := by rw [beq_eq_false_iff_ne]; omega
          have R : ∀ wx, Only (fun _ => False) w wx → Rd w b ANS g' (.slice (some ⟨b, ou, none⟩) m0 m0) wx := fun wx hx => ⟨hx, u, ou, by rw [hm0], unhide HTU, by omega⟩
          have HR := hide R
          clear R HTU K3 hz3
          go_wp2_with fail
          go_quiet ((first | (go_at_call 100; with_reducible exact Calls.quiet_of (unhide C0 _)) | (go_at_call 100; with_reducible exact Calls.quiet_of (unhide C1 _)) | (go_at_call 100; with_reducible exact Calls.quiet_of (unhide C2 _)) | (go_at_call 100; with_reducible exact Calls.quiet_of (unhide C3 _))))
          go_wp2
          go_roundg g'
          case measure => omega
          case rel => rw [hm0]; exact unhide HR _ (drewN_only (unhide HOU) _)
    case neg =>
     as_aux_lemma =>
      have hascz : ¬ ((x0.toNat : Int) < 128) := by omega
      have hne : t.data.toList ≠ [] := fun h => by rw [Lib.size_eq, h] at hz; simp at hz
      have hlead := Lib.validD_lead t.data.toList hne (by rw [Lib.getD_get!', hx0]; omega)
      rw [Lib.getD_get!', Lib.getD_get!', Lib.getD_get!', Lib.getD_get!', hx0, ← Lib.size_eq, hto.val] at hlead
      have hTr := (unhide HT).same ho
      have hc0 := hTr.1 x0.toNat l0
      have hXlt : Lib.firstT x0.toNat < 256 := by rcases Lib.firstT_cases x0.toNat with h | h | h | h | h | h | h | h | h <;> omega
      obtain ⟨X, hX⟩ : ∃ X, Lib.firstT x0.toNat = X := ⟨_, rfl⟩
      rw [hX] at hc0 hXlt hlead
      have h7 := and7' ⟨X, hXlt⟩
      simp only at h7
      have ha := hTr.2 (X / 16) (by omega)
      obtain ⟨LO, hLO⟩ : ∃ LO, Lib.accLo (X / 16) = LO := ⟨_, rfl⟩
      obtain ⟨HI, hHI⟩ : ∃ HI, Lib.accHi (X / 16) = HI := ⟨_, rfl⟩
      rw [hLO, hHI] at ha hlead
      have ha0 : wr.cell? ⟨1, X / 16 * 2, none⟩ = some (.int .u8 LO) := by rw [Nat.mul_comm]; exact ha.1
      have ha1 : wr.cell? ⟨1, X / 16 * 2 + 1, none⟩ = some (.int .u8 HI) := by rw [Nat.mul_comm]; exact ha.2
      have hf0 : wr.cell? ⟨0, x0.toNat, none⟩ = some (.int .u8 X) := hc0
      obtain ⟨SZ, hSZ⟩ : ∃ SZ, X % 8 = SZ := ⟨_, rfl⟩
      rw [hSZ] at hlead
      have HLead := hide hlead
      have K : ∀ j, j < t.size → ∀ W, Only (fun _ => False) wr W → W.cell? ⟨b, o + j, none⟩ = some (.int .u8 (t.get! j).toNat) := fun j hj W hW => hW.cell (ho.cell (hto.lie j hj) (fun e => e)) (fun e => e)
      have HK := hide K
      have HV : Hid (∀ k, Lib.validD (t.data.toList.drop k) = ANS → To w b ANS (t.extract k t.size) (o + k)) := fun k hk => ⟨lie_skip hto.lie k, by rw [Lib.ext_list]; exact hk⟩
      clear hlead hTr hX hLO hHI hne ha hc0 hto ho K HT
      obtain ⟨n, hn⟩ : ∃ n, t.size = n := ⟨_, rfl⟩
      rw [hn] at hzz HLead hg hz ⊢
      have HN := hide hn
      clear hn
      by_cases s2 : SZ = 2
      case pos =>
        subst s2
        have hSZz : (X : Int) % 8 = 2 := by omega
        have HL2 : Hid (ANS = if n < 2 ∨ (t.get! 1).toNat < LO ∨ HI < (t.get! 1).toNat then false else Lib.validD (t.data.toList.drop 2)) := by
          show _ = _
          have := unhide HLead
          simp only [Lib.checkN, Nat.reduceEqDiff, if_true, if_false] at this
          rw [this]
          split
          · rename_i h; split at h <;> first | (split <;> first | rfl | (exfalso; omega)) | cases h
          · rename_i h; split at h <;> first | (split <;> first | (exfalso; omega) | (cases h; rfl)) | cases h
        obtain ⟨x1, hx1⟩ : ∃ x1, t.get! 1 = x1 := ⟨_, rfl⟩
        obtain ⟨x2, hx2⟩ : ∃ x2, t.get! 2 = x2 := ⟨_, rfl⟩
        obtain ⟨x3, hx3⟩ : ∃ x3, t.get! 3 = x3 := ⟨_, rfl⟩
        rw [hx1] at HL2
        have l1 := x1.toNat_lt
        have l2 := x2.toNat_lt
        have l3 := x3.toNat_lt
        have KC : Hid (∀ W, Only (fun _ => False) wr W → (1 < n → W.cell? ⟨b, o + 1, none⟩ = some (.int .u8 x1.toNat)) ∧ (2 < n → W.cell? ⟨b, o + 2, none⟩ = some (.int .u8 x2.toNat)) ∧ (3 < n → W.cell? ⟨b, o + 3, none⟩ = some (.int .u8 x3.toNat))) := fun W hW => by
          have hnn := unhide HN
          exact ⟨fun h => by rw [← hx1]; exact unhide HK 1 (by omega) W hW, fun h => by rw [← hx2]; exact unhide HK 2 (by omega) W hW, fun h => by rw [← hx3]; exact unhide HK 3 (by omega) W hW⟩
        clear HLead HK hx0 hx1 hx2 hx3
        go_upto_region 18 with fail
        go_cut [103] from 85 to 103 (fun c wx => c = .bool (decide (n < 2 ∨ x1.toNat < LO ∨ HI < x1.toNat)) ∧ Only (fun _ => False) w wx)
        case first =>
          have hb := heap_alloc_new wr (.cells #[.int .u8 LO, .int .u8 HI] 117)
          obtain ⟨v0, v1⟩ := cells_of2 hb
          have oW : Only (fun _ => False) wr (wr.alloc (.cells #[.int .u8 LO, .int .u8 HI] 117)) := (Only.refl _ _).alloc _
          have HOW := hide ((unhide HO).trans oW (fun _ _ e => e))
          obtain ⟨k1, k2, k3⟩ := unhide KC _ oW
          have HK1 := hide k1
          have HK2 := hide k2
          have HK3 := hide k3
          clear hb oW KC k1 k2 k3 hf0 ha0 ha1 k0
          generalize wr.alloc (.cells #[.int .u8 LO, .int .u8 HI] 117) = W at *
          by_cases q0 : n < 2
          case pos =>
            have q0z : ((n : Nat) : Int) < (2 : Int) := by omega
            have HA : Hid (Value.bool true = Value.bool (decide (n < 2 ∨ x1.toNat < LO ∨ HI < x1.toNat))) := congrArg Value.bool (decide_eq_true (p := n < 2 ∨ x1.toNat < LO ∨ HI < x1.toNat) (by omega)).symm
            clear q0
            go_quiet ((fail))
            go_wp2
            go_meet
            exact ⟨unhide HA, drewN_only (unhide HOW) _⟩
          case neg =>
          have q0z : ¬ ((n : Nat) : Int) < (2 : Int) := by omega
          have k1 := unhide HK1 (by omega)
          have hz1 : (1 : Int) < (n : Int) := by omega
          by_cases q1 : x1.toNat < LO
          case pos =>
            have q1z : ((x1.toNat : Nat) : Int) < ((LO : Nat) : Int) := by omega
            have HA : Hid (Value.bool true = Value.bool (decide (n < 2 ∨ x1.toNat < LO ∨ HI < x1.toNat))) := congrArg Value.bool (decide_eq_true (p := n < 2 ∨ x1.toNat < LO ∨ HI < x1.toNat) (by omega)).symm
            clear q0 q1
            go_quiet ((fail))
            go_wp2
            go_meet
            exact ⟨unhide HA, drewN_only (unhide HOW) _⟩
          case neg =>
          have q1z : ¬ ((x1.toNat : Nat) : Int) < ((LO : Nat) : Int) := by omega
          by_cases q2 : HI < x1.toNat
          case pos =>
            have q2z : ((HI : Nat) : Int) < ((x1.toNat : Nat) : Int) := by omega
            have HA : Hid (Value.bool true = Value.bool (decide (n < 2 ∨ x1.toNat < LO ∨ HI < x1.toNat))) := congrArg Value.bool (decide_eq_true (p := n < 2 ∨ x1.toNat < LO ∨ HI < x1.toNat) (by omega)).symm
            clear q0 q1 q2
            go_quiet ((fail))
            go_wp2
            go_meet
            exact ⟨unhide HA, drewN_only (unhide HOW) _⟩
          case neg =>
          have q2z : ¬ ((HI : Nat) : Int) < ((x1.toNat : Nat) : Int) := by omega
          have HA : Hid (Value.bool false = Value.bool (decide (n < 2 ∨ x1.toNat < LO ∨ HI < x1.toNat))) := congrArg Value.bool (decide_eq_false (p := n < 2 ∨ x1.toNat < LO ∨ HI < x1.toNat) (by omega)).symm
          clear q0 q1 q2
          go_quiet ((fail))
          go_wp2
          go_meet
          exact ⟨unhide HA, drewN_only (unhide HOW) _⟩
        case rest =>
          obtain ⟨rfl, hoc⟩ := hcut
          have HOC := hide hoc
          clear hoc KC k0 hf0 ha0 ha1
          by_cases hb : n < 2 ∨ x1.toNat < LO ∨ HI < x1.toNat
          case pos =>
            have hA := unhide HL2
            rw [if_pos hb] at hA
            have HA := hide hA
            rw [decide_eq_true hb]
            clear hA hb HL2
            go_wp2
            go_ret
            rw [unhide HA]
            exact ⟨rfl, unhide HOC⟩
          case neg =>
          have hA := unhide HL2
          rw [if_neg hb] at hA
          have HTo2 := hide (unhide HV 2 hA.symm)
          rw [decide_eq_false hb]
          have hn2 : 2 ≤ n := by omega
          clear hA hb HL2 HV
          by_cases he : n = 2
          case pos =>
            subst he
            have hnn := HN
            clear hn2 hzz
            go_wp2
            go_roundg g'
            case measure => omega
            case rel => exact Rd.none o (unhide HOC) (unhide HTo2) (unhide hnn) (by omega)
          case neg =>
          have hez : (2 : Int) ≤ (n : Int) := by omega
          obtain ⟨m, hm⟩ : ∃ m, n - 2 = m := ⟨_, rfl⟩
          go_wp2
          go_roundg g'
          case measure => omega
          case rel => exact Rd.ext (unhide HOC) (unhide HTo2) (by have := unhide HN; omega) (by omega)
      case neg =>
      by_cases s3 : SZ = 3
      case pos =>
        subst s3
        have hSZz : (X : Int) % 8 = 3 := by omega
        have HL2 : Hid (ANS = if n < 3 ∨ (t.get! 1).toNat < LO ∨ HI < (t.get! 1).toNat ∨ (t.get! 2).toNat < 128 ∨ 191 < (t.get! 2).toNat then false else Lib.validD (t.data.toList.drop 3)) := by
          show _ = _
          have := unhide HLead
          simp only [Lib.checkN, Nat.reduceEqDiff, if_true, if_false] at this
          rw [this]
          split
          · rename_i h; split at h <;> first | (split <;> first | rfl | (exfalso; omega)) | cases h
          · rename_i h; split at h <;> first | (split <;> first | (exfalso; omega) | (cases h; rfl)) | cases h
        obtain ⟨x1, hx1⟩ : ∃ x1, t.get! 1 = x1 := ⟨_, rfl⟩
        obtain ⟨x2, hx2⟩ : ∃ x2, t.get! 2 = x2 := ⟨_, rfl⟩
        obtain ⟨x3, hx3⟩ : ∃ x3, t.get! 3 = x3 := ⟨_, rfl⟩
        rw [hx1, hx2] at HL2
        have l1 := x1.toNat_lt
        have l2 := x2.toNat_lt
        have l3 := x3.toNat_lt
        have KC : Hid (∀ W, Only (fun _ => False) wr W → (1 < n → W.cell? ⟨b, o + 1, none⟩ = some (.int .u8 x1.toNat)) ∧ (2 < n → W.cell? ⟨b, o + 2, none⟩ = some (.int .u8 x2.toNat)) ∧ (3 < n → W.cell? ⟨b, o + 3, none⟩ = some (.int .u8 x3.toNat))) := fun W hW => by
          have hnn := unhide HN
          exact ⟨fun h => by rw [← hx1]; exact unhide HK 1 (by omega) W hW, fun h => by rw [← hx2]; exact unhide HK 2 (by omega) W hW, fun h => by rw [← hx3]; exact unhide HK 3 (by omega) W hW⟩
        clear HLead HK hx0 hx1 hx2 hx3
        go_upto_region 22 with fail
        go_cut [138] from 108 to 138 (fun c wx => c = .bool (decide (n < 3 ∨ x1.toNat < LO ∨ HI < x1.toNat ∨ x2.toNat < 128 ∨ 191 < x2.toNat)) ∧ Only (fun _ => False) w wx)
        case first =>
          have hb := heap_alloc_new wr (.cells #[.int .u8 LO, .int .u8 HI] 117)
          obtain ⟨v0, v1⟩ := cells_of2 hb
          have oW : Only (fun _ => False) wr (wr.alloc (.cells #[.int .u8 LO, .int .u8 HI] 117)) := (Only.refl _ _).alloc _
          have HOW := hide ((unhide HO).trans oW (fun _ _ e => e))
          obtain ⟨k1, k2, k3⟩ := unhide KC _ oW
          have HK1 := hide k1
          have HK2 := hide k2
          have HK3 := hide k3
          clear hb oW KC k1 k2 k3 hf0 ha0 ha1 k0
          generalize wr.alloc (.cells #[.int .u8 LO, .int .u8 HI] 117) = W at *
          by_cases q0 : n < 3
          case pos =>
            have q0z : ((n : Nat) : Int) < (3 : Int) := by omega
            have HA : Hid (Value.bool true = Value.bool (decide (n < 3 ∨ x1.toNat < LO ∨ HI < x1.toNat ∨ x2.toNat < 128 ∨ 191 < x2.toNat))) := congrArg Value.bool (decide_eq_true (p := n < 3 ∨ x1.toNat < LO ∨ HI < x1.toNat ∨ x2.toNat < 128 ∨ 191 < x2.toNat) (by omega)).symm
            clear q0
            go_quiet ((fail))
            go_wp2
            go_meet
            exact ⟨unhide HA, drewN_only (unhide HOW) _⟩
          case neg =>
          have q0z : ¬ ((n : Nat) : Int) < (3 : Int) := by omega
          have k1 := unhide HK1 (by omega)
          have hz1 : (1 : Int) < (n : Int) := by omega
          have k2 := unhide HK2 (by omega)
          have hz2 : (2 : Int) < (n : Int) := by omega
          by_cases q1 : x1.toNat < LO
          case pos =>
            have q1z : ((x1.toNat : Nat) : Int) < ((LO : Nat) : Int) := by omega
            have HA : Hid (Value.bool true = Value.bool (decide (n < 3 ∨ x1.toNat < LO ∨ HI < x1.toNat ∨ x2.toNat < 128 ∨ 191 < x2.toNat))) := congrArg Value.bool (decide_eq_true (p := n < 3 ∨ x1.toNat < LO ∨ HI < x1.toNat ∨ x2.toNat < 128 ∨ 191 < x2.toNat) (by omega)).symm
            clear q0 q1
            go_quiet ((fail))
            go_wp2
            go_meet
            exact ⟨unhide HA, drewN_only (unhide HOW) _⟩
          case neg =>
          have q1z : ¬ ((x1.toNat : Nat) : Int) < ((LO : Nat) : Int) := by omega
          by_cases q2 : HI < x1.toNat
          case pos =>
            have q2z : ((HI : Nat) : Int) < ((x1.toNat : Nat) : Int) := by omega
            have HA : Hid (Value.bool true = Value.bool (decide (n < 3 ∨ x1.toNat < LO ∨ HI < x1.toNat ∨ x2.toNat < 128 ∨ 191 < x2.toNat))) := congrArg Value.bool (decide_eq_true (p := n < 3 ∨ x1.toNat < LO ∨ HI < x1.toNat ∨ x2.toNat < 128 ∨ 191 < x2.toNat) (by omega)).symm
            clear q0 q1 q2
            go_quiet ((fail))
            go_wp2
            go_meet
            exact ⟨unhide HA, drewN_only (unhide HOW) _⟩
          case neg =>
          have q2z : ¬ ((HI : Nat) : Int) < ((x1.toNat : Nat) : Int) := by omega
          by_cases q3 : x2.toNat < 128
          case pos =>
            have q3z : ((x2.toNat : Nat) : Int) < (128 : Int) := by omega
            have HA : Hid (Value.bool true = Value.bool (decide (n < 3 ∨ x1.toNat < LO ∨ HI < x1.toNat ∨ x2.toNat < 128 ∨ 191 < x2.toNat))) := congrArg Value.bool (decide_eq_true (p := n < 3 ∨ x1.toNat < LO ∨ HI < x1.toNat ∨ x2.toNat < 128 ∨ 191 < x2.toNat) (by omega)).symm
            clear q0 q1 q2 q3
            go_quiet ((fail))
            go_wp2
            go_meet
            exact ⟨unhide HA, drewN_only (unhide HOW) _⟩
          case neg =>
          have q3z : ¬ ((x2.toNat : Nat) : Int) < (128 : Int) := by omega
          by_cases q4 : 191 < x2.toNat
          case pos =>
            have q4z : (191 : Int) < ((x2.toNat : Nat) : Int) := by omega
            have HA : Hid (Value.bool true = Value.bool (decide (n < 3 ∨ x1.toNat < LO ∨ HI < x1.toNat ∨ x2.toNat < 128 ∨ 191 < x2.toNat))) := congrArg Value.bool (decide_eq_true (p := n < 3 ∨ x1.toNat < LO ∨ HI < x1.toNat ∨ x2.toNat < 128 ∨ 191 < x2.toNat) (by omega)).symm
            clear q0 q1 q2 q3 q4
            go_quiet ((fail))
            go_wp2
            go_meet
            exact ⟨unhide HA, drewN_only (unhide HOW) _⟩
          case neg =>
          have q4z : ¬ (191 : Int) < ((x2.toNat : Nat) : Int) := by omega
          have HA : Hid (Value.bool false = Value.bool (decide (n < 3 ∨ x1.toNat < LO ∨ HI < x1.toNat ∨ x2.toNat < 128 ∨ 191 < x2.toNat))) := congrArg Value.bool (decide_eq_false (p := n < 3 ∨ x1.toNat < LO ∨ HI < x1.toNat ∨ x2.toNat < 128 ∨ 191 < x2.toNat) (by omega)).symm
          clear q0 q1 q2 q3 q4
          go_quiet ((fail))
          go_wp2
          go_meet
          exact ⟨unhide HA, drewN_only (unhide HOW) _⟩
        case rest =>
          obtain ⟨rfl, hoc⟩ := hcut
          have HOC := hide hoc
          clear hoc KC k0 hf0 ha0 ha1
          by_cases hb : n < 3 ∨ x1.toNat < LO ∨ HI < x1.toNat ∨ x2.toNat < 128 ∨ 191 < x2.toNat
          case pos =>
            have hA := unhide HL2
            rw [if_pos hb] at hA
            have HA := hide hA
            rw [decide_eq_true hb]
            clear hA hb HL2
            go_wp2
            go_ret
            rw [unhide HA]
            exact ⟨rfl, unhide HOC⟩
          case neg =>
          have hA := unhide HL2
          rw [if_neg hb] at hA
          have HTo2 := hide (unhide HV 3 hA.symm)
          rw [decide_eq_false hb]
          have hn2 : 3 ≤ n := by omega
          clear hA hb HL2 HV
          by_cases he : n = 3
          case pos =>
            subst he
            have hnn := HN
            clear hn2 hzz
            go_wp2
            go_roundg g'
            case measure => omega
            case rel => exact Rd.none o (unhide HOC) (unhide HTo2) (unhide hnn) (by omega)
          case neg =>
          have hez : (3 : Int) ≤ (n : Int) := by omega
          obtain ⟨m, hm⟩ : ∃ m, n - 3 = m := ⟨_, rfl⟩
          go_wp2
          go_roundg g'
          case measure => omega
          case rel => exact Rd.ext (unhide HOC) (unhide HTo2) (by have := unhide HN; omega) (by omega)
      case neg =>
      by_cases s4 : SZ = 4
      case pos =>
        subst s4
        have hSZz : (X : Int) % 8 = 4 := by omega
        have HL2 : Hid (ANS = if n < 4 ∨ (t.get! 1).toNat < LO ∨ HI < (t.get! 1).toNat ∨ (t.get! 2).toNat < 128 ∨ 191 < (t.get! 2).toNat ∨ (t.get! 3).toNat < 128 ∨ 191 < (t.get! 3).toNat then false else Lib.validD (t.data.toList.drop 4)) := by
          show _ = _
          have := unhide HLead
          simp only [Lib.checkN, Nat.reduceEqDiff, if_true, if_false] at this
          rw [this]
          split
          · rename_i h; split at h <;> first | (split <;> first | rfl | (exfalso; omega)) | cases h
          · rename_i h; split at h <;> first | (split <;> first | (exfalso; omega) | (cases h; rfl)) | cases h
        obtain ⟨x1, hx1⟩ : ∃ x1, t.get! 1 = x1 := ⟨_, rfl⟩
        obtain ⟨x2, hx2⟩ : ∃ x2, t.get! 2 = x2 := ⟨_, rfl⟩
        obtain ⟨x3, hx3⟩ : ∃ x3, t.get! 3 = x3 := ⟨_, rfl⟩
        rw [hx1, hx2, hx3] at HL2
        have l1 := x1.toNat_lt
        have l2 := x2.toNat_lt
        have l3 := x3.toNat_lt
        have KC : Hid (∀ W, Only (fun _ => False) wr W → (1 < n → W.cell? ⟨b, o + 1, none⟩ = some (.int .u8 x1.toNat)) ∧ (2 < n → W.cell? ⟨b, o + 2, none⟩ = some (.int .u8 x2.toNat)) ∧ (3 < n → W.cell? ⟨b, o + 3, none⟩ = some (.int .u8 x3.toNat))) := fun W hW => by
          have hnn := unhide HN
          exact ⟨fun h => by rw [← hx1]; exact unhide HK 1 (by omega) W hW, fun h => by rw [← hx2]; exact unhide HK 2 (by omega) W hW, fun h => by rw [← hx3]; exact unhide HK 3 (by omega) W hW⟩
        clear HLead HK hx0 hx1 hx2 hx3
        go_upto_region 26 with fail
        go_cut [185] from 143 to 185 (fun c wx => c = .bool (decide (n < 4 ∨ x1.toNat < LO ∨ HI < x1.toNat ∨ x2.toNat < 128 ∨ 191 < x2.toNat ∨ x3.toNat < 128 ∨ 191 < x3.toNat)) ∧ Only (fun _ => False) w wx)
        case first =>
          have hb := heap_alloc_new wr (.cells #[.int .u8 LO, .int .u8 HI] 117)
          obtain ⟨v0, v1⟩ := cells_of2 hb
          have oW : Only (fun _ => False) wr (wr.alloc (.cells #[.int .u8 LO, .int .u8 HI] 117)) := (Only.refl _ _).alloc _
          have HOW := hide ((unhide HO).trans oW (fun _ _ e => e))
          obtain ⟨k1, k2, k3⟩ := unhide KC _ oW
          have HK1 := hide k1
          have HK2 := hide k2
          have HK3 := hide k3
          clear hb oW KC k1 k2 k3 hf0 ha0 ha1 k0
          generalize wr.alloc (.cells #[.int .u8 LO, .int .u8 HI] 117) = W at *
          by_cases q0 : n < 4
          case pos =>
            have q0z : ((n : Nat) : Int) < (4 : Int) := by omega
            have HA : Hid (Value.bool true = Value.bool (decide (n < 4 ∨ x1.toNat < LO ∨ HI < x1.toNat ∨ x2.toNat < 128 ∨ 191 < x2.toNat ∨ x3.toNat < 128 ∨ 191 < x3.toNat))) := congrArg Value.bool (decide_eq_true (p := n < 4 ∨ x1.toNat < LO ∨ HI < x1.toNat ∨ x2.toNat < 128 ∨ 191 < x2.toNat ∨ x3.toNat < 128 ∨ 191 < x3.toNat) (by omega)).symm
            clear q0
            go_quiet ((fail))
            go_wp2
            go_meet
            exact ⟨unhide HA, drewN_only (unhide HOW) _⟩
          case neg =>
          have q0z : ¬ ((n : Nat) : Int) < (4 : Int) := by omega
          have k1 := unhide HK1 (by omega)
          have hz1 : (1 : Int) < (n : Int) := by omega
          have k2 := unhide HK2 (by omega)
          have hz2 : (2 : Int) < (n : Int) := by omega
          have k3 := unhide HK3 (by omega)
          have hz3 : (3 : Int) < (n : Int) := by omega
          by_cases q1 : x1.toNat < LO
          case pos =>
            have q1z : ((x1.toNat : Nat) : Int) < ((LO : Nat) : Int) := by omega
            have HA : Hid (Value.bool true = Value.bool (decide (n < 4 ∨ x1.toNat < LO ∨ HI < x1.toNat ∨ x2.toNat < 128 ∨ 191 < x2.toNat ∨ x3.toNat < 128 ∨ 191 < x3.toNat))) := congrArg Value.bool (decide_eq_true (p := n < 4 ∨ x1.toNat < LO ∨ HI < x1.toNat ∨ x2.toNat < 128 ∨ 191 < x2.toNat ∨ x3.toNat < 128 ∨ 191 < x3.toNat) (by omega)).symm
            clear q0 q1
            go_quiet ((fail))
            go_wp2
            go_meet
            exact ⟨unhide HA, drewN_only (unhide HOW) _⟩
          case neg =>
          have q1z : ¬ ((x1.toNat : Nat) : Int) < ((LO : Nat) : Int) := by omega
          by_cases q2 : HI < x1.toNat
          case pos =>
            have q2z : ((HI : Nat) : Int) < ((x1.toNat : Nat) : Int) := by omega
            have HA : Hid (Value.bool true = Value.bool (decide (n < 4 ∨ x1.toNat < LO ∨ HI < x1.toNat ∨ x2.toNat < 128 ∨ 191 < x2.toNat ∨ x3.toNat < 128 ∨ 191 < x3.toNat))) := congrArg Value.bool (decide_eq_true (p := n < 4 ∨ x1.toNat < LO ∨ HI < x1.toNat ∨ x2.toNat < 128 ∨ 191 < x2.toNat ∨ x3.toNat < 128 ∨ 191 < x3.toNat) (by omega)).symm
            clear q0 q1 q2
            go_quiet ((fail))
            go_wp2
            go_meet
            exact ⟨unhide HA, drewN_only (unhide HOW) _⟩
          case neg =>
          have q2z : ¬ ((HI : Nat) : Int) < ((x1.toNat : Nat) : Int) := by omega
          by_cases q3 : x2.toNat < 128
          case pos =>
            have q3z : ((x2.toNat : Nat) : Int) < (128 : Int) := by omega
            have HA : Hid (Value.bool true = Value.bool (decide (n < 4 ∨ x1.toNat < LO ∨ HI < x1.toNat ∨ x2.toNat < 128 ∨ 191 < x2.toNat ∨ x3.toNat < 128 ∨ 191 < x3.toNat))) := congrArg Value.bool (decide_eq_true (p := n < 4 ∨ x1.toNat < LO ∨ HI < x1.toNat ∨ x2.toNat < 128 ∨ 191 < x2.toNat ∨ x3.toNat < 128 ∨ 191 < x3.toNat) (by omega)).symm
            clear q0 q1 q2 q3
            go_quiet ((fail))
            go_wp2
            go_meet
            exact ⟨unhide HA, drewN_only (unhide HOW) _⟩
          case neg =>
          have q3z : ¬ ((x2.toNat : Nat) : Int) < (128 : Int) := by omega
          by_cases q4 : 191 < x2.toNat
          case pos =>
            have q4z : (191 : Int) < ((x2.toNat : Nat) : Int) := by omega
            have HA : Hid (Value.bool true = Value.bool (decide (n < 4 ∨ x1.toNat < LO ∨ HI < x1.toNat ∨ x2.toNat < 128 ∨ 191 < x2.toNat ∨ x3.toNat < 128 ∨ 191 < x3.toNat))) := congrArg Value.bool (decide_eq_true (p := n < 4 ∨ x1.toNat < LO ∨ HI < x1.toNat ∨ x2.toNat < 128 ∨ 191 < x2.toNat ∨ x3.toNat < 128 ∨ 191 < x3.toNat) (by omega)).symm
            clear q0 q1 q2 q3 q4
            go_quiet ((fail))
            go_wp2
            go_meet
            exact ⟨unhide HA, drewN_only (unhide HOW) _⟩
          case neg =>
          have q4z : ¬ (191 : Int) < ((x2.toNat : Nat) : Int) := by omega
          by_cases q5 : x3.toNat < 128
          case pos =>
            have q5z : ((x3.toNat : Nat) : Int) < (128 : Int) := by omega
            have HA : Hid (Value.bool true = Value.bool (decide (n < 4 ∨ x1.toNat < LO ∨ HI < x1.toNat ∨ x2.toNat < 128 ∨ 191 < x2.toNat ∨ x3.toNat < 128 ∨ 191 < x3.toNat))) := congrArg Value.bool (decide_eq_true (p := n < 4 ∨ x1.toNat < LO ∨ HI < x1.toNat ∨ x2.toNat < 128 ∨ 191 < x2.toNat ∨ x3.toNat < 128 ∨ 191 < x3.toNat) (by omega)).symm
            clear q0 q1 q2 q3 q4 q5
            go_quiet ((fail))
            go_wp2
            go_meet
            exact ⟨unhide HA, drewN_only (unhide HOW) _⟩
          case neg =>
          have q5z : ¬ ((x3.toNat : Nat) : Int) < (128 : Int) := by omega
          by_cases q6 : 191 < x3.toNat
          case pos =>
            have q6z : (191 : Int) < ((x3.toNat : Nat) : Int) := by omega
            have HA : Hid (Value.bool true = Value.bool (decide (n < 4 ∨ x1.toNat < LO ∨ HI < x1.toNat ∨ x2.toNat < 128 ∨ 191 < x2.toNat ∨ x3.toNat < 128 ∨ 191 < x3.toNat))) := congrArg Value.bool (decide_eq_true (p := n < 4 ∨ x1.toNat < LO ∨ HI < x1.toNat ∨ x2.toNat < 128 ∨ 191 < x2.toNat ∨ x3.toNat < 128 ∨ 191 < x3.toNat) (by omega)).symm
            clear q0 q1 q2 q3 q4 q5 q6
            go_quiet ((fail))
            go_wp2
            go_meet
            exact ⟨unhide HA, drewN_only (unhide HOW) _⟩
          case neg =>
          have q6z : ¬ (191 : Int) < ((x3.toNat : Nat) : Int) := by omega
          have HA : Hid (Value.bool false = Value.bool (decide (n < 4 ∨ x1.toNat < LO ∨ HI < x1.toNat ∨ x2.toNat < 128 ∨ 191 < x2.toNat ∨ x3.toNat < 128 ∨ 191 < x3.toNat))) := congrArg Value.bool (decide_eq_false (p := n < 4 ∨ x1.toNat < LO ∨ HI < x1.toNat ∨ x2.toNat < 128 ∨ 191 < x2.toNat ∨ x3.toNat < 128 ∨ 191 < x3.toNat) (by omega)).symm
          clear q0 q1 q2 q3 q4 q5 q6
          go_quiet ((fail))
          go_wp2
          go_meet
          exact ⟨unhide HA, drewN_only (unhide HOW) _⟩
        case rest =>
          obtain ⟨rfl, hoc⟩ := hcut
          have HOC := hide hoc
          clear hoc KC k0 hf0 ha0 ha1
          by_cases hb : n < 4 ∨ x1.toNat < LO ∨ HI < x1.toNat ∨ x2.toNat < 128 ∨ 191 < x2.toNat ∨ x3.toNat < 128 ∨ 191 < x3.toNat
          case pos =>
            have hA := unhide HL2
            rw [if_pos hb] at hA
            have HA := hide hA
            rw [decide_eq_true hb]
            clear hA hb HL2
            go_wp2
            go_ret
            rw [unhide HA]
            exact ⟨rfl, unhide HOC⟩
          case neg =>
          have hA := unhide HL2
          rw [if_neg hb] at hA
          have HTo2 := hide (unhide HV 4 hA.symm)
          rw [decide_eq_false hb]
          have hn2 : 4 ≤ n := by omega
          clear hA hb HL2 HV
          by_cases he : n = 4
          case pos =>
            subst he
            have hnn := HN
            clear hn2 hzz
            go_wp2
            go_roundg g'
            case measure => omega
            case rel => exact Rd.none o (unhide HOC) (unhide HTo2) (unhide hnn) (by omega)
          case neg =>
          have hez : (4 : Int) ≤ (n : Int) := by omega
          obtain ⟨m, hm⟩ : ∃ m, n - 4 = m := ⟨_, rfl⟩
          go_wp2
          go_roundg g'
          case measure => omega
          case rel => exact Rd.ext (unhide HOC) (unhide HTo2) (by have := unhide HN; omega) (by omega)
      case neg =>
      have HA : Hid (ANS = false) := by
        show _ = _
        have := unhide HLead
        simp only [Lib.checkN, s2, s3, s4, if_false] at this
        exact this
      have e2b : (((X : Int) % 8) == 2) = false := by rw [beq_eq_false_iff_ne]; omega
      have e3b : (((X : Int) % 8) == 3) = false := by rw [beq_eq_false_iff_ne]; omega
      have e4b : (((X : Int) % 8) == 4) = false := by rw [beq_eq_false_iff_ne]; omega
      have HOW := hide ((unhide HO).trans ((Only.refl (fun _ => False) wr).alloc (.cells #[.int .u8 LO, .int .u8 HI] 117)) (fun _ _ e => e))
      clear HLead HK HV s2 s3 s4 hSZ
      go_wp2
      go_ret
      rw [unhide HA]
      exact ⟨rfl, unhide HOW⟩
end U8
end Go.Proofs.YtedmfjnmclbkpaaDoor
