/-
  locksmithlaw8.key; AesBack.
-/
import Derived.Test.YtohibdbfjaahdaaAeBackS
import Derived.Test.YtohibdbfjaahdaaAeSeal
import Derived.Test.YtohibdbfjaahdaaAeOpen
import Derived.Test.YtohibdbfjaahdaaHandPick
import Derived.Stop.BytesEq
namespace Go.Proofs.Ytohibdbfjaahdaa
open Go.RowKit
set_option linter.unusedSimpArgs false
set_option linter.unusedVariables false
namespace Ae

theorem Try.under32 : Try.prog.underlying 22 = some (.array 32 5) := by kernel_rfl
theorem Try.size32 : (Try.prog.info? 22).map (·.size) = some 32 := by kernel_rfl

set_option maxHeartbeats 1000000 in
theorem key_any (k : List UInt8) (hk : k.length = 32) (n : Int) (L : Nat) (hn : 16 + 8 * (n % 3) = (L : Int)) (w : World) :
    Calls Try.prog 16 #[.agg (k.map bv).toArray, .int .i64 n] w fun e w' => ∃ a cap, e = .returned (.slice (some a) L cap) ∧ Has w' (.slice (some a) L cap) (k.take L) ∧ Only (fun _ => False) w w' := by
  have h0 := Int.emod_nonneg n (show (3 : Int) ≠ 0 by decide)
  have h3 := Int.emod_lt_of_pos n (show (0 : Int) < 3 by decide)
  have hL : L ≤ 32 := by omega
  have hL1 : 16 ≤ L := by omega
  obtain ⟨r, hr⟩ : ∃ r : Nat, n % 3 = (r : Int) := ⟨(n % 3).toNat, by omega⟩
  have hr2 : r ≤ 2 := by omega
  have hLr : 16 + 8 * (r : Int) = (L : Int) := by omega
  have HP := hide (pick_any n 3 (((w.alloc (.cells (k.map bv).toArray 22))).alloc (.cells #[] 5)) (by decide) (by decide))
  rw [hr] at HP
  have hA := (Arr.new w 22 k _ rfl).alloc (.cells #[] 5)
  have hHas : Has ((w.alloc (.cells (k.map bv).toArray 22)).alloc (.cells #[] 5)) (.slice (some ⟨w.heap.size, 0, none⟩) L 32) (k.take L) := by
    refine Or.inr ⟨⟨w.heap.size, 0, none⟩, 32, by rw [List.length_take, Nat.min_eq_left (by omega)], fun _ => rfl, by rw [List.length_take]; omega, by unfold maxLen; omega, fun _ => hA.lt, fun j hj => ?_⟩
    have hj2 : j < k.length := by rw [List.length_take] at hj; omega
    rw [Nat.zero_add, hA.cell j k[j] (by simp [hj2])]
    simp [bv]
  have hown : ((w.alloc (.cells (k.map bv).toArray 22)).alloc (.cells #[] 5)).ownsRow (w.heap.size + 1) 5 1 (.slice (some ⟨w.heap.size + 1, 0, none⟩) 0 0) 0 [] := by
    have h := World.ownsRow_lit (w.alloc (.cells (k.map bv).toArray 22)) #[] 0 (base := w.heap.size + 1) (e := 5) (size := 1) (by simp) (Nat.zero_le _) rfl
    rw [World.size_alloc] at h
    exact h
  have HH := hide hHas
  have HO := hide hown
  have hlt : (k.take L).length = L := by rw [List.length_take]; omega
  have HLT := hide hlt
  clear hA hHas hown hn hr h0 h3 hlt
  obtain ⟨i0, hi, hz0, hz1, hz2⟩ := info_parts Try.info5
  go_enter Try.func16, Try.ntmps16
  go_wp2_with fail
  refine (unhide HP).mono ?_
  rintro e w1 ⟨rfl, hw1⟩
  rw [hw1]
  clear hw1 w1
  have hL32 : (L : Int) ≤ 32 := by omega
  have hb1 : 0 + (k.take L).length ≤ 140737488355328 := by have := unhide HLT; omega
  have hb2 : w.heap.size + 1 ≤ ((w.alloc (.cells (k.map bv).toArray 22)).alloc (.cells #[] 5)).heap.size := by simp
  go_wp2_with (at_builtin; refine wpList_append_has rfl (.tmp 5) (.tmp 10) 28 rfl (w.heap.size + 1) 5 i0 Try.underlying28 hi hz0 hz1 hz2 _ 0 [] rfl (unhide HO) _ (k.take L) rfl (unhide HH) hb1 hb2 ?_; intro ao2 cap2 w2 own2 gr2 at2)
  go_ret
  have hlt := unhide HLT
  have h0 : w2.ownsRow (w.heap.size + 1) 5 1 (.slice ao2 L cap2) L ((k.take L).map bv) := by
    have h := own2
    rw [hlt, Nat.zero_add] at h
    exact h
  obtain ⟨g, cap3, e3⟩ : ∃ g cap3, Value.slice ao2 L cap2 = .slice (some ⟨g, 0, none⟩) L cap3 := by
    have h := h0
    rw [show L = (L - 1) + 1 by omega] at h ⊢
    exact ownsRow_succ h
  rw [e3] at h0
  have hh := Has.ofOwns h0
  refine ⟨⟨g, 0, none⟩, cap3, ?_, hh, ?_⟩
  · rw [← e3]; rfl
  · exact (((Only.refl _ w).alloc _).alloc _).grown gr2 (fun j hj hl => by have h2 : some (w.heap.size + 1) = some j := hj; simp at h2; omega)

theorem eql_blk (x y : List UInt8) (hx : x.length = 16) (hy : y.length = 16) (w : World) : (binOp .eql 23 (.agg (x.map bv).toArray) (.agg (y.map bv).toArray)).run Try.prog w = .ok (.bool (x == y)) w :=
  run_eql_bytes w 23 5 16 Try.under16 Try.underlying5 (fun w => by obtain ⟨i0, hi0, hz0, hz1, hz2⟩ := info_parts Try.info5; simp [sizeOf, typeInfo, hi0, hz1]) x y hx hy

theorem exec_eql {P : Program} {o : Oper} {a : Act} {w : World} (t t2 : TypeId) (x y : Operand) (ho : o.op = .binOp .eql t x y t2) (vx vy v : Value) (hx : a.eval x = vx) (hy : a.eval y = vy) (hr : (binOp .eql t vx vy).run P w = .ok v w) (hg : (eqGuard .eql t x y vx vy).run P w = .ok () w := by rfl) : (execOp a.eval o).run P w = .ok (.value v) w := by
  unfold execOp
  simp only [ho, hx, hy]
  simp [hr, hg, Result.andThen]

theorem seal_inj (bs : List UInt8) (m : Nat) (hm : 2 ≤ m) (hl : bs.length = 16 * m) (a b : List UInt8) (ha : a.length = 16) (hb : b.length = 16) : (sealT bs m a m == sealT bs m b m) = (a == b) := by
  have h1 := open_seal bs m hm hl a ha m (Nat.le_refl _)
  have h2 := open_seal bs m hm hl b hb m (Nat.le_refl _)
  rw [Nat.sub_self] at h1 h2
  have e1 : openT bs m (sealT bs m a m) m = a := h1
  have e2 : openT bs m (sealT bs m b m) m = b := h2
  by_cases h : a = b
  · subst h; simp
  · have hn : ¬ sealT bs m a m = sealT bs m b m := fun e => h (by rw [← e1, ← e2, e])
    rw [show (sealT bs m a m == sealT bs m b m) = false by simpa using hn, show (a == b) = false by simpa using h]

set_option maxRecDepth 100000 in
set_option maxHeartbeats 4000000 in
theorem back_one (L N m nn : Nat) (hL : L = 16 ∨ L = 24 ∨ L = 32) (hm : m = L / 4 + 7) (hN : L + 4 * N = 16 * m) (hmn : m = nn + 2) (HM : Hid (MulAs nn)) (HG : Hid (GrowAs m)) (k a b : List UInt8) (hk : k.length = 32) (ha : a.length = 16) (hb : b.length = 16) (n : Int) (hn : 16 + 8 * (n % 3) = (L : Int)) (w : World) :
    Calls Try.prog 6 #[.agg (k.map bv).toArray, .int .i64 n, .agg (a.map bv).toArray, .agg (b.map bv).toArray] w fun e w' => e = .returned (.bool true) ∧ Only (fun _ => False) w w' := by
  have hkl : (k.take L).length = L := by rw [List.length_take]; omega
  obtain ⟨bs, hbs⟩ : ∃ bs, bs = (expd L (k.take L) N).1 := ⟨_, rfl⟩
  have hbl : bs.length = 16 * m := by rw [hbs, expd_length L _ hkl, hN]
  have hnn : 1 ≤ nn ∧ nn ≤ 20 := by omega
  have KEY := hide (key_any k hk n L hn)
  have NEW := hide (fun a cap w hx => new_any L N m hL hm hN a cap (k.take L) hkl w hx)
  rw [← hbs] at NEW
  have SEAL := hide (fun cb s hs w hc => seal_any cb m nn bs s hmn hnn.1 hnn.2 HM HG hs w hc)
  have OPEN := hide (fun cb s hs w hc => open_any cb m nn bs s hmn hnn.1 hnn.2 HM HG hs w hc)
  have hos : openT bs m (sealT bs m a m) m = a := by have h := open_seal bs m (by omega) hbl a ha m (Nat.le_refl _); rw [Nat.sub_self] at h; exact h
  have hso : sealT bs m (openT bs m a m) m = a := by have h := seal_open bs m (by omega) hbl a ha m (Nat.le_refl _); rw [Nat.sub_self] at h; exact h
  have hinj := seal_inj bs m (by omega) hbl a b ha hb
  have lsa := sealT_length bs m hbl a ha m (Nat.le_refl _)
  have lsb := sealT_length bs m hbl b hb m (Nat.le_refl _)
  have loa := openT_length bs m hbl a ha m (Nat.le_refl _)
  have S1 : Hid (∀ cb w, Cip w cb m bs → Calls Try.prog 9 #[.pointer (some ⟨cb, 0, none⟩), .agg (a.map bv).toArray] w fun e w' => e = .returned (.agg ((sealT bs m a m).map bv).toArray) ∧ Only (fun _ => False) w w') := fun cb w hc => unhide SEAL cb a ha w hc
  have S2 : Hid (∀ cb w, Cip w cb m bs → Calls Try.prog 10 #[.pointer (some ⟨cb, 0, none⟩), .agg ((sealT bs m a m).map bv).toArray] w fun e w' => e = .returned (.agg (a.map bv).toArray) ∧ Only (fun _ => False) w w') := fun cb w hc => by have h := unhide OPEN cb _ lsa w hc; rw [hos] at h; exact h
  have S3 : Hid (∀ cb w, Cip w cb m bs → Calls Try.prog 10 #[.pointer (some ⟨cb, 0, none⟩), .agg (a.map bv).toArray] w fun e w' => e = .returned (.agg ((openT bs m a m).map bv).toArray) ∧ Only (fun _ => False) w w') := fun cb w hc => unhide OPEN cb a ha w hc
  have S4 : Hid (∀ cb w, Cip w cb m bs → Calls Try.prog 9 #[.pointer (some ⟨cb, 0, none⟩), .agg ((openT bs m a m).map bv).toArray] w fun e w' => e = .returned (.agg (a.map bv).toArray) ∧ Only (fun _ => False) w w') := fun cb w hc => by have h := unhide SEAL cb _ loa w hc; rw [hso] at h; exact h
  have S5 : Hid (∀ cb w, Cip w cb m bs → Calls Try.prog 9 #[.pointer (some ⟨cb, 0, none⟩), .agg (b.map bv).toArray] w fun e w' => e = .returned (.agg ((sealT bs m b m).map bv).toArray) ∧ Only (fun _ => False) w w') := fun cb w hc => unhide SEAL cb b hb w hc
  have EQ1 : ∀ W, (binOp .eql 23 (.agg (a.map bv).toArray) (.agg (a.map bv).toArray)).run Try.prog W = .ok (.bool true) W := fun W => by rw [eql_blk a a ha ha]; simp
  have EQ2 : ∀ W, (binOp .eql 23 (.agg ((sealT bs m a m).map bv).toArray) (.agg ((sealT bs m b m).map bv).toArray)).run Try.prog W = .ok (.bool (a == b)) W := fun W => by rw [eql_blk _ _ lsa lsb, hinj]
  have EQ3 : ∀ W, (binOp .eql 23 (.agg (a.map bv).toArray) (.agg (b.map bv).toArray)).run Try.prog W = .ok (.bool (a == b)) W := fun W => eql_blk a b ha hb W
  have e1 := hide EQ1
  have e2 := hide EQ2
  have e3 := hide EQ3
  clear SEAL OPEN hos hso hinj lsa lsb loa hbs hbl hnn EQ1 EQ2 EQ3 hm hN hmn hL HM HG hn
  generalize sealT bs m a m = SA at *
  generalize sealT bs m b m = SB at *
  generalize openT bs m a m = OA at *
  generalize (a == b) = q at *
  obtain ⟨w3, b1, b2, b3, e3w, eb3, eb2, eb1, a1, a2, a3, o3, n12, n13, n23, hbb⟩ := three w k a b 22 23 23
  go_enter Try.func6, Try.ntmps6
  go_upto_region 1 with fail
  rw [← e3w, ← eb3, ← eb2, ← eb1]
  clear e3w eb3 eb2 eb1 n12 n13 n23 hbb
  have hr1 := a1.range
  have R2 := hide a2.range
  have R3 := hide a3.range
  have O3 := hide o3
  clear a1 a2 a3 o3
  go_wp2_with (refine wpList_load_mid rfl 22 (.tmp 4) rfl b1 0 rfl (k.map bv) _ hr1 Try.under32 rfl (by rw [Try.size32]; simp [hk]) ?_)
  clear hr1
  refine (unhide KEY w3).mono ?_
  rintro e w4 ⟨ad, cap, rfl, hh4, o4⟩
  have O4 := hide ((unhide O3).trans o4 (fun _ _ e => e))
  have O34 := hide o4
  have HH4 := hide hh4
  clear hh4 o4 KEY
  go_wp2_with fail
  refine (unhide NEW ad cap w4 (unhide HH4)).mono ?_
  rintro e w5 ⟨cb, rfl, hc5, o5⟩
  have O5 := hide ((unhide O4).trans o5 (fun _ _ e => e))
  have O35 := hide ((unhide O34).trans o5 (fun _ _ e => e))
  have HC5 := hide hc5
  clear hc5 o5 NEW HH4 O4 O34
  go_wp2_with (go_at_call 8; refine (known_any _).mono ?_; rintro e w6 ⟨rfl, rfl⟩)
  refine wp_region_held_drew (S := (fun w' => Only (fun _ => False) w6 w')) (by kernel_rfl) ((Only.refl _ _).drew) (fun hHeld => ?_)
  refine wpAnyH_take (i := 0) (v := ?v1) rfl (by kernel_rfl) (by kernel_rfl) (by kernel_rfl) (fun _ _ _ h => h) (Or.inl ⟨by rfl, ?hy1⟩) (by assumption) ?rest1
  case hy1 =>
    intro w hSw
    go_simp
    try with_reducible rfl
  try simp only [Act.put, List.setIfInBounds_toArray, List.set_cons_zero, List.set_cons_succ, List.getElem_toArray, List.getElem_cons_succ, List.getElem_cons_zero]
  refine wpAnyH_take (i := 1) (v := ?v2) rfl (by kernel_rfl) (by kernel_rfl) (by kernel_rfl) (fun _ _ _ h => h) (Or.inl ⟨by rfl, ?hy2⟩) (by assumption) ?rest2
  case hy2 =>
    intro w hSw
    go_simp
    try with_reducible rfl
  try simp only [Act.put, List.setIfInBounds_toArray, List.set_cons_zero, List.set_cons_succ, List.getElem_toArray, List.getElem_cons_succ, List.getElem_cons_zero]
  refine wpAnyH_take (i := 2) (v := ?v3) rfl (by kernel_rfl) (by kernel_rfl) (by kernel_rfl) (fun _ _ _ h => h) (Or.inl ⟨by rfl, ?hy3⟩) (by assumption) ?rest3
  case hy3 =>
    intro w hSw
    (refine exec_load_mid 23 (.tmp 6) ?_ b2 0 ?_ (a.map bv) _ (range_only (range_only (unhide R2) (unhide O35) (fun e => e)) hSw (fun e => e)) Try.under16 rfl (by rw [Try.size16]; simp [ha]) <;> rfl)
  try simp only [Act.put, List.setIfInBounds_toArray, List.set_cons_zero, List.set_cons_succ, List.getElem_toArray, List.getElem_cons_succ, List.getElem_cons_zero]
  refine wpAnyH_take (i := 5) (v := ?v4) rfl (by kernel_rfl) (by kernel_rfl) (by kernel_rfl) (fun _ _ _ h => h) (Or.inl ⟨by rfl, ?hy4⟩) (by assumption) ?rest4
  case hy4 =>
    intro w hSw
    (refine exec_load_mid 23 (.tmp 6) ?_ b2 0 ?_ (a.map bv) _ (range_only (range_only (unhide R2) (unhide O35) (fun e => e)) hSw (fun e => e)) Try.under16 rfl (by rw [Try.size16]; simp [ha]) <;> rfl)
  try simp only [Act.put, List.setIfInBounds_toArray, List.set_cons_zero, List.set_cons_succ, List.getElem_toArray, List.getElem_cons_succ, List.getElem_cons_zero]
  refine wpAnyH_ready (rs := [3]) (by kernel_rfl) (by simp) ?_
  refine AllReadyH.cons rfl (fun K hK => ?_) AllReadyH.nil
  go_simp
  go_wp2_with fail; refine (unhide S1 _ _ ((unhide HC5).new ((Only.refl (fun _ => False) w6).drew))).mono ?_; rintro e x1 ⟨rfl, y1⟩; have Q1 : Hid (Only (fun _ => False) w6 x1) := ((Only.refl (fun _ => False) w6).drew).trans y1 (fun _ _ e => e); clear y1
  refine hK.out _ _ ((unhide Q1)) (fun hHeld => ?_)
  clear hK K
  try simp only [Act.put, List.setIfInBounds_toArray, List.set_cons_zero, List.set_cons_succ, List.getElem_toArray, List.getElem_cons_succ, List.getElem_cons_zero]
  refine wpAnyH_ready (rs := [4]) (by kernel_rfl) (by simp) ?_
  refine AllReadyH.cons rfl (fun K hK => ?_) AllReadyH.nil
  go_simp
  go_wp2_with fail; refine (unhide S2 _ _ ((unhide HC5).new (unhide Q1))).mono ?_; rintro e x2 ⟨rfl, y2⟩; have Q2 : Hid (Only (fun _ => False) w6 x2) := (unhide Q1).trans y2 (fun _ _ e => e); clear y2
  refine hK.out _ _ ((unhide Q2)) (fun hHeld => ?_)
  clear hK K
  try simp only [Act.put, List.setIfInBounds_toArray, List.set_cons_zero, List.set_cons_succ, List.getElem_toArray, List.getElem_cons_succ, List.getElem_cons_zero]
  refine wpAnyH_take (i := 6) (v := ?v5) rfl (by kernel_rfl) (by kernel_rfl) (by kernel_rfl) (fun _ _ _ h => h) (Or.inl ⟨by rfl, ?hy5⟩) (by assumption) ?rest5
  case hy5 =>
    intro w hSw
    (refine exec_eql 23 23 (.tmp 32) (.tmp 33) ?_ (.agg (a.map bv).toArray) (.agg (a.map bv).toArray) (.bool true) ?_ ?_ (unhide e1 _) <;> rfl)
  try simp only [Act.put, List.setIfInBounds_toArray, List.set_cons_zero, List.set_cons_succ, List.getElem_toArray, List.getElem_cons_succ, List.getElem_cons_zero]
  refine wpAnyH_take (i := 7) (v := ?v6) rfl (by kernel_rfl) (by kernel_rfl) (by kernel_rfl) (fun _ _ _ h => h) (Or.inl ⟨by rfl, ?hy6⟩) (by assumption) ?rest6
  case hy6 =>
    intro w hSw
    go_simp
    try with_reducible rfl
  try simp only [Act.put, List.setIfInBounds_toArray, List.set_cons_zero, List.set_cons_succ, List.getElem_toArray, List.getElem_cons_succ, List.getElem_cons_zero]
  refine wpAnyH_take (i := 8) (v := ?v7) rfl (by kernel_rfl) (by kernel_rfl) (by kernel_rfl) (fun _ _ _ h => h) (Or.inl ⟨by rfl, ?hy7⟩) (by assumption) ?rest7
  case hy7 =>
    intro w hSw
    go_simp
    try with_reducible rfl
  try simp only [Act.put, List.setIfInBounds_toArray, List.set_cons_zero, List.set_cons_succ, List.getElem_toArray, List.getElem_cons_succ, List.getElem_cons_zero]
  refine wpAnyH_take (i := 9) (v := ?v8) rfl (by kernel_rfl) (by kernel_rfl) (by kernel_rfl) (fun _ _ _ h => h) (Or.inl ⟨by rfl, ?hy8⟩) (by assumption) ?rest8
  case hy8 =>
    intro w hSw
    go_simp
    try with_reducible rfl
  try simp only [Act.put, List.setIfInBounds_toArray, List.set_cons_zero, List.set_cons_succ, List.getElem_toArray, List.getElem_cons_succ, List.getElem_cons_zero]
  refine wpAnyH_take (i := 10) (v := ?v9) rfl (by kernel_rfl) (by kernel_rfl) (by kernel_rfl) (fun _ _ _ h => h) (Or.inl ⟨by rfl, ?hy9⟩) (by assumption) ?rest9
  case hy9 =>
    intro w hSw
    (refine exec_load_mid 23 (.tmp 6) ?_ b2 0 ?_ (a.map bv) _ (range_only (range_only (unhide R2) (unhide O35) (fun e => e)) hSw (fun e => e)) Try.under16 rfl (by rw [Try.size16]; simp [ha]) <;> rfl)
  try simp only [Act.put, List.setIfInBounds_toArray, List.set_cons_zero, List.set_cons_succ, List.getElem_toArray, List.getElem_cons_succ, List.getElem_cons_zero]
  refine wpAnyH_take (i := 13) (v := ?v10) rfl (by kernel_rfl) (by kernel_rfl) (by kernel_rfl) (fun _ _ _ h => h) (Or.inl ⟨by rfl, ?hy10⟩) (by assumption) ?rest10
  case hy10 =>
    intro w hSw
    (refine exec_load_mid 23 (.tmp 6) ?_ b2 0 ?_ (a.map bv) _ (range_only (range_only (unhide R2) (unhide O35) (fun e => e)) hSw (fun e => e)) Try.under16 rfl (by rw [Try.size16]; simp [ha]) <;> rfl)
  try simp only [Act.put, List.setIfInBounds_toArray, List.set_cons_zero, List.set_cons_succ, List.getElem_toArray, List.getElem_cons_succ, List.getElem_cons_zero]
  refine wpAnyH_ready (rs := [11]) (by kernel_rfl) (by simp) ?_
  refine AllReadyH.cons rfl (fun K hK => ?_) AllReadyH.nil
  go_simp
  go_wp2_with fail; refine (unhide S3 _ _ ((unhide HC5).new (unhide Q2))).mono ?_; rintro e x3 ⟨rfl, y3⟩; have Q3 : Hid (Only (fun _ => False) w6 x3) := (unhide Q2).trans y3 (fun _ _ e => e); clear y3
  refine hK.out _ _ ((unhide Q3)) (fun hHeld => ?_)
  clear hK K
  try simp only [Act.put, List.setIfInBounds_toArray, List.set_cons_zero, List.set_cons_succ, List.getElem_toArray, List.getElem_cons_succ, List.getElem_cons_zero]
  refine wpAnyH_ready (rs := [12]) (by kernel_rfl) (by simp) ?_
  refine AllReadyH.cons rfl (fun K hK => ?_) AllReadyH.nil
  go_simp
  go_wp2_with fail; refine (unhide S4 _ _ ((unhide HC5).new (unhide Q3))).mono ?_; rintro e x4 ⟨rfl, y4⟩; have Q4 : Hid (Only (fun _ => False) w6 x4) := (unhide Q3).trans y4 (fun _ _ e => e); clear y4
  refine hK.out _ _ ((unhide Q4)) (fun hHeld => ?_)
  clear hK K
  try simp only [Act.put, List.setIfInBounds_toArray, List.set_cons_zero, List.set_cons_succ, List.getElem_toArray, List.getElem_cons_succ, List.getElem_cons_zero]
  refine wpAnyH_take (i := 14) (v := ?v11) rfl (by kernel_rfl) (by kernel_rfl) (by kernel_rfl) (fun _ _ _ h => h) (Or.inl ⟨by rfl, ?hy11⟩) (by assumption) ?rest11
  case hy11 =>
    intro w hSw
    (refine exec_eql 23 23 (.tmp 40) (.tmp 41) ?_ (.agg (a.map bv).toArray) (.agg (a.map bv).toArray) (.bool true) ?_ ?_ (unhide e1 _) <;> rfl)
  try simp only [Act.put, List.setIfInBounds_toArray, List.set_cons_zero, List.set_cons_succ, List.getElem_toArray, List.getElem_cons_succ, List.getElem_cons_zero]
  refine wpAnyH_take (i := 15) (v := ?v12) rfl (by kernel_rfl) (by kernel_rfl) (by kernel_rfl) (fun _ _ _ h => h) (Or.inl ⟨by rfl, ?hy12⟩) (by assumption) ?rest12
  case hy12 =>
    intro w hSw
    go_simp
    try with_reducible rfl
  try simp only [Act.put, List.setIfInBounds_toArray, List.set_cons_zero, List.set_cons_succ, List.getElem_toArray, List.getElem_cons_succ, List.getElem_cons_zero]
  refine wpAnyH_take (i := 16) (v := ?v13) rfl (by kernel_rfl) (by kernel_rfl) (by kernel_rfl) (fun _ _ _ h => h) (Or.inl ⟨by rfl, ?hy13⟩) (by assumption) ?rest13
  case hy13 =>
    intro w hSw
    go_simp
    try with_reducible rfl
  try simp only [Act.put, List.setIfInBounds_toArray, List.set_cons_zero, List.set_cons_succ, List.getElem_toArray, List.getElem_cons_succ, List.getElem_cons_zero]
  refine wpAnyH_take (i := 17) (v := ?v14) rfl (by kernel_rfl) (by kernel_rfl) (by kernel_rfl) (fun _ _ _ h => h) (Or.inl ⟨by rfl, ?hy14⟩) (by assumption) ?rest14
  case hy14 =>
    intro w hSw
    go_simp
    try with_reducible rfl
  try simp only [Act.put, List.setIfInBounds_toArray, List.set_cons_zero, List.set_cons_succ, List.getElem_toArray, List.getElem_cons_succ, List.getElem_cons_zero]
  refine wpAnyH_take (i := 18) (v := ?v15) rfl (by kernel_rfl) (by kernel_rfl) (by kernel_rfl) (fun _ _ _ h => h) (Or.inl ⟨by rfl, ?hy15⟩) (by assumption) ?rest15
  case hy15 =>
    intro w hSw
    (refine exec_load_mid 23 (.tmp 6) ?_ b2 0 ?_ (a.map bv) _ (range_only (range_only (unhide R2) (unhide O35) (fun e => e)) hSw (fun e => e)) Try.under16 rfl (by rw [Try.size16]; simp [ha]) <;> rfl)
  try simp only [Act.put, List.setIfInBounds_toArray, List.set_cons_zero, List.set_cons_succ, List.getElem_toArray, List.getElem_cons_succ, List.getElem_cons_zero]
  refine wpAnyH_take (i := 20) (v := ?v16) rfl (by kernel_rfl) (by kernel_rfl) (by kernel_rfl) (fun _ _ _ h => h) (Or.inl ⟨by rfl, ?hy16⟩) (by assumption) ?rest16
  case hy16 =>
    intro w hSw
    go_simp
    try with_reducible rfl
  try simp only [Act.put, List.setIfInBounds_toArray, List.set_cons_zero, List.set_cons_succ, List.getElem_toArray, List.getElem_cons_succ, List.getElem_cons_zero]
  refine wpAnyH_take (i := 21) (v := ?v17) rfl (by kernel_rfl) (by kernel_rfl) (by kernel_rfl) (fun _ _ _ h => h) (Or.inl ⟨by rfl, ?hy17⟩) (by assumption) ?rest17
  case hy17 =>
    intro w hSw
    (refine exec_load_mid 23 (.tmp 7) ?_ b3 0 ?_ (b.map bv) _ (range_only (range_only (unhide R3) (unhide O35) (fun e => e)) hSw (fun e => e)) Try.under16 rfl (by rw [Try.size16]; simp [hb]) <;> rfl)
  try simp only [Act.put, List.setIfInBounds_toArray, List.set_cons_zero, List.set_cons_succ, List.getElem_toArray, List.getElem_cons_succ, List.getElem_cons_zero]
  refine wpAnyH_take (i := 24) (v := ?v18) rfl (by kernel_rfl) (by kernel_rfl) (by kernel_rfl) (fun _ _ _ h => h) (Or.inl ⟨by rfl, ?hy18⟩) (by assumption) ?rest18
  case hy18 =>
    intro w hSw
    (refine exec_load_mid 23 (.tmp 6) ?_ b2 0 ?_ (a.map bv) _ (range_only (range_only (unhide R2) (unhide O35) (fun e => e)) hSw (fun e => e)) Try.under16 rfl (by rw [Try.size16]; simp [ha]) <;> rfl)
  try simp only [Act.put, List.setIfInBounds_toArray, List.set_cons_zero, List.set_cons_succ, List.getElem_toArray, List.getElem_cons_succ, List.getElem_cons_zero]
  refine wpAnyH_take (i := 25) (v := ?v19) rfl (by kernel_rfl) (by kernel_rfl) (by kernel_rfl) (fun _ _ _ h => h) (Or.inl ⟨by rfl, ?hy19⟩) (by assumption) ?rest19
  case hy19 =>
    intro w hSw
    (refine exec_load_mid 23 (.tmp 7) ?_ b3 0 ?_ (b.map bv) _ (range_only (range_only (unhide R3) (unhide O35) (fun e => e)) hSw (fun e => e)) Try.under16 rfl (by rw [Try.size16]; simp [hb]) <;> rfl)
  try simp only [Act.put, List.setIfInBounds_toArray, List.set_cons_zero, List.set_cons_succ, List.getElem_toArray, List.getElem_cons_succ, List.getElem_cons_zero]
  refine wpAnyH_take (i := 26) (v := ?v20) rfl (by kernel_rfl) (by kernel_rfl) (by kernel_rfl) (fun _ _ _ h => h) (Or.inl ⟨by rfl, ?hy20⟩) (by assumption) ?rest20
  case hy20 =>
    intro w hSw
    (refine exec_eql 23 23 (.tmp 52) (.tmp 53) ?_ (.agg (a.map bv).toArray) (.agg (b.map bv).toArray) (.bool q) ?_ ?_ (unhide e3 _) <;> rfl)
  try simp only [Act.put, List.setIfInBounds_toArray, List.set_cons_zero, List.set_cons_succ, List.getElem_toArray, List.getElem_cons_succ, List.getElem_cons_zero]
  refine wpAnyH_ready (rs := [19]) (by kernel_rfl) (by simp) ?_
  refine AllReadyH.cons rfl (fun K hK => ?_) AllReadyH.nil
  go_simp
  go_wp2_with fail; refine (unhide S1 _ _ ((unhide HC5).new (unhide Q4))).mono ?_; rintro e x5 ⟨rfl, y5⟩; have Q5 : Hid (Only (fun _ => False) w6 x5) := (unhide Q4).trans y5 (fun _ _ e => e); clear y5
  refine hK.out _ _ ((unhide Q5)) (fun hHeld => ?_)
  clear hK K
  try simp only [Act.put, List.setIfInBounds_toArray, List.set_cons_zero, List.set_cons_succ, List.getElem_toArray, List.getElem_cons_succ, List.getElem_cons_zero]
  refine wpAnyH_ready (rs := [22]) (by kernel_rfl) (by simp) ?_
  refine AllReadyH.cons rfl (fun K hK => ?_) AllReadyH.nil
  go_simp
  go_wp2_with fail; refine (unhide S5 _ _ ((unhide HC5).new (unhide Q5))).mono ?_; rintro e x6 ⟨rfl, y6⟩; have Q6 : Hid (Only (fun _ => False) w6 x6) := (unhide Q5).trans y6 (fun _ _ e => e); clear y6
  refine hK.out _ _ ((unhide Q6)) (fun hHeld => ?_)
  clear hK K
  try simp only [Act.put, List.setIfInBounds_toArray, List.set_cons_zero, List.set_cons_succ, List.getElem_toArray, List.getElem_cons_succ, List.getElem_cons_zero]
  refine wpAnyH_take (i := 23) (v := ?v21) rfl (by kernel_rfl) (by kernel_rfl) (by kernel_rfl) (fun _ _ _ h => h) (Or.inl ⟨by rfl, ?hy21⟩) (by assumption) ?rest21
  case hy21 =>
    intro w hSw
    (refine exec_eql 23 23 (.tmp 47) (.tmp 50) ?_ (.agg (SA.map bv).toArray) (.agg (SB.map bv).toArray) (.bool q) ?_ ?_ (unhide e2 _) <;> rfl)
  try simp only [Act.put, List.setIfInBounds_toArray, List.set_cons_zero, List.set_cons_succ, List.getElem_toArray, List.getElem_cons_succ, List.getElem_cons_zero]
  refine wpAnyH_take (i := 27) (v := ?v22) rfl (by kernel_rfl) (by kernel_rfl) (by kernel_rfl) (fun _ _ _ h => h) (Or.inl ⟨by rfl, ?hy22⟩) (by assumption) ?rest22
  case hy22 =>
    intro w hSw
    go_simp
    try with_reducible rfl
  try simp only [Act.put, List.setIfInBounds_toArray, List.set_cons_zero, List.set_cons_succ, List.getElem_toArray, List.getElem_cons_succ, List.getElem_cons_zero]
  refine wpAnyH_take (i := 28) (v := ?v23) rfl (by kernel_rfl) (by kernel_rfl) (by kernel_rfl) (fun _ _ _ h => h) (Or.inl ⟨by rfl, ?hy23⟩) (by assumption) ?rest23
  case hy23 =>
    intro w hSw
    go_simp
    try with_reducible rfl
  try simp only [Act.put, List.setIfInBounds_toArray, List.set_cons_zero, List.set_cons_succ, List.getElem_toArray, List.getElem_cons_succ, List.getElem_cons_zero]
  refine wpAnyH_take (i := 29) (v := ?v24) rfl (by kernel_rfl) (by kernel_rfl) (by kernel_rfl) (fun _ _ _ h => h) (Or.inl ⟨by rfl, ?hy24⟩) (by assumption) ?rest24
  case hy24 =>
    intro w hSw
    go_simp
    try with_reducible rfl
  try simp only [Act.put, List.setIfInBounds_toArray, List.set_cons_zero, List.set_cons_succ, List.getElem_toArray, List.getElem_cons_succ, List.getElem_cons_zero]
  refine wpAnyH_done (by kernel_rfl) ?_ _
  go_wp2
  go_ret
  refine ⟨?_, (unhide O5).trans (unhide Q6) (fun _ _ e => e)⟩
  cases q <;> rfl

/-- whatever the key, its length, the blocks -/
theorem back_any (k a b : List UInt8) (hk : k.length = 32) (ha : a.length = 16) (hb : b.length = 16) (n : Int) (w : World) :
    Calls Try.prog 6 #[.agg (k.map bv).toArray, .int .i64 n, .agg (a.map bv).toArray, .agg (b.map bv).toArray] w fun e w' => e = .returned (.bool true) ∧ Only (fun _ => False) w w' := by
  have h0 := Int.emod_nonneg n (show (3 : Int) ≠ 0 by decide)
  have h3 := Int.emod_lt_of_pos n (show (0 : Int) < 3 by decide)
  rcases (show n % 3 = 0 ∨ n % 3 = 1 ∨ n % 3 = 2 by omega) with h | h | h
  · exact back_one 16 40 11 9 (by decide) (by decide) (by decide) (by decide) (hide mul_9) (hide grow_11) k a b hk ha hb n (by rw [h]; rfl) w
  · exact back_one 24 46 13 11 (by decide) (by decide) (by decide) (by decide) (hide mul_11) (hide grow_13) k a b hk ha hb n (by rw [h]; rfl) w
  · exact back_one 32 52 15 13 (by decide) (by decide) (by decide) (by decide) (hide mul_13) (hide grow_15) k a b hk ha hb n (by rw [h]; rfl) w

end Ae
end Go.Proofs.Ytohibdbfjaahdaa
