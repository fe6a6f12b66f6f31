/-
  object.Same: ways of it.
  object.Same: ways of it.
  object.Same: ways of it.
  object.Same: ways of it.
  object.Same: ways of it.
-/
import Derived.Test.YtlcnckmbimmpjaaDoorObEq
namespace Go.Proofs.YtlcnckmbimmpjaaDoor
open Go.RowKit
set_option linter.unusedSimpArgs false
set_option linter.unusedVariables false
namespace Ob

/-- the limits' four parts -/
def limsB (a b : Ob) : Bool := decide (a.lh = b.lh) && decide (a.lt = b.lt) && decide (a.lc = b.lc) && decide (a.lu = b.lu)
end Ob
end Go.Proofs.YtlcnckmbimmpjaaDoor

namespace Go.Proofs.YtlcnckmbimmpjaaDoor
open Go.RowKit
set_option linter.unusedSimpArgs false
set_option linter.unusedVariables false
namespace Ob

set_option maxRecDepth 100000 in
set_option maxHeartbeats 4000000 in
theorem same_0 {a b : Ob} {amv anv alv acv bmv bnv blv bcv : Value} {w : World} (ha : In w a amv anv alv acv) (hb : In w b bmv bnv blv bcv)
     (e0 : ¬ a.id = b.id) :
    Calls Tryd.prog 17 #[val a amv anv alv acv, val b bmv bnv blv bcv] w fun e w' => e = .returned (.bool false) ∧ Only (fun _ => False) w w' := by
  unfold val
  obtain ⟨A, hA⟩ : ∃ A, A = (cells a amv anv alv acv).toArray := ⟨_, rfl⟩
  obtain ⟨B, hB⟩ : ∃ A, A = (cells b bmv bnv blv bcv).toArray := ⟨_, rfl⟩
  rw [← hA, ← hB]
  obtain ⟨w1, k1, ew1, ek1, hb1, o1, hs1⟩ := boxed w A 35
  obtain ⟨w2, k2, ew2, ek2, hb2, o2, hs2⟩ := boxed w1 B 35
  have hb1 := hb1.same o2
  have O2 := hide (o1.trans o2 (fun _ _ e => e))
  have HE2 := hide ew2
  have HEK2 : Hid (k2 = k1 + 1) := by show _ = _; omega
  have a0 := at_front hA hb1 0 (by decide) _ rfl
  have b0 := at_front hB hb2 0 (by decide) _ rfl
  have s0 := str_beq a.id b.id
  rw [decide_eq_false e0] at s0
  clear ha hb hA hB hb1 hb2 o1 o2 hs1 hs2 ew2 ek2 e0
  generalize str a.id = S0a at *
  generalize str b.id = S0b at *
  go_enter Tryd.func17, Tryd.ntmps17
  go_upto_region 1 with fail
  rw [← ew1, ← ek1, ← unhide HE2, ← unhide HEK2]
  clear ew1 ek1 HE2 HEK2
  simp only [List.append_eq, List.append_assoc, List.cons_append, List.nil_append]
  go_wp2_with (first
    | fail)
  go_ret
  exact ⟨rfl, unhide O2⟩
end Ob
end Go.Proofs.YtlcnckmbimmpjaaDoor

namespace Go.Proofs.YtlcnckmbimmpjaaDoor
open Go.RowKit
set_option linter.unusedSimpArgs false
set_option linter.unusedVariables false
namespace Ob

set_option maxRecDepth 100000 in
set_option maxHeartbeats 4000000 in
theorem same_1 {a b : Ob} {amv anv alv acv bmv bnv blv bcv : Value} {w : World} (ha : In w a amv anv alv acv) (hb : In w b bmv bnv blv bcv)
    (e0 : a.id = b.id) (e1 : ¬ a.typ = b.typ) :
    Calls Tryd.prog 17 #[val a amv anv alv acv, val b bmv bnv blv bcv] w fun e w' => e = .returned (.bool false) ∧ Only (fun _ => False) w w' := by
  unfold val
  obtain ⟨A, hA⟩ : ∃ A, A = (cells a amv anv alv acv).toArray := ⟨_, rfl⟩
  obtain ⟨B, hB⟩ : ∃ A, A = (cells b bmv bnv blv bcv).toArray := ⟨_, rfl⟩
  rw [← hA, ← hB]
  obtain ⟨w1, k1, ew1, ek1, hb1, o1, hs1⟩ := boxed w A 35
  obtain ⟨w2, k2, ew2, ek2, hb2, o2, hs2⟩ := boxed w1 B 35
  have hb1 := hb1.same o2
  have O2 := hide (o1.trans o2 (fun _ _ e => e))
  have HE2 := hide ew2
  have HEK2 : Hid (k2 = k1 + 1) := by show _ = _; omega
  have a0 := at_front hA hb1 0 (by decide) _ rfl
  have b0 := at_front hB hb2 0 (by decide) _ rfl
  have a1 := at_front hA hb1 1 (by decide) _ rfl
  have b1 := at_front hB hb2 1 (by decide) _ rfl
  have s0 := str_beq a.id b.id
  rw [decide_eq_true e0] at s0
  have i1 := int_beq a.typ b.typ
  rw [decide_eq_false e1] at i1
  clear ha hb hA hB hb1 hb2 o1 o2 hs1 hs2 ew2 ek2 e0 e1
  generalize str a.id = S0a at *
  generalize str b.id = S0b at *
  generalize a.typ = ja_typ at *
  generalize b.typ = jb_typ at *
  go_enter Tryd.func17, Tryd.ntmps17
  go_upto_region 1 with fail
  rw [← ew1, ← ek1, ← unhide HE2, ← unhide HEK2]
  clear ew1 ek1 HE2 HEK2
  simp only [List.append_eq, List.append_assoc, List.cons_append, List.nil_append]
  go_wp2_with (first
    | fail)
  go_ret
  exact ⟨rfl, unhide O2⟩
end Ob
end Go.Proofs.YtlcnckmbimmpjaaDoor

namespace Go.Proofs.YtlcnckmbimmpjaaDoor
open Go.RowKit
set_option linter.unusedSimpArgs false
set_option linter.unusedVariables false
namespace Ob

set_option maxRecDepth 100000 in
set_option maxHeartbeats 4000000 in
theorem same_2 {a b : Ob} {amv anv alv acv bmv bnv blv bcv : Value} {w : World} (ha : In w a amv anv alv acv) (hb : In w b bmv bnv blv bcv)
    (e0 : a.id = b.id) (e1 : a.typ = b.typ) (e2 : ¬ a.alg = b.alg) :
    Calls Tryd.prog 17 #[val a amv anv alv acv, val b bmv bnv blv bcv] w fun e w' => e = .returned (.bool false) ∧ Only (fun _ => False) w w' := by
  unfold val
  obtain ⟨A, hA⟩ : ∃ A, A = (cells a amv anv alv acv).toArray := ⟨_, rfl⟩
  obtain ⟨B, hB⟩ : ∃ A, A = (cells b bmv bnv blv bcv).toArray := ⟨_, rfl⟩
  rw [← hA, ← hB]
  obtain ⟨w1, k1, ew1, ek1, hb1, o1, hs1⟩ := boxed w A 35
  obtain ⟨w2, k2, ew2, ek2, hb2, o2, hs2⟩ := boxed w1 B 35
  have hb1 := hb1.same o2
  have O2 := hide (o1.trans o2 (fun _ _ e => e))
  have HE2 := hide ew2
  have HEK2 : Hid (k2 = k1 + 1) := by show _ = _; omega
  have a0 := at_front hA hb1 0 (by decide) _ rfl
  have b0 := at_front hB hb2 0 (by decide) _ rfl
  have a1 := at_front hA hb1 1 (by decide) _ rfl
  have b1 := at_front hB hb2 1 (by decide) _ rfl
  have a2 := at_front hA hb1 2 (by decide) _ rfl
  have b2 := at_front hB hb2 2 (by decide) _ rfl
  have s0 := str_beq a.id b.id
  rw [decide_eq_true e0] at s0
  have i1 := int_beq a.typ b.typ
  rw [decide_eq_true e1] at i1
  have i2 := int_beq a.alg b.alg
  rw [decide_eq_false e2] at i2
  clear ha hb hA hB hb1 hb2 o1 o2 hs1 hs2 ew2 ek2 e0 e1 e2
  generalize str a.id = S0a at *
  generalize str b.id = S0b at *
  generalize a.typ = ja_typ at *
  generalize b.typ = jb_typ at *
  generalize a.alg = ja_alg at *
  generalize b.alg = jb_alg at *
  go_enter Tryd.func17, Tryd.ntmps17
  go_upto_region 1 with fail
  rw [← ew1, ← ek1, ← unhide HE2, ← unhide HEK2]
  clear ew1 ek1 HE2 HEK2
  simp only [List.append_eq, List.append_assoc, List.cons_append, List.nil_append]
  go_wp2_with (first
    | fail)
  go_ret
  exact ⟨rfl, unhide O2⟩
end Ob
end Go.Proofs.YtlcnckmbimmpjaaDoor

namespace Go.Proofs.YtlcnckmbimmpjaaDoor
open Go.RowKit
set_option linter.unusedSimpArgs false
set_option linter.unusedVariables false
namespace Ob

set_option maxRecDepth 100000 in
set_option maxHeartbeats 4000000 in
theorem same_3 {a b : Ob} {amv anv alv acv bmv bnv blv bcv : Value} {w : World} (ha : In w a amv anv alv acv) (hb : In w b bmv bnv blv bcv)
    (e0 : a.id = b.id) (e1 : a.typ = b.typ) (e2 : a.alg = b.alg) (e3 : ¬ a.len = b.len) :
    Calls Tryd.prog 17 #[val a amv anv alv acv, val b bmv bnv blv bcv] w fun e w' => e = .returned (.bool false) ∧ Only (fun _ => False) w w' := by
  unfold val
  obtain ⟨A, hA⟩ : ∃ A, A = (cells a amv anv alv acv).toArray := ⟨_, rfl⟩
  obtain ⟨B, hB⟩ : ∃ A, A = (cells b bmv bnv blv bcv).toArray := ⟨_, rfl⟩
  rw [← hA, ← hB]
  obtain ⟨w1, k1, ew1, ek1, hb1, o1, hs1⟩ := boxed w A 35
  obtain ⟨w2, k2, ew2, ek2, hb2, o2, hs2⟩ := boxed w1 B 35
  have hb1 := hb1.same o2
  have O2 := hide (o1.trans o2 (fun _ _ e => e))
  have HE2 := hide ew2
  have HEK2 : Hid (k2 = k1 + 1) := by show _ = _; omega
  have a0 := at_front hA hb1 0 (by decide) _ rfl
  have b0 := at_front hB hb2 0 (by decide) _ rfl
  have a1 := at_front hA hb1 1 (by decide) _ rfl
  have b1 := at_front hB hb2 1 (by decide) _ rfl
  have a2 := at_front hA hb1 2 (by decide) _ rfl
  have b2 := at_front hB hb2 2 (by decide) _ rfl
  have a3 := at_front hA hb1 3 (by decide) _ rfl
  have b3 := at_front hB hb2 3 (by decide) _ rfl
  have s0 := str_beq a.id b.id
  rw [decide_eq_true e0] at s0
  have i1 := int_beq a.typ b.typ
  rw [decide_eq_true e1] at i1
  have i2 := int_beq a.alg b.alg
  rw [decide_eq_true e2] at i2
  have i3 := int_beq a.len b.len
  rw [decide_eq_false e3] at i3
  clear ha hb hA hB hb1 hb2 o1 o2 hs1 hs2 ew2 ek2 e0 e1 e2 e3
  generalize str a.id = S0a at *
  generalize str b.id = S0b at *
  generalize a.typ = ja_typ at *
  generalize b.typ = jb_typ at *
  generalize a.alg = ja_alg at *
  generalize b.alg = jb_alg at *
  generalize a.len = ja_len at *
  generalize b.len = jb_len at *
  go_enter Tryd.func17, Tryd.ntmps17
  go_upto_region 1 with fail
  rw [← ew1, ← ek1, ← unhide HE2, ← unhide HEK2]
  clear ew1 ek1 HE2 HEK2
  simp only [List.append_eq, List.append_assoc, List.cons_append, List.nil_append]
  go_wp2_with (first
    | fail)
  go_ret
  exact ⟨rfl, unhide O2⟩
end Ob
end Go.Proofs.YtlcnckmbimmpjaaDoor
