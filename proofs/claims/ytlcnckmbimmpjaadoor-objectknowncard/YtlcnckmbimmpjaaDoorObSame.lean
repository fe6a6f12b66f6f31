/-
  object.Same: ways of it.
-/
import Derived.Test.YtlcnckmbimmpjaaDoorObSa
import Derived.Test.YtlcnckmbimmpjaaDoorObSb
import Derived.Test.YtlcnckmbimmpjaaDoorObSame8
import Derived.Test.YtlcnckmbimmpjaaDoorObSame9
import Derived.Test.YtlcnckmbimmpjaaDoorObSame10
import Derived.Test.YtlcnckmbimmpjaaDoorObSame11
import Derived.Test.YtlcnckmbimmpjaaDoorObSame12
import Derived.Test.YtlcnckmbimmpjaaDoorObSame13
import Derived.Test.YtlcnckmbimmpjaaDoorObSame14
import Derived.Test.YtlcnckmbimmpjaaDoorObSame15
namespace Go.Proofs.YtlcnckmbimmpjaaDoor
open Go.RowKit
set_option linter.unusedSimpArgs false
set_option linter.unusedVariables false
namespace Ob

theorem sameB_true {a b : Ob} (e0 : a.id = b.id) (e1 : a.typ = b.typ) (e2 : a.alg = b.alg) (e3 : a.len = b.len) (e4 : a.mask = b.mask) (e5 : a.mat = b.mat) (e6 : a.state = b.state) (e7 : a.dates = b.dates) (e8 : a.reason = b.reason) (e9 : a.msg = b.msg) (e10 : a.names = b.names) (e11 : a.links = b.links) (e12 : a.custom = b.custom) (e13 : limsB a b = true) (e14 : a.arch = b.arch) : sameB a b = true := by
  rw [sameB_all]
  unfold limsB at e13
  simp only [Bool.and_eq_true, decide_eq_true_eq] at e13
  obtain ⟨⟨⟨l1, l2⟩, l3⟩, l4⟩ := e13
  unfold sameL eqB
  simp only [List.all_cons, List.all_nil, Bool.and_true, id, *]
  simp

theorem sameB_no0 {a b : Ob} (e : ¬ a.id = b.id) : sameB a b = false := by
  unfold sameB
  refine decide_eq_false fun h => ?_
  subst h
  exact e rfl

theorem sameB_no1 {a b : Ob} (e : ¬ a.typ = b.typ) : sameB a b = false := by
  unfold sameB
  refine decide_eq_false fun h => ?_
  subst h
  exact e rfl

theorem sameB_no2 {a b : Ob} (e : ¬ a.alg = b.alg) : sameB a b = false := by
  unfold sameB
  refine decide_eq_false fun h => ?_
  subst h
  exact e rfl

theorem sameB_no3 {a b : Ob} (e : ¬ a.len = b.len) : sameB a b = false := by
  unfold sameB
  refine decide_eq_false fun h => ?_
  subst h
  exact e rfl

theorem sameB_no4 {a b : Ob} (e : ¬ a.mask = b.mask) : sameB a b = false := by
  unfold sameB
  refine decide_eq_false fun h => ?_
  subst h
  exact e rfl

theorem sameB_no5 {a b : Ob} (e : ¬ a.mat = b.mat) : sameB a b = false := by
  unfold sameB
  refine decide_eq_false fun h => ?_
  subst h
  exact e rfl

theorem sameB_no6 {a b : Ob} (e : ¬ a.state = b.state) : sameB a b = false := by
  unfold sameB
  refine decide_eq_false fun h => ?_
  subst h
  exact e rfl

theorem sameB_no7 {a b : Ob} (e : ¬ a.dates = b.dates) : sameB a b = false := by
  unfold sameB
  refine decide_eq_false fun h => ?_
  subst h
  exact e rfl

theorem sameB_no8 {a b : Ob} (e : ¬ a.reason = b.reason) : sameB a b = false := by
  unfold sameB
  refine decide_eq_false fun h => ?_
  subst h
  exact e rfl

theorem sameB_no9 {a b : Ob} (e : ¬ a.msg = b.msg) : sameB a b = false := by
  unfold sameB
  refine decide_eq_false fun h => ?_
  subst h
  exact e rfl

theorem sameB_no10 {a b : Ob} (e : ¬ a.names = b.names) : sameB a b = false := by
  unfold sameB
  refine decide_eq_false fun h => ?_
  subst h
  exact e rfl

theorem sameB_no11 {a b : Ob} (e : ¬ a.links = b.links) : sameB a b = false := by
  unfold sameB
  refine decide_eq_false fun h => ?_
  subst h
  exact e rfl

theorem sameB_no12 {a b : Ob} (e : ¬ a.custom = b.custom) : sameB a b = false := by
  unfold sameB
  refine decide_eq_false fun h => ?_
  subst h
  exact e rfl

theorem sameB_no13 {a b : Ob} (e : limsB a b = false) : sameB a b = false := by
  unfold sameB
  refine decide_eq_false fun h => ?_
  subst h
  simp [limsB] at e

theorem sameB_no14 {a b : Ob} (e : ¬ a.arch = b.arch) : sameB a b = false := by
  unfold sameB
  refine decide_eq_false fun h => ?_
  subst h
  exact e rfl

theorem same_any {a b : Ob} {amv anv alv acv bmv bnv blv bcv : Value} {w : World} (ha : In w a amv anv alv acv) (hb : In w b bmv bnv blv bcv) :
    Calls Tryd.prog 17 #[val a amv anv alv acv, val b bmv bnv blv bcv] w fun e w' => e = .returned (.bool (sameB a b)) ∧ Only (fun _ => False) w w' := by
  by_cases e0 : a.id = b.id
  case neg =>
    rw [sameB_no0 e0]
    exact same_0 ha hb e0
  by_cases e1 : a.typ = b.typ
  case neg =>
    rw [sameB_no1 e1]
    exact same_1 ha hb e0 e1
  by_cases e2 : a.alg = b.alg
  case neg =>
    rw [sameB_no2 e2]
    exact same_2 ha hb e0 e1 e2
  by_cases e3 : a.len = b.len
  case neg =>
    rw [sameB_no3 e3]
    exact same_3 ha hb e0 e1 e2 e3
  by_cases e4 : a.mask = b.mask
  case neg =>
    rw [sameB_no4 e4]
    exact same_4 ha hb e0 e1 e2 e3 e4
  by_cases e5 : a.mat = b.mat
  case neg =>
    rw [sameB_no5 e5]
    exact same_5 ha hb e0 e1 e2 e3 e4 e5
  by_cases e6 : a.state = b.state
  case neg =>
    rw [sameB_no6 e6]
    exact same_6 ha hb e0 e1 e2 e3 e4 e5 e6
  by_cases e7 : a.dates = b.dates
  case neg =>
    rw [sameB_no7 e7]
    exact same_7 ha hb e0 e1 e2 e3 e4 e5 e6 e7
  by_cases e8 : a.reason = b.reason
  case neg =>
    rw [sameB_no8 e8]
    exact same_8 ha hb e0 e1 e2 e3 e4 e5 e6 e7 e8
  by_cases e9 : a.msg = b.msg
  case neg =>
    rw [sameB_no9 e9]
    exact same_9 ha hb e0 e1 e2 e3 e4 e5 e6 e7 e8 e9
  by_cases e10 : a.names = b.names
  case neg =>
    rw [sameB_no10 e10]
    exact same_10 ha hb e0 e1 e2 e3 e4 e5 e6 e7 e8 e9 e10
  by_cases e11 : a.links = b.links
  case neg =>
    rw [sameB_no11 e11]
    exact same_11 ha hb e0 e1 e2 e3 e4 e5 e6 e7 e8 e9 e10 e11
  by_cases e12 : a.custom = b.custom
  case neg =>
    rw [sameB_no12 e12]
    exact same_12 ha hb e0 e1 e2 e3 e4 e5 e6 e7 e8 e9 e10 e11 e12
  by_cases e13 : limsB a b = true
  case neg =>
    have e13 : limsB a b = false := by simpa using e13
    rw [sameB_no13 e13]
    exact same_13 ha hb e0 e1 e2 e3 e4 e5 e6 e7 e8 e9 e10 e11 e12 e13
  by_cases e14 : a.arch = b.arch
  case neg =>
    rw [sameB_no14 e14]
    exact same_14 ha hb e0 e1 e2 e3 e4 e5 e6 e7 e8 e9 e10 e11 e12 e13 e14
  rw [sameB_true e0 e1 e2 e3 e4 e5 e6 e7 e8 e9 e10 e11 e12 e13 e14]
  exact same_15 ha hb e0 e1 e2 e3 e4 e5 e6 e7 e8 e9 e10 e11 e12 e13 e14
end Ob
end Go.Proofs.YtlcnckmbimmpjaaDoor
