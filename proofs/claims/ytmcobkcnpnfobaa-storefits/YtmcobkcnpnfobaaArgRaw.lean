/-
  What locksmithlaw5's []Raw and []Step read as.
-/
import Derived.Test.YtmcobkcnpnfobaaArgSteps
import Derived.Test.YtmcobkcnpnfobaaStText
namespace Go.Proofs.Ytmcobkcnpnfobaa
open Go.RowKit Go.ChangeShapes Go.WideShapes Go.ChangeAt Go.Deep
set_option linter.unusedSimpArgs false
set_option linter.unusedVariables false

theorem Try.cellsRaw : Try.prog.cellsOf 91 = 5 := by kernel_rfl
theorem Try.cellsRaws : Try.prog.cellsOf 48 = 1 := by kernel_rfl
theorem Try.cellsStr5 : Try.prog.cellsOf 9 = 1 := by kernel_rfl
theorem Try.cellsBool5 : Try.prog.cellsOf 4 = 1 := by kernel_rfl
theorem Try.cellsInts5 : Try.prog.cellsOf 49 = 1 := by kernel_rfl

/-- a raw change -/
structure RawV where
  key : Int
  size : Int
  num : Int
  has : Bool
  odd : List UInt8

def RawV.cells (r : RawV) : List Value := [.int .i64 r.key, .int .i64 r.size, .int .i64 r.num, .bool r.has, encStr r.odd]
def RawV.Ok (r : RawV) : Prop := I64 r.num ∧ r.odd.length ≤ maxLen

/-- v reads as m raw changes -/
structure Raws (w : World) (v : Value) (m : Nat) (X : Nat → RawV) : Prop where
  shape : ∃ ao cap, v = .slice ao m cap ∧ m ≤ cap ∧ cap ≤ maxLen ∧ (0 < m → ∃ bb off, ao = some ⟨bb, off, none⟩ ∧ bb < w.heap.size ∧
    ∀ i, i < m → w.cell? ⟨bb, off + i * 5, none⟩ = some (.int .i64 (X i).key) ∧ w.cell? ⟨bb, off + i * 5 + 1, none⟩ = some (.int .i64 (X i).size) ∧ w.cell? ⟨bb, off + i * 5 + 2, none⟩ = some (.int .i64 (X i).num) ∧ w.cell? ⟨bb, off + i * 5 + 3, none⟩ = some (.bool (X i).has) ∧ w.cell? ⟨bb, off + i * 5 + 4, none⟩ = some (encStr (X i).odd))
  each : ∀ i, i < m → (X i).Ok

theorem Raws.same {w w' : World} {v : Value} {m : Nat} {X : Nat → RawV} (h : Raws w v m X) (ho : Only (fun _ => False) w w') : Raws w' v m X := by
  obtain ⟨⟨ao, cap, e, h1, h2, h3⟩, h4⟩ := h
  refine ⟨⟨ao, cap, e, h1, h2, fun h0 => ?_⟩, h4⟩
  obtain ⟨bb, off, e2, hb, hc⟩ := h3 h0
  refine ⟨bb, off, e2, Nat.lt_of_lt_of_le hb ho.size, fun i hi => ?_⟩
  obtain ⟨k0, k1, k2, k3, k4⟩ := hc i hi
  exact ⟨ho.cell k0 (fun e => e), ho.cell k1 (fun e => e), ho.cell k2 (fun e => e), ho.cell k3 (fun e => e), ho.cell k4 (fun e => e)⟩

section
variable {H : Type} {enc : TypeId × Value → H} {w : World} {base : Nat} {spare : Nat → Bool} {held : Bool}

set_option maxRecDepth 100000 in
theorem raw_of_trod {fuel : Nat} {cs : List Value} {x : DataW H × List MemPlace} (h : DataW.trod enc Try.prog w base spare held fuel 91 cs = some x) :
    ∃ r : RawV, cs = r.cells ∧ r.Ok := by
  obtain ⟨y0, y1, y2, y3, y4, n, hl, h0, h1, h2, h3, h4⟩ := trod_struct5 Try.underlying91 h
  rw [Try.cellsRaw] at hl
  match cs, hl with
  | [c0, c1, c2, c3, c4], _ =>
    simp only [Try.cellsInt, Try.cellsStr5, Try.cellsBool5, List.drop_zero, List.take_succ_cons, List.take_zero, List.drop_succ_cons] at h0 h1 h2 h3 h4
    obtain ⟨a0, e0, _, wa0⟩ := DataW.trod_int Try.underlying3 h0
    obtain ⟨a1, e1, _, wa1⟩ := DataW.trod_int Try.underlying3 h1
    obtain ⟨a2, e2, _, wa2⟩ := DataW.trod_int Try.underlying3 h2
    obtain ⟨a3, e3, _⟩ := DataW.trod_bool Try.underlying4 h3
    obtain ⟨a4, e4, _, wa4⟩ := DataW.trod_string Try.underlying9 h4
    simp only [List.cons.injEq, and_true] at e0 e1 e2 e3 e4
    subst e0; subst e1; subst e2; subst e3; subst e4
    have h2' : -9223372036854775808 ≤ a2 ∧ a2 ≤ 9223372036854775807 := by simpa [Lit.wf, IntKind.min, IntKind.max, IntKind.signed, IntKind.bits] using wa2
    exact ⟨⟨a0, a1, a2, a3, a4.data.toList⟩, rfl, h2', by simpa using wa4⟩

theorem raws_of_trod {fuel : Nat} {v : Value} {x : DataW H × List MemPlace} (h : DataW.trod enc Try.prog w base spare held fuel 48 [v] = some x) : ∃ m X, Raws w v m X := by
  rcases open_slice Try.underlying48 h with ⟨hcs, hx⟩ | ⟨a, len, cap, m, n, D, Pl, hcs, hb, hl, hm, hmm, hx, hel⟩
  · simp only [List.cons.injEq, and_true] at hcs
    subst hcs
    exact ⟨0, fun _ => ⟨0, 0, 0, false, []⟩, ⟨⟨none, 0, rfl, Nat.le_refl _, Nat.zero_le _, fun h => by omega⟩, fun i hi => by omega⟩⟩
  · simp only [List.cons.injEq, and_true] at hcs
    subst hcs
    have hlm : len ≤ m := by rw [hmm]; split <;> omega
    rw [Try.cellsRaw] at hel
    have key : ∀ i, i < len → ∃ s : RawV, (w.cell? (a.add (i * 5)) = some (.int .i64 s.key) ∧ w.cell? ((a.add (i * 5)).add 1) = some (.int .i64 s.size) ∧ w.cell? ((a.add (i * 5)).add 2) = some (.int .i64 s.num) ∧ w.cell? ((a.add (i * 5)).add 3) = some (.bool s.has) ∧ w.cell? ((a.add (i * 5)).add 4) = some (encStr s.odd)) ∧ s.Ok := by
      intro i hi
      obtain ⟨cs, hc, ht⟩ := hel i (by omega)
      obtain ⟨c0, c1, c2, c3, c4, rfl, k0, k1, k2, k3, k4⟩ := cells_five_at hc
      obtain ⟨s, e, hq⟩ := raw_of_trod ht
      simp only [RawV.cells, List.cons.injEq, and_true] at e
      obtain ⟨rfl, rfl, rfl, rfl, rfl⟩ := e
      exact ⟨s, ⟨k0, k1, k2, k3, k4⟩, hq⟩
    haveI : Inhabited RawV := ⟨⟨0, 0, 0, false, []⟩⟩
    obtain ⟨X, hX⟩ := choose_lt key
    refine ⟨len, X, ⟨⟨some a, cap, rfl, hl, hm, fun h0 => ?_⟩, fun i hi => (hX i hi).2⟩⟩
    have hs0 : a.spot = none := by
      have := spot_of_cell (hX 0 h0).1.1
      simpa [Addr.add] using this
    have hbl := World.block_lt_of_cell? w _ (hX 0 h0).1.1
    refine ⟨a.block, a.off, ?_, by simpa [Addr.add] using hbl, fun i hi => ?_⟩
    · obtain ⟨b, o, s⟩ := a
      simp only at hs0
      subst hs0
      rfl
    · have h3 := (hX i hi).1
      rw [addr_add a hs0] at h3
      refine ⟨h3.1, ?_, ?_, ?_, ?_⟩
      · have := h3.2.1; rwa [addr_add _ rfl] at this
      · have := h3.2.2.1; rwa [addr_add _ rfl] at this
      · have := h3.2.2.2.1; rwa [addr_add _ rfl] at this
      · have := h3.2.2.2.2; rwa [addr_add _ rfl] at this

/-- one step -/
structure St5 where
  what : Int
  num : Int
  lv : Value
  lm : Nat
  lx : Nat → RawV
  mv : Value
  mm : Nat
  mx : Nat → RawV
  fv : Value
  fs : List Int

structure Step5 (w : World) (s : St5) : Prop where
  l : Raws w s.lv s.lm s.lx
  m : Raws w s.mv s.mm s.mx
  fates : HasV w s.fv (s.fs.map (.int .i64))
  num : I64 s.num

def St5.cells (s : St5) : List Value := [.int .i64 s.what, .int .i64 s.num, s.lv, s.mv, s.fv]

structure Steps5 (w : World) (v : Value) (m : Nat) (X : Nat → St5) : Prop where
  shape : ∃ ao cap, v = .slice ao m cap ∧ m ≤ cap ∧ cap ≤ maxLen ∧ (0 < m → ∃ bb off, ao = some ⟨bb, off, none⟩ ∧ bb < w.heap.size ∧
    ∀ i, i < m → w.cell? ⟨bb, off + i * 5, none⟩ = some (.int .i64 (X i).what) ∧ w.cell? ⟨bb, off + i * 5 + 1, none⟩ = some (.int .i64 (X i).num) ∧ w.cell? ⟨bb, off + i * 5 + 2, none⟩ = some (X i).lv ∧ w.cell? ⟨bb, off + i * 5 + 3, none⟩ = some (X i).mv ∧ w.cell? ⟨bb, off + i * 5 + 4, none⟩ = some (X i).fv)
  each : ∀ i, i < m → Step5 w (X i)

theorem Step5.same {w w' : World} {s : St5} (h : Step5 w s) (ho : Only (fun _ => False) w w') : Step5 w' s :=
  ⟨h.l.same ho, h.m.same ho, h.fates.only ho (fun _ _ _ h => h), h.num⟩

set_option maxRecDepth 100000 in
theorem step5_of_trod {fuel : Nat} {cs : List Value} {x : DataW H × List MemPlace} (h : DataW.trod enc Try.prog w base spare held fuel 51 cs = some x) :
    ∃ s : St5, cs = s.cells ∧ Step5 w s := by
  obtain ⟨y0, y1, y2, y3, y4, n, hl, h0, h1, h2, h3, h4⟩ := trod_struct5 Try.underlying51 h
  rw [show Try.prog.cellsOf 51 = 5 by kernel_rfl] at hl
  match cs, hl with
  | [c0, c1, c2, c3, c4], _ =>
    simp only [Try.cellsInt, Try.cellsInts5, Try.cellsRaws, List.drop_zero, List.take_succ_cons, List.take_zero, List.drop_succ_cons] at h0 h1 h2 h3 h4
    obtain ⟨a0, e0, _, wa0⟩ := DataW.trod_int Try.underlying3 h0
    obtain ⟨a1, e1, _, wa1⟩ := DataW.trod_int Try.underlying3 h1
    obtain ⟨m2, X2, q2⟩ := raws_of_trod h2
    obtain ⟨m3, X3, q3⟩ := raws_of_trod h3
    obtain ⟨fs, hfs, _⟩ := ints_of_trod h4
    simp only [List.cons.injEq, and_true] at e0 e1
    subst e0; subst e1
    have h1' : -9223372036854775808 ≤ a1 ∧ a1 ≤ 9223372036854775807 := by simpa [Lit.wf, IntKind.min, IntKind.max, IntKind.signed, IntKind.bits] using wa1
    exact ⟨⟨a0, a1, c2, m2, X2, c3, m3, X3, c4, fs⟩, rfl, ⟨q2, q3, hfs, h1'⟩⟩

theorem steps5_of_trod {fuel : Nat} {v : Value} {x : DataW H × List MemPlace} (h : DataW.trod enc Try.prog w base spare held fuel 45 [v] = some x) : ∃ m X, Steps5 w v m X := by
  haveI : Inhabited St5 := ⟨⟨0, 0, .slice none 0 0, 0, fun _ => ⟨0, 0, 0, false, []⟩, .slice none 0 0, 0, fun _ => ⟨0, 0, 0, false, []⟩, .slice none 0 0, []⟩⟩
  rcases open_slice Try.underlying45 h with ⟨hcs, hx⟩ | ⟨a, len, cap, m, n, D, Pl, hcs, hb, hl, hm, hmm, hx, hel⟩
  · simp only [List.cons.injEq, and_true] at hcs
    subst hcs
    exact ⟨0, fun _ => default, ⟨⟨none, 0, rfl, Nat.le_refl _, Nat.zero_le _, fun h => by omega⟩, fun i hi => by omega⟩⟩
  · simp only [List.cons.injEq, and_true] at hcs
    subst hcs
    have hlm : len ≤ m := by rw [hmm]; split <;> omega
    rw [show Try.prog.cellsOf 51 = 5 by kernel_rfl] at hel
    have key : ∀ i, i < len → ∃ s : St5, (w.cell? (a.add (i * 5)) = some (.int .i64 s.what) ∧ w.cell? ((a.add (i * 5)).add 1) = some (.int .i64 s.num) ∧ w.cell? ((a.add (i * 5)).add 2) = some s.lv ∧ w.cell? ((a.add (i * 5)).add 3) = some s.mv ∧ w.cell? ((a.add (i * 5)).add 4) = some s.fv) ∧ Step5 w s := by
      intro i hi
      obtain ⟨cs, hc, ht⟩ := hel i (by omega)
      obtain ⟨c0, c1, c2, c3, c4, rfl, k0, k1, k2, k3, k4⟩ := cells_five_at hc
      obtain ⟨s, e, hq⟩ := step5_of_trod ht
      simp only [St5.cells, List.cons.injEq, and_true] at e
      obtain ⟨rfl, rfl, rfl, rfl, rfl⟩ := e
      exact ⟨s, ⟨k0, k1, k2, k3, k4⟩, hq⟩
    obtain ⟨X, hX⟩ := choose_lt key
    refine ⟨len, X, ⟨⟨some a, cap, rfl, hl, hm, fun h0 => ?_⟩, fun i hi => (hX i hi).2⟩⟩
    have hs0 : a.spot = none := by
      have := spot_of_cell (hX 0 h0).1.1
      simpa [Addr.add] using this
    have hbl := World.block_lt_of_cell? w _ (hX 0 h0).1.1
    refine ⟨a.block, a.off, ?_, by simpa [Addr.add] using hbl, fun i hi => ?_⟩
    · obtain ⟨b, o, s⟩ := a
      simp only at hs0
      subst hs0
      rfl
    · have h3 := (hX i hi).1
      rw [addr_add a hs0] at h3
      refine ⟨h3.1, ?_, ?_, ?_, ?_⟩
      · have := h3.2.1; rwa [addr_add _ rfl] at this
      · have := h3.2.2.1; rwa [addr_add _ rfl] at this
      · have := h3.2.2.2.1; rwa [addr_add _ rfl] at this
      · have := h3.2.2.2.2; rwa [addr_add _ rfl] at this
end

end Go.Proofs.Ytmcobkcnpnfobaa
