/-
  What the arguments read as: bytes, and steps of three cells.
-/
import Derived.Test.YtncggpejehflmaaRows
import Derived.Test.YtncggpejehflmaaWr
import Derived.ProofKit
import Derived.Deep.Slices
import Derived.Deep.Strs
import Derived.ChangeOld
import Derived.SizedLaws
namespace Go.Proofs.Ytncggpejehflmaa
open Go.RowKit Go.ChangeShapes Go.WideShapes Go.ChangeAt Go.Deep
set_option linter.unusedSimpArgs false
set_option linter.unusedVariables false

theorem Try.cells38 : Try.prog.cellsOf 38 = 3 := by kernel_rfl
theorem Try.cells3 : Try.prog.cellsOf 3 = 1 := by kernel_rfl
theorem Try.cells36 : Try.prog.cellsOf 36 = 1 := by kernel_rfl
theorem Try.cells24 : Try.prog.cellsOf 24 = 1 := by kernel_rfl
theorem Try.laidOut : laidOutB Try.prog = true := by kernel_rfl
theorem Try.cells5 : Try.prog.cellsOf 5 = 1 := by kernel_rfl
theorem Try.bytes5 : Try.prog.bytesOf 5 = 1 := by kernel_rfl

section
variable {H : Type} {enc : TypeId × Value → H} {w : World} {base : Nat} {spare : Nat → Bool} {held : Bool}

theorem bulk_one {H : Type} (d : DataW H) : 1 ≤ Rows.uptoBulk d := by
  cases d with
  | lit l => cases l <;> simp [Rows.uptoBulk]
  | nil => simp [Rows.uptoBulk]
  | ptr d => simp [Rows.uptoBulk]
  | slice elems spare => simp [Rows.uptoBulk]
  | agg parts => simp [Rows.uptoBulk]
  | iface t d => simp [Rows.uptoBulk]
  | map entries => simp [Rows.uptoBulk]
  | held h => simp [Rows.uptoBulk]

theorem bulk_length {H : Type} (l : List (DataW H)) : l.length ≤ Rows.uptoBulkAll l := by
  induction l with
  | nil => simp [Rows.uptoBulkAll]
  | cons x r ih => have := bulk_one x; simp only [Rows.uptoBulkAll, List.length_cons]; omega

theorem bulk_part {H : Type} {d : DataW H} {l : List (DataW H)} (h : d ∈ l) : Rows.uptoBulk d ≤ Rows.uptoBulkAll l := by
  induction l with
  | nil => cases h
  | cons x r ih =>
    simp only [Rows.uptoBulkAll]
    cases List.mem_cons.1 h with
    | inl e => subst e; omega
    | inr e => have := ih e; omega

/-- how many elements a reading of a slice has -/
def lenOf {H : Type} : DataW H → Nat
  | .slice elems _ => elems.length
  | _ => 0

theorem lenOf_bulk {H : Type} (d : DataW H) : lenOf d ≤ Rows.uptoBulk d := by
  cases d with
  | slice elems spare => have := bulk_length elems; simp only [lenOf, Rows.uptoBulk]; omega
  | _ => simp [lenOf]

theorem spot_of_cell {w : World} {a : Addr} {v : Value} (h : w.cell? a = some v) : a.spot = none := by
  unfold World.cell? at h
  split at h
  · split at h
    · cases h
    · simp_all
  · cases h

theorem bv_of_wf {z : Int} (h : (Lit.int .u8 z).wf = true) : Value.int .u8 z = bv (UInt8.ofNat z.toNat) := by
  have hx : 0 ≤ z ∧ z ≤ 255 := by simpa [Lit.wf, IntKind.min, IntKind.max, IntKind.signed, IntKind.bits] using h
  unfold bv
  congr 1
  simp
  omega

theorem has_of_trod {fuel : Nat} {v : Value} {x : DataW H × List MemPlace} (h : DataW.trod enc Try.prog w base spare held fuel 24 [v] = some x) : ∃ bs, Has w v bs ∧ bs.length = lenOf x.1 := by
  rcases open_ints Try.underlying24 Try.underlying5 Try.cells5 h with ⟨hcs, hx⟩ | ⟨a, len, cap, zs, hcs, _, hl, hm, hz, hx, hcell, hwf⟩
  · simp only [List.cons.injEq, and_true] at hcs
    subst hcs; subst hx
    exact ⟨[], Or.inl ⟨rfl, rfl⟩, rfl⟩
  · simp only [List.cons.injEq, and_true] at hcs
    subst hcs; subst hx
    have hlz : len ≤ zs.length := by rw [hz]; split <;> omega
    have hlen : ((zs.take len).map fun z => UInt8.ofNat z.toNat).length = len := by simp; omega
    have hsp : 0 < len → a.spot = none := fun h0 => by
      have := spot_of_cell (hcell 0 (by omega))
      simpa [Addr.add] using this
    refine ⟨(zs.take len).map fun z => UInt8.ofNat z.toNat, Or.inr ⟨a, cap, by rw [hlen], fun h0 => hsp (by omega), by omega, hm, fun h0 => ?_, fun j hj => ?_⟩, by rw [hlen]; simp [lenOf, lits]; omega⟩
    · have := World.block_lt_of_cell? w _ (hcell 0 (by omega))
      simpa [Addr.add] using this
    · rw [hlen] at hj
      have h1 := hcell j (by omega)
      rw [addr_add a (hsp (by omega))] at h1
      rw [h1]
      have h2 := bv_of_wf (hwf (zs.getD j 0) (by
        have : j < zs.length := by omega
        simp [List.getD, this]))
      rw [h2]
      have : j < zs.length := by omega
      simp [List.getD, this]
/-- l reads as m steps: numbers A, N, slices V with the bytes Bs -/
structure StepsAt (w : World) (v : Value) (m : Nat) (A : Nat → Int) (N : Nat → Nat) (V : Nat → Value) (Bs : Nat → List UInt8) : Prop where
  shape : ∃ ao cap, v = .slice ao m cap ∧ m ≤ cap ∧ cap ≤ maxLen ∧ (0 < m → ∃ bb off, ao = some ⟨bb, off, none⟩ ∧ bb < w.heap.size ∧
    ∀ i, i < m → w.cell? ⟨bb, off + i * 3, none⟩ = some (.int .i64 (A i)) ∧ w.cell? ⟨bb, off + i * 3 + 1, none⟩ = some (.int .u64 (N i)) ∧ w.cell? ⟨bb, off + i * 3 + 2, none⟩ = some (V i))
  has : ∀ i, i < m → Has w (V i) (Bs i)
  num : ∀ i, i < m → -9223372036854775808 ≤ A i ∧ A i ≤ 9223372036854775807 ∧ N i < 18446744073709551616

theorem cells_three {w : World} {base : Nat} {a : Addr} {cs : List Value} (h : w.cells? base a 3 = some cs) : ∃ x y z, cs = [x, y, z] ∧ w.cell? a = some x ∧ w.cell? (a.add 1) = some y ∧ w.cell? (a.add 2) = some z := by
  obtain ⟨_, hl, hc⟩ := World.cells?_some h
  match cs, hl with
  | [x, y, z], _ =>
    refine ⟨x, y, z, rfl, ?_, ?_, ?_⟩
    · simpa [Addr.add] using hc 0 (by decide)
    · simpa using hc 1 (by decide)
    · simpa using hc 2 (by decide)

theorem step_of_trod {fuel : Nat} {cs : List Value} {x : DataW H × List MemPlace} (h : DataW.trod enc Try.prog w base spare held fuel 38 cs = some x) :
    ∃ (a : Int) (n : Nat) (v : Value) (bs : List UInt8), cs = [.int .i64 a, .int .u64 n, v] ∧ Has w v bs ∧ (-9223372036854775808 ≤ a ∧ a ≤ 9223372036854775807 ∧ n < 18446744073709551616) ∧ bs.length ≤ Rows.uptoBulk x.1 := by
  obtain ⟨y0, y1, y2, m, hx, hl, h0, h1, h2⟩ := trod_struct3 Try.underlying38 h
  subst hx
  rw [Try.cells38] at hl
  match cs, hl with
  | [c0, c1, c2], _ =>
    simp only [Try.cells3, Try.cells36, Try.cells24, List.drop_zero, List.take_succ_cons, List.take_zero, List.drop_succ_cons] at h0 h1 h2
    obtain ⟨a, e0, _, wa⟩ := DataW.trod_int Try.underlying3 h0
    obtain ⟨n, e1, _, wn⟩ := DataW.trod_int Try.underlying36 h1
    obtain ⟨bs, hb, hlb⟩ := has_of_trod h2
    simp only [List.cons.injEq, and_true] at e0 e1
    subst e0; subst e1
    have ha : -9223372036854775808 ≤ a ∧ a ≤ 9223372036854775807 := by simpa [Lit.wf, IntKind.min, IntKind.max, IntKind.signed, IntKind.bits] using wa
    have hn : 0 ≤ n ∧ n ≤ 18446744073709551615 := by simpa [Lit.wf, IntKind.min, IntKind.max, IntKind.signed, IntKind.bits] using wn
    obtain ⟨n', rfl⟩ := Int.eq_ofNat_of_zero_le hn.1
    refine ⟨a, n', c2, bs, rfl, hb, ⟨ha.1, ha.2, by omega⟩, ?_⟩
    rw [hlb]
    have := lenOf_bulk y2.1
    simp only [Rows.uptoBulk, Rows.uptoBulkAll]
    omega

theorem steps_of_trod {fuel : Nat} {v : Value} {x : DataW H × List MemPlace} (h : DataW.trod enc Try.prog w base spare held fuel 32 [v] = some x) :
    ∃ m A N V Bs, StepsAt w v m A N V Bs ∧ ∀ i, i < m → (Bs i).length ≤ Rows.uptoBulk x.1 := by
  rcases open_slice Try.underlying32 h with ⟨hcs, hx⟩ | ⟨a, len, cap, m, n, D, Pl, hcs, hb, hl, hm, hmm, hx, hel⟩
  · simp only [List.cons.injEq, and_true] at hcs
    subst hcs; subst hx
    exact ⟨0, fun _ => 0, fun _ => 0, fun _ => .slice none 0 0, fun _ => [], ⟨⟨none, 0, rfl, Nat.le_refl _, Nat.zero_le _, fun h => by omega⟩, fun i hi => by omega, fun i hi => by omega⟩, fun i hi => by omega⟩
  · simp only [List.cons.injEq, and_true] at hcs
    subst hcs; subst hx
    have hlm : len ≤ m := by rw [hmm]; split <;> omega
    rw [Try.cells38] at hel
    have key : ∀ i, i < len → ∃ q : Int × Nat × Value × List UInt8, w.cell? (a.add (i * 3)) = some (.int .i64 q.1) ∧ w.cell? ((a.add (i * 3)).add 1) = some (.int .u64 q.2.1) ∧ w.cell? ((a.add (i * 3)).add 2) = some q.2.2.1 ∧ Has w q.2.2.1 q.2.2.2 ∧
        (-9223372036854775808 ≤ q.1 ∧ q.1 ≤ 9223372036854775807 ∧ q.2.1 < 18446744073709551616) ∧ q.2.2.2.length ≤ Rows.uptoBulk (D i) := by
      intro i hi
      obtain ⟨cs, hc, ht⟩ := hel i (by omega)
      obtain ⟨c0, c1, c2, rfl, k0, k1, k2⟩ := cells_three hc
      obtain ⟨qa, qn, qv, qb, e, hq, hr, hlb⟩ := step_of_trod ht
      simp only [List.cons.injEq, and_true] at e
      obtain ⟨rfl, rfl, rfl⟩ := e
      exact ⟨(qa, qn, c2, qb), k0, k1, k2, hq, hr, hlb⟩
    haveI : Inhabited (Int × Nat × Value × List UInt8) := ⟨(0, 0, .slice none 0 0, [])⟩
    obtain ⟨q, hq⟩ := choose_lt key
    refine ⟨len, fun i => (q i).1, fun i => (q i).2.1, fun i => (q i).2.2.1, fun i => (q i).2.2.2, ⟨⟨some a, cap, rfl, hl, hm, fun h0 => ?_⟩, fun i hi => (hq i hi).2.2.2.1, fun i hi => (hq i hi).2.2.2.2.1⟩, fun i hi => ?_⟩
    · have hs0 : a.spot = none := by
        have := spot_of_cell (hq 0 h0).1
        simpa [Addr.add] using this
      have hbl := World.block_lt_of_cell? w _ (hq 0 h0).1
      refine ⟨a.block, a.off, ?_, by simpa [Addr.add] using hbl, fun i hi => ?_⟩
      · obtain ⟨b, o, s⟩ := a
        simp only at hs0
        subst hs0
        rfl
      · have h3 := hq i hi
        rw [addr_add a hs0] at h3
        refine ⟨h3.1, ?_, ?_⟩
        · have := h3.2.1; rwa [addr_add _ rfl] at this
        · have := h3.2.2.1; rwa [addr_add _ rfl] at this
    · have h1 := (hq i hi).2.2.2.2.2
      have h2 : Rows.uptoBulk (D i) ≤ Rows.uptoBulkAll ((List.range len).map D) := bulk_part (List.mem_map.2 ⟨i, List.mem_range.2 hi, rfl⟩)
      simp only [Rows.uptoBulk]
      omega
end

end Go.Proofs.Ytncggpejehflmaa
