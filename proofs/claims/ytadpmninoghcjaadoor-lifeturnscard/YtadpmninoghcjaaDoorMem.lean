/-
  Bytes in memory: what is read, what is owned, rows that are new; for whatever seat.
-/
import Derived.Test.YtadpmninoghcjaaDoorRows
import Derived.Test.YtadpmninoghcjaaDoorBase
import Derived.Lib.SlBytesConst
namespace Go.Proofs.YtadpmninoghcjaaDoor
open Go.RowKit
set_option linter.unusedSimpArgs false
set_option linter.unusedVariables false

theorem Tryd.info5 : (Tryd.prog.info? 5).map (fun i => (i.zero, i.size, i.bytes)) = some (some (.int .u8 0), 1, 1) := by kernel_rfl

theorem hide {p : Prop} (h : p) : Hid p := h
theorem unhide {p : Prop} (h : Hid p) : p := h

/-- the value owns just these bytes -/
def Owns (base : Nat) (w : World) (v : Value) (bs : List UInt8) : Prop := w.ownsRow base 5 1 v bs.length (bs.map bv)
theorem Owns.out {base : Nat} {w : World} {v : Value} {bs : List UInt8} (h : Owns base w v bs) : w.ownsRow base 5 1 v bs.length (bs.map bv) := h

theorem ownsRow_one {w : World} {base e size n : Nat} {v : Value} {xs : List Value} (h : w.ownsRow base e size v n xs) : v.oneCell' = true := by
  rcases h.2 with ⟨rfl, _⟩ | ⟨g, cap, cur, rfl, _⟩ <;> rfl

theorem Tryd.size5 : (Tryd.prog.info? 5).map (·.size) = some 1 := by kernel_rfl

/-- a new row with the bytes us, all else as it was -/
structure Made (w w' : World) (v : Value) (us : List UInt8) : Prop where
  shape : v = .slice (some ⟨w.heap.size, 0, none⟩) us.length us.length
  own : w'.ownsRow w.heap.size 5 1 v us.length (us.map bv)
  only : Only (fun _ => False) w w'

theorem cells_two {w : World} {b : Nat} {u v : Value} {t : TypeId} (h : w.heap[b]? = some (.cells #[u, v] t (0, 0))) :
    w.cell? ⟨b, 0, none⟩ = some u ∧ w.cell? ⟨b, 1, none⟩ = some v ∧ w.frozen? ⟨b, 0, none⟩ = false ∧ w.frozen? ⟨b, 1, none⟩ = false := by
  simp [World.cell?, World.frozen?, h]

theorem two_setCell {w : World} {b i : Nat} {cs : Array Value} {u : Value} {t : TypeId} (h : w.heap[b]? = some (.cells cs t (0, 0))) : (w.setCell ⟨b, i, none⟩ u).heap[b]? = some (.cells (cs.setIfInBounds i u) t (0, 0)) := by
  have hlt := lt_of_block h
  have h' : w.heap[b] = .cells cs t (0, 0) := by simpa [Array.getElem?_eq_getElem hlt] using h
  show (w.heap.modify b _)[b]? = _
  rw [Array.getElem?_modify]
  simp [h', hlt]

theorem Has.front {w : World} {ao : Option Addr} {len cap n : Nat} {rest : List UInt8} (h : Has w (.slice ao len cap) rest) (hn : n ≤ rest.length) : Has w (.slice ao n cap) (rest.take n) := by
  rcases h with ⟨e, rfl⟩ | ⟨a, c, e, hsp, hl, hm, hb, hc⟩
  · simp only [Value.slice.injEq] at e
    obtain ⟨rfl, rfl, rfl⟩ := e
    have : n = 0 := by simpa using hn
    subst this
    exact Or.inl ⟨rfl, by simp⟩
  · simp only [Value.slice.injEq] at e
    obtain ⟨rfl, rfl, rfl⟩ := e
    have hl' : (rest.take n).length = n := by simp; omega
    exact Or.inr ⟨a, cap, by rw [hl'], fun h0 => hsp (by omega), by omega, hm, fun h0 => hb (by omega), fun j hj => by rw [hl'] at hj; simpa using hc j (by omega)⟩

theorem Has.back {w : World} {ao : Option Addr} {len cap n : Nat} {rest : List UInt8} (h : Has w (.slice ao len cap) rest) (hn : n ≤ rest.length) : Has w (.slice (ao.map (fun x => x.add n)) (rest.length - n) (cap - n)) (rest.drop n) := by
  rcases h with ⟨e, rfl⟩ | ⟨a, c, e, hsp, hl, hm, hb, hc⟩
  · simp only [Value.slice.injEq] at e
    obtain ⟨rfl, rfl, rfl⟩ := e
    have : n = 0 := by simpa using hn
    subst this
    exact Or.inl ⟨rfl, by simp⟩
  · simp only [Value.slice.injEq] at e
    obtain ⟨rfl, rfl, rfl⟩ := e
    have hl' : (rest.drop n).length = rest.length - n := by simp
    have hab : (a.add n).block = a.block ∧ (a.add n).off = a.off + n := by unfold Addr.add; split <;> simp_all
    refine Or.inr ⟨a.add n, cap - n, by rw [hl']; rfl, ?_, by omega, by omega, fun h0 => by rw [hab.1]; exact hb (by omega), fun j hj => ?_⟩
    · intro h0
      have := hsp (by omega)
      unfold Addr.add
      split <;> simp_all
    rw [hl'] at hj
    have := hc (n + j) (by omega)
    simp only [List.getElem_drop]
    rw [hab.1, hab.2, show a.off + n + j = a.off + (n + j) by omega]
    exact this

theorem Has.backNone {w : World} {ao : Option Addr} {len n : Nat} {rest : List UInt8} (h : Has w (.slice ao len n) rest) (hn : n ≤ rest.length) : Has w (.slice ao (rest.length - n) 0) (rest.drop n) := by
  rcases h with ⟨e, rfl⟩ | ⟨a, c, e, hsp, hl, hm, hb, hc⟩
  · simp only [Value.slice.injEq] at e
    obtain ⟨rfl, rfl, rfl⟩ := e
    exact Or.inl ⟨rfl, by simp⟩
  · simp only [Value.slice.injEq] at e
    obtain ⟨rfl, rfl, rfl⟩ := e
    have h0 : rest.length - n = 0 := by omega
    have h1 : rest.drop n = [] := List.drop_eq_nil_of_le (by omega)
    rw [h0, h1]
    exact Or.inr ⟨a, 0, rfl, fun h => by simp at h, by simp, by unfold maxLen; omega, fun h0 => by simp at h0, fun j hj => by simp at hj⟩

theorem blk_add (ao : Option Addr) (n l c l' c' : Nat) : blk (.slice (ao.map (fun x => x.add n)) l c) = blk (.slice ao l' c') := by
  cases ao with
  | none => rfl
  | some a => simp only [blk, Option.map_some, Addr.add]; split <;> rfl

theorem str_conv {w : World} {v : Value} {bs : List UInt8} (h : Has w v bs) : (convert 22 9 v).run Tryd.prog w = .ok (.string (str bs)) w :=
  run_convert_has 22 5 9 Tryd.underlying22 Tryd.underlying5 Tryd.underlying9 h

theorem has_lit {w : World} {g : Nat} {bs : List UInt8} {t : TypeId} {fr : Nat × Nat} (h : w.heap[g]? = some (.cells (bs.map bv).toArray t fr)) (hm : bs.length ≤ maxLen) : Has w (.slice (some ⟨g, 0, none⟩) bs.length bs.length) bs := by
  refine Or.inr ⟨⟨g, 0, none⟩, bs.length, rfl, fun _ => rfl, Nat.le_refl _, hm, fun _ => lt_of_block h, fun j hj => ?_⟩
  simp [World.cell?, h, hj]

/-- a new row of n zeros -/
theorem make_zeros (n : Nat) (hn : n ≤ 281474976710656) : ∃ Z : Array Value, (∀ w : World, (Instr.makeSlice 22 (.int .i64 n) (.int .i64 n)).run Tryd.prog w = .ok (.slice (some ⟨w.heap.size, 0, none⟩) n n) (w.alloc (.cells Z 5))) ∧ ∃ zs : List UInt8, zs.length = n ∧ Z = (zs.map bv).toArray := by
  obtain ⟨i0, hi, hz0, hz1, hz2⟩ := info_parts Tryd.info5
  refine ⟨madeCells #[.int .u8 0] n, fun w => ?_, List.replicate n 0, by simp, ?_⟩
  · have h := run_make (P := Tryd.prog) w 22 5 i0 (.int .u8 0) Tryd.underlying22 hi hz0 .i64 .i64 n n (by omega) (by omega) (by rw [hz2]; omega) (by omega)
    simp only [hz1, Nat.mul_one, Int.toNat_natCast] at h
    exact h
  · apply Array.ext'
    rw [toList_madeCells_one]
    simp [bv]

theorem has_row {w : World} {g n : Nat} {bs : List UInt8} {Z : Array Value} {t : TypeId} {fr : Nat × Nat} (h : w.heap[g]? = some (.cells Z t fr)) (hZ : Z = (bs.map bv).toArray) (hn : bs.length = n) (hm : n ≤ maxLen) : Has w (.slice (some ⟨g, 0, none⟩) n n) bs := by
  subst hZ; subst hn; exact has_lit h hm

end Go.Proofs.YtadpmninoghcjaaDoor
