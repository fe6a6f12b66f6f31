/-
  disk's structs as values: their types' facts, what 'build' makes of them; a disk as it lies in memory.
-/
import Derived.Test.YtmcobkcnpnfobaaGreatDkSpec
namespace Go.Proofs.YtmcobkcnpnfobaaGreat
open Go.RowKit
set_option linter.unusedSimpArgs false
set_option linter.unusedVariables false

def zero64 : List UInt8 := List.replicate 64 0
theorem zero64_length : zero64.length = 64 := rfl

theorem Tryz.infoPen : (Tryz.prog.info? 100).map (fun i => (i.zero, i.size, i.bytes)) = some (some (.agg (pen (0, zero64)).toArray), 65, 72) := by kernel_rfl
theorem Tryz.infoSec : (Tryz.prog.info? 104).map (fun i => (i.zero, i.size, i.bytes)) = some (some (.agg (sec (some zero64)).toArray), 65, 65) := by kernel_rfl
theorem Tryz.sizePen : (Tryz.prog.info? 100).map (·.size) = some 65 := by kernel_rfl
theorem Tryz.sizeSec : (Tryz.prog.info? 104).map (·.size) = some 65 := by kernel_rfl
theorem Tryz.sizeBlk : (Tryz.prog.info? 98).map (·.size) = some 64 := by kernel_rfl
theorem Tryz.zeroPen : ∀ w, (zeroValue 100).run Tryz.prog w = .ok (.agg (pen (0, zero64)).toArray) w := (zero_of_info (P := Tryz.prog) (t := 100) (v := .agg (pen (0, zero64)).toArray) (n := 65) (by kernel_rfl)).1
theorem Tryz.zeroSec : ∀ w, (zeroValue 104).run Tryz.prog w = .ok (.agg (sec (some zero64)).toArray) w := (zero_of_info (P := Tryz.prog) (t := 104) (v := .agg (sec (some zero64)).toArray) (n := 65) (by kernel_rfl)).1

theorem Tryz.zcPen : Tryz.zeroCells100 = (pen (0, zero64)).toArray := by kernel_rfl
theorem Tryz.zcSec : Tryz.zeroCells104 = (sec (some zero64)).toArray := by kernel_rfl
theorem foldl_setMany (vs : List Value) : ∀ (k : Nat) (off : Nat) (c : Array Value), ((vs.zipIdx k).foldl (fun (cs : Array Value) (x : Value × Nat) => cs.setIfInBounds (off + x.2) x.1) c).toList = setMany c.toList (off + k) vs := by
  induction vs with
  | nil => intro k off c; rfl
  | cons v r ih =>
    intro k off c
    rw [List.zipIdx_cons, List.foldl_cons, ih, setMany]
    simp [Nat.add_assoc]

theorem fill_one (place : Nat → Option (Nat × Nat)) (cells : Array Value) (i : Nat) (v : Value) (off size : Nat) (hp : place i = some (off, size)) (hs : v.cells.size = size) (hf : off + size ≤ cells.size) :
    Instr.fill place cells [(i, v)] = some (setMany cells.toList off v.cells.toList).toArray := by
  have h1 : ¬ (v.cells.size ≠ size || off + v.cells.size > cells.size) = true := by simp [hs]; omega
  have h2 := foldl_setMany v.cells.toList 0 off cells
  simp only [Instr.fill, hp]
  rw [if_neg h1]
  congr 1
  apply Array.ext'
  rw [Nat.add_zero] at h2
  rw [← h2]
  simp only [← Array.toList_zipIdx, Array.foldl_toList]

theorem fold_zero (vs : List Value) (c : List Value) : vs.zipIdx.foldl (fun (cs : Array Value) (x : Value × Nat) => cs.setIfInBounds x.2 x.1) c.toArray = (setMany c 0 vs).toArray := by
  have h := foldl_setMany vs 0 0 c.toArray
  simp only [Nat.zero_add] at h
  apply Array.ext'
  exact h

/-- 'build' of a sector, as the walk leaves it -/
theorem fold_sec (bs : List UInt8) (hl : bs.length = 64) : (bs.map bv).zipIdx.foldl (fun (cs : Array Value) (x : Value × Nat) => cs.setIfInBounds x.2 x.1) (sec (some zero64)).toArray = (sec (some bs)).toArray := by
  have hm := setMany_eq (bs.map bv) (sec (some zero64)) 0 (by simp [sec, zero64, hl])
  have hd : (sec (some zero64)).drop (0 + (bs.map bv).length) = [.bool false] := by simp [sec, zero64, hl]
  rw [hd] at hm
  rw [fold_zero, hm]
  rfl

theorem build_pen (x : Int) (w : World) : (Instr.build 100 #[(0, .int .i64 x)]).run Tryz.prog w = .ok (.agg (Value.int .i64 x :: zero64.map bv).toArray) w := by
  have hf : Instr.fill (fun i => ([(0, 1), (1, 64)] : List (Nat × Nat))[i]?) (pen (0, zero64)).toArray [(0, .int .i64 x)] = some (Value.int .i64 x :: zero64.map bv).toArray :=
    (fill_one _ _ _ _ 0 1 rfl rfl (by simp [pen, zero64])).trans (by simp [Value.cells, setMany, pen])
  simp [Instr.build, Tryz.zeroPen, Tryz.zcPen, Value.cells, hf]
theorem build_torn (w : World) : (Instr.build 104 #[(1, .bool true)]).run Tryz.prog w = .ok (.agg (sec none).toArray) w := by
  have hf : Instr.fill (fun i => ([(0, 64), (64, 1)] : List (Nat × Nat))[i]?) (sec (some zero64)).toArray [(1, .bool true)] = some (sec none).toArray :=
    (fill_one _ _ _ _ 64 1 rfl rfl (by simp [sec, zero64])).trans (by rfl)
  simp [Instr.build, Tryz.zeroSec, Tryz.zcSec, Value.cells, hf]
theorem build_sec (bs : List UInt8) (hl : bs.length = 64) (w : World) : (Instr.build 104 #[(0, .agg (bs.map bv).toArray)]).run Tryz.prog w = .ok (.agg (sec (some bs)).toArray) w := by
  have hm := setMany_eq (bs.map bv) (sec (some zero64)) 0 (by simp [sec, zero64, hl])
  have hd : (sec (some zero64)).drop (0 + (bs.map bv).length) = [.bool false] := by simp [sec, zero64, hl]
  rw [hd] at hm
  have hf : Instr.fill (fun i => ([(0, 64), (64, 1)] : List (Nat × Nat))[i]?) (sec (some zero64)).toArray [(0, .agg (bs.map bv).toArray)] = some (sec (some bs)).toArray :=
    (fill_one _ _ _ _ 0 64 rfl (by simp [Value.cells, hl]) (by simp [sec, zero64])).trans (by
      simp only [Value.cells]
      rw [hm]
      rfl)
  simp [Instr.build, Tryz.zeroSec, Tryz.zcSec, Value.cells, hf]

theorem buildSlice_pen (p : Nat × List UInt8) (hl : p.2.length = 64) (w : World) : (Instr.buildSlice 82 1 #[(0, .agg (pen p).toArray)]).run Tryz.prog w = .ok (.slice (some ⟨w.heap.size, 0, none⟩) 1 1) (w.alloc (.cells (pen p).toArray 100)) := by
  have hpl := pen_length hl
  have hm := setMany_eq (pen p) (Array.map (fun x => (pen (0, zero64))[x % 65]?.getD default) (Array.range 65)).toList 0 (by simp [hpl])
  have hd : (Array.map (fun x => (pen (0, zero64))[x % 65]?.getD default) (Array.range 65)).toList.drop (0 + (pen p).length) = [] := by rw [hpl]; exact List.drop_eq_nil_of_le (by simp)
  rw [hd] at hm
  have hf : Instr.fill (fun i => some (i * 65, 65)) (Array.map (fun x => (pen (0, zero64))[x % 65]?.getD default) (Array.range 65)) [(0, .agg (pen p).toArray)] = some (pen p).toArray :=
    (fill_one _ _ _ _ 0 65 rfl (by simp [Value.cells, hpl]) (by simp)).trans (by
      simp only [Value.cells]
      rw [hm]
      simp)
  have hz : (pen (0, zero64)).toArray.size = 65 := rfl
  have hz2 : (pen (0, zero64)).length = 65 := rfl
  simp [Instr.buildSlice, Tryz.zeroPen, Tryz.zcPen, Value.cells, hz, hz2, hf, newRow, newObj]
  rfl

/-- many cells stored, as the walk leaves it -/
theorem run_storeCells_there {w : World} {b o : Nat} {vs : List Value} (ht : w.there b o vs.length) (h1 : ∀ v ∈ vs, v.oneCell' = true) : (storeCells ⟨b, o, none⟩ vs).run Tryz.prog w = .ok () (w.setCells b o vs) := by
  have := run_storeCells_cells (P := Tryz.prog) b o vs 0 w (fun j hj => by simpa using (ht j hj).1) (fun j hj => by simpa using (ht j hj).2) h1
  simpa using this

/-- disk d lies at block b: its sectors at row g, what pends at pv -/
structure Lie (w : World) (b g cap : Nat) (pv : Value) (d : Dk) : Prop where
  blk : w.heap[b]? = some (.cells #[.slice (some ⟨g, 0, none⟩) d.secs.length cap, pv, .int .i64 d.fuse, .bool d.down, .int .i64 d.works] 84 (0, 0))
  secs : w.ownsRow 0 104 65 (.slice (some ⟨g, 0, none⟩) d.secs.length cap) d.secs.length (d.secs.flatMap sec)
  pend : w.ownsRow 0 100 65 pv d.pend.length (d.pend.flatMap pen)
  gb : g ≠ b
  pb : pv.ownBlock ≠ some b
  pg : pv.ownBlock ≠ some g

theorem cells_five {w : World} {b : Nat} {c0 c1 c2 c3 c4 : Value} {t : TypeId} (h : w.heap[b]? = some (.cells #[c0, c1, c2, c3, c4] t (0, 0))) :
    w.cell? ⟨b, 0, none⟩ = some c0 ∧ w.cell? ⟨b, 1, none⟩ = some c1 ∧ w.cell? ⟨b, 2, none⟩ = some c2 ∧ w.cell? ⟨b, 3, none⟩ = some c3 ∧ w.cell? ⟨b, 4, none⟩ = some c4 ∧ ∀ i, w.frozen? ⟨b, i, none⟩ = false := by
  simp [World.cell?, World.frozen?, h]

theorem Lie.only {S : Nat → Prop} {w w' : World} {b g cap : Nat} {pv : Value} {d : Dk} (h : Lie w b g cap pv d) (ho : Only S w w') (hb : ¬ S b) (hg : ¬ S g) (hp : ∀ k, pv.ownBlock = some k → ¬ S k) : Lie w' b g cap pv d :=
  ⟨ho.heap h.blk hb, ho.owns h.secs (fun k hk => by simp only [Value.ownBlock, Option.some.injEq] at hk; subst hk; exact hg), ho.owns h.pend hp, h.gb, h.pb, h.pg⟩

end Go.Proofs.YtmcobkcnpnfobaaGreat
