/-
  slices.Chunk of bytes of any length, 16 at a time.
  modes.blocks: bytes cut into blocks.
  modes: two blocks, one xored with the other.
  modes.chain.
  modes.join, begin.
  modes.begin.
-/
import Derived.Test.YtdmcnblnoiahcaaAeBlk1
import Derived.RangeFuncBound
import Derived.Test.YtdmcnblnoiahcaaAeBlk2
import Derived.RangeFuncCalls
import Derived.Test.YtdmcnblnoiahcaaAeS1
import Derived.Test.YtdmcnblnoiahcaaAeS4
import Derived.Deep.DeepCutAuto
import Derived.Test.YtdmcnblnoiahcaaMdA
import Derived.Test.YtdmcnblnoiahcaaAeCip
namespace Go.Proofs.Ytdmcnblnoiahcaa
open Go.RowKit Go.Shelf
set_option linter.unusedSimpArgs false
set_option linter.unusedVariables false
attribute [local go_sem] Oper.semAt_some
namespace Md
open Ae (upto upto_succ upto_length Kp2)

set_option maxRecDepth 100000 in
set_option maxHeartbeats 2000000 in
theorem chunk1_in (F : Fence) (n : Nat) (h7 : F.fn 62) (hro : F.round = none) (hn : 1 ≤ n) (l Bs Bn b off m cap : Nat) (ao : Option Addr) (hao : 0 < m → ao = some ⟨b, off, none⟩) (hm : m ≤ 8796093022208) (hcap : 16 * m ≤ cap) (J Jx : List Nat → World → Prop)
    (hY : ∀ pre x W, x < m → J pre W → pre.length < m → YieldAt F (n - 1) Try.prog l #[Ae.part b off x] W fun e W' =>
      (e = .returned (.bool true) ∧ J (pre ++ [x]) W' ∧ Kp2 Bs Bn W W') ∨ (e = .returned (.bool false) ∧ Jx (pre ++ [x]) W'))
    (W : World) (hBs : W.cell? ⟨Bs, 0, none⟩ = some (.slice ao (16 * m) cap)) (hBn : W.cell? ⟨Bn, 0, none⟩ = some (.int .i64 16)) (hJd : ∀ pre W, J pre W → J pre W.drew) (h0 : J [] W) :
    CallsIn F n Try.prog 62 #[.func (.yield l) #[] #[], .pointer (some ⟨Bs, 0, none⟩), .pointer (some ⟨Bn, 0, none⟩)] W fun e W' => (∃ v, e = .returned v) ∧
      ((∃ ys, ys = upto m ∧ J ys W') ∨ (∃ pre, (∃ k, k ≤ m ∧ pre = upto k) ∧ Jx pre W')) := by
  refine callsIn_of_wp Try.func62 rfl h7 ?_ hro
  simp only [Try.ntmps62, List.size_toArray, List.length_cons, List.length_nil, Nat.reduceAdd, Nat.reduceSub, Array.replicate_succ, Array.replicate_zero, List.push_toArray, List.append_toArray, List.nil_append, List.cons_append]
  gi_wp2
  gi_loopw [4, 5] (fun i _ wr => ∃ k : Nat, k ≤ m ∧ i = .int .i64 (16 * (k : Int)) ∧ J (upto k) wr ∧ Kp2 Bs Bn W wr)
    (fun i _ _ => 16 * m - (intOf i).toNat)
  case atStart => exact ⟨0, Nat.zero_le _, rfl, h0, Kp2.refl _ _ _⟩
  case round =>
    obtain ⟨k, hk, rfl, hJs, hnx⟩ := hrel
    have hc1 : wr.cell? ⟨Bs, 0, none⟩ = some (.slice ao (16 * m) cap) := hnx.one hBs
    have hc2 : wr.cell? ⟨Bn, 0, none⟩ = some (.int .i64 16) := hnx.two hBn
    by_cases hlt : k < m
    · have hao2 := hao (by omega)
      rw [hao2] at hc1 hBs
      clear hao
      obtain ⟨fn, tmps, assign, body, hy, hR⟩ := hY _ k wr.drew hlt (hJd _ _ hJs) (by rw [upto_length]; exact hlt)
      unfold Ae.part at hy
      have hkm : 16 * (k : Int) < 16 * (m : Int) := by omega
      have hck : ¬ cap = 16 * k := by omega
      have hmin : ¬ (((16 * m - 16 * k : Nat) : Int) < 16) := by omega
      have hmin2 : (16 : Int) ≤ ((16 * m - 16 * k : Nat) : Int) := by omega
      have HR := hide hR
      have HNX := hide hnx
      clear hR hnx
      gi_wp2
      gi_region
      all_goals gi_wp2
      all_goals (refine (unhide HR).mono ?_)
      all_goals (rintro e W3 (⟨rfl, hJ3, hk3⟩ | ⟨rfl, hJx3⟩))
      all_goals first
        | (have HJ3 := hide hJ3; have HK3 := hide hk3; have hc3 : W3.cell? ⟨Bn, 0, none⟩ = some (.int .i64 16) := hk3.two (show wr.drew.cell? _ = _ from hc2); clear hJ3 hk3; gi_wp2; go_roundw)
        | (have HJX := hide hJx3; clear hJx3; gi_wp2; refine bodyPost_ret (results_none rfl _ _ _) rfl ?_; exact ⟨⟨_, rfl⟩, .inr ⟨_, ⟨k + 1, by omega, (upto_succ _).symm⟩, unhide HJX⟩⟩)
      all_goals first
        | exact ⟨k + 1, by omega, by simp; omega, by rw [upto_succ]; exact unhide HJ3, (unhide HNX).trans ((Kp2.drew Bs Bn wr).trans (unhide HK3))⟩
        | (simp [intOf]; omega)
    · obtain rfl : k = m := by omega
      gi_wp2
      go_end0
      exact ⟨⟨_, rfl⟩, .inl ⟨_, rfl, hJs⟩⟩

theorem chunk_stops (F : Fence) (n : Nat) (h7 : F.fn 62) (hro : F.round = none) (hn : 1 ≤ n) (Bs Bn b off m cap : Nat) (ao : Option Addr) (hao : 0 < m → ao = some ⟨b, off, none⟩) (hm : m ≤ 8796093022208) (hcap : 16 * m ≤ cap) (w : World) (hBs : Bs < w.heap.size) (hBn : Bn < w.heap.size)
    (hc1 : w.cell? ⟨Bs, 0, none⟩ = some (.slice ao (16 * m) cap)) (hc2 : w.cell? ⟨Bn, 0, none⟩ = some (.int .i64 16)) :
    SeqStopsK F n Try.prog 62 #[.pointer (some ⟨Bs, 0, none⟩), .pointer (some ⟨Bn, 0, none⟩)] (fun x : Fin m => #[Ae.part b off x.val]) (Kp2 Bs Bn) (fun ys => ys.map (·.val) = upto m) (fun pre => ∃ k, k ≤ m ∧ pre.map (·.val) = upto k) m w := fun l J Jx W hW hJ hJx hY h0 => by
  refine (chunk1_in F n h7 hro hn l Bs Bn b off m cap ao hao hm hcap (fun ks W => ∃ ys : List (Fin m), ys.map (·.val) = ks ∧ J ys W) (fun ks W => ∃ ys : List (Fin m), ys.map (·.val) = ks ∧ Jx ys W) ?_ W ((hW.cell (p := ⟨Bs, 0, none⟩) hBs).trans hc1) ((hW.cell (p := ⟨Bn, 0, none⟩) hBn).trans hc2) ?_ ⟨[], rfl, h0⟩).mono ?_
  · rintro pre x V hx ⟨ys, hys, hV⟩ hl
    have hq : ys.length < m := by rw [← hys] at hl; simpa using hl
    refine YieldAt.mono (hY ys ⟨x, hx⟩ V hV hq) ?_
    rintro e V' (⟨he, hj, hk⟩ | ⟨he, hj⟩)
    · exact Or.inl ⟨he, ⟨_, by simp [hys], hj⟩, hk⟩
    · exact Or.inr ⟨he, ⟨_, by simp [hys], hj⟩⟩
  · rintro pre V ⟨ys, hys, hV⟩
    exact ⟨ys, hys, hJ _ V V.drew none hV ⟨rfl, rfl, rfl, Nat.le_refl _, fun _ _ _ => rfl⟩ (fun r e => by cases e)⟩
  · rintro e V' ⟨he, ⟨ys, rfl, zs, hz, hj⟩ | ⟨pre, ⟨k, hk, rfl⟩, zs, hz, hj⟩⟩
    · exact ⟨he, Or.inl ⟨zs, hz, hj⟩⟩
    · exact ⟨he, Or.inr ⟨zs, ⟨k, hk, hz⟩, hj⟩⟩

end Md
end Go.Proofs.Ytdmcnblnoiahcaa

namespace Go.Proofs.Ytdmcnblnoiahcaa
open Go.RowKit Go.Shelf
set_option linter.unusedSimpArgs false
set_option linter.unusedVariables false
attribute [local go_sem] Oper.semAt_some
namespace Md
open Ae (upto upto_succ upto_length Kp2 blkOf blkOf_length blkOf_at zero16 Arr stepIn_append bflat chunk_in)

theorem Try.sizeMB : (Try.prog.info? 37).map (·.size) = some 16 := by kernel_rfl
theorem Try.underMB : Try.prog.underlying 37 = some (.array 16 5) := by kernel_rfl
theorem Try.infoMB : (Try.prog.info? 37).map (fun i => (i.zero, i.size, i.bytes)) = some (some (.agg (zero16.map bv).toArray), 16, 16) := by kernel_rfl
theorem Try.underMBs : Try.prog.underlying 40 = some (.slice 37) := by kernel_rfl

/-- [][16]byte{l} -/
theorem buildSlice_blk (l : List UInt8) (hl : l.length = 16) (w : World) : (Instr.buildSlice 40 1 #[(0, .agg (l.map bv).toArray)]).run Try.prog w = .ok (.slice (some ⟨w.heap.size, 0, none⟩) 1 1) (w.alloc (.cells (l.map bv).toArray 37)) := by
  obtain ⟨x0, x1, x2, x3, x4, x5, x6, x7, x8, x9, x10, x11, x12, x13, x14, x15, rfl⟩ : ∃ x0 x1 x2 x3 x4 x5 x6 x7 x8 x9 x10 x11 x12 x13 x14 x15, l = [x0, x1, x2, x3, x4, x5, x6, x7, x8, x9, x10, x11, x12, x13, x14, x15] := by
    match l, hl with
    | [x0, x1, x2, x3, x4, x5, x6, x7, x8, x9, x10, x11, x12, x13, x14, x15], _ => exact ⟨_, _, _, _, _, _, _, _, _, _, _, _, _, _, _, _, rfl⟩
  kernel_rfl

theorem arrayAt_run (a : Addr) (W : World) : (Instr.arrayAt 37 (.slice (some a) 16 16)).run Try.prog W = .ok (.pointer (some a)) W := by
  simp [Instr.arrayAt, run_underlying Try.underMB, go_sem]

/-- a load of 16 cells, and a row of one such element, kept whole -/
def loadBlk (v : Value) : Sem Value := Instr.loadAt 37 v
def rowBlk (v : Value) : Sem Value := Instr.buildSlice 40 1 #[(0, v)]
theorem execOp_loadBlk (ρ : Operand → Value) (dst : Option Tmp) (x : Operand) (ty : TypeId) (pos : String) (af : Array Edge) (gd : Option (Nat × Bool)) :
    execOp ρ { dst := dst, op := .load 37 x, type := ty, pos := pos, after := af, guard := gd } = (do pure (.value (← loadBlk (ρ x)))) := rfl
theorem execOp_rowBlk (ρ : Operand → Value) (dst : Option Tmp) (x : Operand) (ty : TypeId) (pos : String) (af : Array Edge) (gd : Option (Nat × Bool)) :
    execOp ρ { dst := dst, op := .buildSlice 40 1 #[(0, x)], type := ty, pos := pos, after := af, guard := gd } = (do pure (.value (← rowBlk (ρ x)))) := by
  unfold execOp rowBlk
  simp only [List.map_toArray, List.map_cons, List.map_nil]

attribute [local go_sem ↓] execOp_loadBlk execOp_rowBlk

set_option maxRecDepth 100000 in
set_option maxHeartbeats 2000000 in
theorem blocks_in (F : Fence) (n : Nat) (h3 : F.fn 15) (h5 : F.fn 42) (h7 : F.fn 62) (hro : F.round = none) (hn : 3 ≤ n)
    (b off m cap : Nat) (ao : Option Addr) (hao : 0 < m → ao = some ⟨b, off, none⟩) (bs : List UInt8) (hm : m ≤ 8796093022208) (hcap : 16 * m ≤ cap) (hlen : bs.length = 16 * m) (w : World) (hbw : 0 < m → b < w.heap.size) (hcs : ∀ j x, bs[j]? = some x → w.cell? ⟨b, off + j, none⟩ = some (bv x)) :
    CallsIn F n Try.prog 15 #[.slice ao (16 * m) cap] w fun e W' => ∃ v, e = .returned v ∧ W'.ownsRow w.heap.size 37 16 v m (bflat bs (upto m)) ∧ Below w.heap.size w W' := by
  have h1 : 1 ≤ n := by omega
  obtain ⟨i0, hi, hz0, hz1, hz2⟩ := info_parts Try.infoMB
  refine callsIn_of_wp_marks Try.func15 rfl h3 ?_ hro
  simp only [Try.ntmps15, List.size_toArray, List.length_cons, List.length_nil, Nat.reduceAdd, Nat.reduceSub, Array.replicate_succ, Array.replicate_zero, List.push_toArray, List.append_toArray, List.nil_append, List.cons_append]
  gi_wp2_with (gi_at_call 42; refine (chunk_in F (n - 1) h5 hro _ _ _ _).mono ?_; rintro e w' ⟨rfl, rfl⟩)
  have bO := ((Boxed.new w 40 (.slice none 0 0)).alloc (.cells #[Value.slice ao (16 * m) cap] 22)).alloc (.cells #[Value.int IntKind.i64 16] 3)
  have bS := (Boxed.new (w.alloc (.cells #[.slice none 0 0] 40)) 22 (.slice ao (16 * m) cap)).alloc (.cells #[Value.int IntKind.i64 16] 3)
  have bN := Boxed.new ((w.alloc (.cells #[.slice none 0 0] 40)).alloc (.cells #[Value.slice ao (16 * m) cap] 22)) 3 (.int .i64 16)
  rw [World.size_alloc] at bS
  rw [World.size_alloc, World.size_alloc] at bN
  have hB0 : Below w.heap.size w (((w.alloc (.cells #[.slice none 0 0] 40)).alloc (.cells #[Value.slice ao (16 * m) cap] 22)).alloc (.cells #[Value.int IntKind.i64 16] 3)) := (((Below.refl _ w).alloc (Nat.le_refl _) _).alloc (by simp) _).alloc (by simp; omega) _
  have hsz : (((w.alloc (.cells #[.slice none 0 0] 40)).alloc (.cells #[Value.slice ao (16 * m) cap] 22)).alloc (.cells #[Value.int IntKind.i64 16] 3)).heap.size = w.heap.size + 1 + 1 + 1 := by simp
  generalize ((w.alloc (.cells #[.slice none 0 0] 40)).alloc (.cells #[Value.slice ao (16 * m) cap] 22)).alloc (.cells #[Value.int IntKind.i64 16] 3) = w0 at *
  refine wpIn_rangeFunc_ownG hro h1 (gf := 62) (lb := #[.pointer (some ⟨w.heap.size + 1, 0, none⟩), .pointer (some ⟨w.heap.size + 1 + 1, 0, none⟩)]) rfl h7 (enters_of Try.func62 (by kernel_rfl) rfl)
    (chunk_stops F (n - 1) h7 hro (by omega) (w.heap.size + 1) (w.heap.size + 1 + 1) b off m cap ao hao hm hcap w0 (by omega) (by omega) bS.cell bN.cell) (fun h k => h.trans k)
    (fun W l o o' hl ho hc1 hc2 => ?kp) (Below.refl _ _) (fun _ => rfl)
    (fun pre W => ((∃ v, Boxed W w.heap.size 40 v ∧ W.ownsRow w.heap.size 37 16 v pre.length (bflat bs (pre.map (·.val))) ∧ True) ∧ Below w.heap.size w W) ∧ (Boxed W (w.heap.size + 1) 22 (.slice ao (16 * m) cap) ∧ Boxed W (w.heap.size + 1 + 1) 3 (.int .i64 16)))
    (fun _ _ _ => False)
    ?hI
    (fun _ _ _ _ _ hs _ _ => hs)
    ⟨⟨⟨_, bO, World.ownsRow_nil _ _ _ _, trivial⟩, hB0⟩, bS, bN⟩
    (fun x => { tmps := #[.slice ao (16 * m) cap, undef, .slice none 0 0, .pointer (some ⟨w.heap.size, 0, none⟩), Ae.part b off x.val, .slice ao (16 * m) cap, .func (.func 62) #[] #[.pointer (some ⟨w.heap.size + 1, 0, none⟩), .pointer (some ⟨w.heap.size + 1 + 1, 0, none⟩)], Ae.part b off x.val, undef, undef, undef, undef, undef, undef, undef], defers := [] }) ?assign ?body ?done ?stop
  case kp =>
    have hlt := lt_of_block ho
    have hg := grownBy_putObj' W l o'
    exact ⟨hg.block _ (by omega) (by simp; omega), hg.block _ (by omega) (by simp; omega)⟩
  case hI =>
    exact OwnFrom.and (OwnFrom.and (Own.from (holdsRow_own w.heap.size w.heap.size 40 37 16 (fun pre : List (Fin m) => pre.length) (fun pre => bflat bs (pre.map (·.val))) (fun _ _ => True)) _) (ownFrom_below (Nat.le_refl _) (by omega)))
      (OwnFrom.and (Own.from (boxed_own _ _ _) _) (Own.from (boxed_own _ _ _) _))
  case assign =>
    intro l x W K hK
    gi_wp2
    exact hK
  case body =>
    rintro l pre x W ⟨⟨⟨v, hv, hrow, _⟩, hB⟩, hbs, hbn⟩ hlt
    have hx := x.isLt
    have hl16 := blkOf_length bs m x.val hlen hx
    have hcb : ∀ j u, ((blkOf bs x.val).map bv)[j]? = some u → W.cell? ⟨b, off + 16 * x.val + j, none⟩ = some u := by
      intro j u hu
      have hj : j < 16 := by have := (List.getElem?_eq_some_iff.1 hu).1; simpa [hl16] using this
      rw [List.getElem?_map, blkOf_at bs _ _ hj] at hu
      cases hq : bs[16 * x.val + j]? with
      | none => rw [hq] at hu; cases hu
      | some y =>
        rw [hq] at hu
        have := (hB.cell (p := ⟨b, off + (16 * x.val + j), none⟩) (hbw (by omega))).trans (hcs _ y hq)
        rw [show off + 16 * x.val + j = off + (16 * x.val + j) by omega, this]
        exact hu
    obtain ⟨L, hL⟩ : ∃ L, L = blkOf bs x.val := ⟨_, rfl⟩
    rw [← hL] at hl16 hcb
    have hld : (loadBlk (.pointer (some ⟨b, off + 16 * x.val, none⟩))).run Try.prog W.drew = .ok (.agg (L.map bv).toArray) W.drew := run_loadAt_mid (P := Try.prog) W.drew b (off + 16 * x.val) 37 (L.map bv) _ hcb Try.underMB rfl (by rw [Try.sizeMB]; simp [hl16])
    have hbd : (rowBlk (.agg (L.map bv).toArray)).run Try.prog W.drew = .ok (.slice (some ⟨W.heap.size, 0, none⟩) 1 1) (W.alloc (.cells (L.map bv).toArray 37)).drew := buildSlice_blk L hl16 W.drew
    have hArr : Arr (W.alloc (.cells (L.map bv).toArray 37)).drew W.heap.size 37 L := Arr.new W _ L _ rfl
    have hrowA : (W.alloc (.cells (L.map bv).toArray 37)).drew.ownsRow w.heap.size 37 16 v pre.length (bflat bs (pre.map (·.val))) := hrow.alloc _
    obtain ⟨v', w1, hrun, hown', hgrow, _, _⟩ := run_append_own_at (P := Try.prog) (W.alloc (.cells (L.map bv).toArray 37)).drew w.heap.size 40 40 37 i0 (.agg (zero16.map bv).toArray) 16 16 Try.underMBs hi hz0 hz1 hz2 rfl (by decide) v pre.length _ hrowA
      ⟨W.heap.size, 0, none⟩ 1 1 (L.map bv) (by simp [hl16]) (fun j u hu => by rw [addr_add _ rfl, Nat.zero_add]; have := hArr.range j u hu; rwa [Nat.zero_add] at this) (fun u hu => by obtain ⟨y, _, rfl⟩ := List.mem_map.1 hu; rfl) (by unfold maxLen; omega) (by omega) (by show w.heap.size ≤ (W.alloc _).heap.size; have := hB.size; simp; omega)
    obtain ⟨g', cap', rfl⟩ := ownsRow_succ hown'
    have hgrow' : (W.alloc (.cells (L.map bv).toArray 37)).grownBy w1 v.ownBlock := ⟨hgrow.os, hgrow.tape, hgrow.output, hgrow.size, hgrow.block⟩
    obtain ⟨hv1, hv2, hr2, hk2, hb2⟩ := hv.appended (by decide) hrow hB.size (Nat.le_refl _) hown' hgrow'
    have hc := hv.cell
    have hcA : (W.alloc (.cells (L.map bv).toArray 37)).cell? ⟨w.heap.size, 0, none⟩ = some v := (hv.alloc _).cell
    have hc1 := hv1.cell
    have hf1 := hv1.frozen
    have hbs2 : Boxed (w1.setCell ⟨w.heap.size, 0, none⟩ (.slice (some ⟨g', 0, none⟩) (pre.length + 1) cap')) (w.heap.size + 1) 22 (.slice ao (16 * m) cap) := ((hbs.alloc _).kept hgrow' (hbs.not_row (by decide) hrow)).kept (grownBy_setCell' w1 _ _) (by simp)
    have hbn2 : Boxed (w1.setCell ⟨w.heap.size, 0, none⟩ (.slice (some ⟨g', 0, none⟩) (pre.length + 1) cap')) (w.heap.size + 1 + 1) 3 (.int .i64 16) := ((hbn.alloc _).kept hgrow' (hbn.not_row (by decide) hrow)).kept (grownBy_setCell' w1 _ _) (by simp; omega)
    have hnorm : ownPostG w0.heap.size (Kp2 (w.heap.size + 1) (w.heap.size + 1 + 1)) (fun (pre : List (Fin m)) W => ((∃ v, Boxed W w.heap.size 40 v ∧ W.ownsRow w.heap.size 37 16 v pre.length (bflat bs (pre.map (·.val))) ∧ True) ∧ Below w.heap.size w W) ∧ (Boxed W (w.heap.size + 1) 22 (.slice ao (16 * m) cap) ∧ Boxed W (w.heap.size + 1 + 1) 3 (.int .i64 16))) (fun _ _ _ => False) (pre ++ [x]) W .normal { tmps := #[], defers := [] } (w1.setCell ⟨w.heap.size, 0, none⟩ (.slice (some ⟨g', 0, none⟩) (pre.length + 1) cap')) := by
      refine ⟨hk2.from _, ⟨hbs2.trans hbs.symm, hbn2.trans hbn.symm⟩, ⟨⟨_, hv2, ?_, trivial⟩, hB.trans hb2⟩, hbs2, hbn2⟩
      rw [List.length_append, List.length_singleton]
      have e : bflat bs ((pre ++ [x]).map (·.val)) = bflat bs (pre.map (·.val)) ++ L.map bv := by
        unfold bflat
        rw [List.map_append, List.flatMap_append, hL]
        simp
      rw [e]
      exact hr2
    have HN := hide hnorm
    clear hnorm hv1 hv2 hr2 hk2 hb2 hbs2 hbn2 hgrow hgrow' hown' hrowA hArr hrow hv hbs hbn hcb hL
    have haa := arrayAt_run ⟨b, off + 16 * x.val, none⟩ W.drew
    unfold Ae.part
    gi_wp2
    have HRUN := hide hrun
    clear hrun
    refine wpIn_region_any (by kernel_rfl) ?_
    try (change wpAnyIn _ _ _ _ _ _ _ _ _ (World.drew _))
    refine wpAnyIn_ready (rs := [0, 1]) (by kernel_rfl) (by simp) ?_
    refine (AllReadyIn.cons rfl (fun K hK => ?_) (AllReadyIn.cons rfl (fun K hK => ?_) AllReadyIn.nil))
    · skip
      go_simp
      refine hK _ _ ?_
      clear hK K
      try simp only [Act.put, List.setIfInBounds_toArray, List.set_cons_zero, List.set_cons_succ, List.getElem_toArray, List.getElem_cons_succ, List.getElem_cons_zero]
      refine wpAnyIn_ready (rs := [1]) (by kernel_rfl) (by simp) ?_
      refine (AllReadyIn.cons rfl (fun K hK => ?_) AllReadyIn.nil)
      · skip
        go_simp
        refine hK _ _ ?_
        clear hK K
        try simp only [Act.put, List.setIfInBounds_toArray, List.set_cons_zero, List.set_cons_succ, List.getElem_toArray, List.getElem_cons_succ, List.getElem_cons_zero]
        refine wpAnyIn_ready (rs := [2]) (by kernel_rfl) (by simp) ?_
        refine (AllReadyIn.cons rfl (fun K hK => ?_) AllReadyIn.nil)
        · skip
          go_simp
          refine hK _ _ ?_
          clear hK K
          try simp only [Act.put, List.setIfInBounds_toArray, List.set_cons_zero, List.set_cons_succ, List.getElem_toArray, List.getElem_cons_succ, List.getElem_cons_zero]
          refine wpAnyIn_ready (rs := [3]) (by kernel_rfl) (by simp) ?_
          refine (AllReadyIn.cons rfl (fun K hK => ?_) AllReadyIn.nil)
          · skip
            go_simp
            refine hK _ _ ?_
            clear hK K
            try simp only [Act.put, List.setIfInBounds_toArray, List.set_cons_zero, List.set_cons_succ, List.getElem_toArray, List.getElem_cons_succ, List.getElem_cons_zero]
            refine wpAnyIn_ready (rs := [4]) (by kernel_rfl) (by simp) ?_
            refine (AllReadyIn.cons rfl (fun K hK => ?_) AllReadyIn.nil)
            · skip
              go_simp
              refine hK _ _ ?_
              clear hK K
              try simp only [Act.put, List.setIfInBounds_toArray, List.set_cons_zero, List.set_cons_succ, List.getElem_toArray, List.getElem_cons_succ, List.getElem_cons_zero]
              refine wpAnyIn_ready (rs := [5]) (by kernel_rfl) (by simp) ?_
              refine (AllReadyIn.cons rfl (fun K hK => ?_) AllReadyIn.nil)
              · skip
                refine stepIn_append rfl (.tmp 8) (.tmp 12) 40 rfl _ _ _ _ rfl rfl (unhide HRUN) ?_
                refine hK _ _ ?_
                clear hK K
                try simp only [Act.put, List.setIfInBounds_toArray, List.set_cons_zero, List.set_cons_succ, List.getElem_toArray, List.getElem_cons_succ, List.getElem_cons_zero]
                refine wpAnyIn_ready (rs := [6]) (by kernel_rfl) (by simp) ?_
                refine (AllReadyIn.cons rfl (fun K hK => ?_) AllReadyIn.nil)
                · skip
                  go_simp
                  refine hK _ _ ?_
                  clear hK K
                  try simp only [Act.put, List.setIfInBounds_toArray, List.set_cons_zero, List.set_cons_succ, List.getElem_toArray, List.getElem_cons_succ, List.getElem_cons_zero]
                  refine wpAnyIn_done (by kernel_rfl) ?_ _
                  exact unhide HN
    · skip
      go_simp
      refine hK _ _ ?_
      clear hK K
      try simp only [Act.put, List.setIfInBounds_toArray, List.set_cons_zero, List.set_cons_succ, List.getElem_toArray, List.getElem_cons_succ, List.getElem_cons_zero]
      refine wpAnyIn_ready (rs := [0, 2]) (by kernel_rfl) (by simp) ?_
      refine (AllReadyIn.cons rfl (fun K hK => ?_) (AllReadyIn.cons rfl (fun K hK => ?_) AllReadyIn.nil))
      · skip
        go_simp
        refine hK _ _ ?_
        clear hK K
        try simp only [Act.put, List.setIfInBounds_toArray, List.set_cons_zero, List.set_cons_succ, List.getElem_toArray, List.getElem_cons_succ, List.getElem_cons_zero]
        refine wpAnyIn_ready (rs := [2]) (by kernel_rfl) (by simp) ?_
        refine (AllReadyIn.cons rfl (fun K hK => ?_) AllReadyIn.nil)
        · skip
          go_simp
          refine hK _ _ ?_
          clear hK K
          try simp only [Act.put, List.setIfInBounds_toArray, List.set_cons_zero, List.set_cons_succ, List.getElem_toArray, List.getElem_cons_succ, List.getElem_cons_zero]
          refine wpAnyIn_ready (rs := [3]) (by kernel_rfl) (by simp) ?_
          refine (AllReadyIn.cons rfl (fun K hK => ?_) AllReadyIn.nil)
          · skip
            go_simp
            refine hK _ _ ?_
            clear hK K
            try simp only [Act.put, List.setIfInBounds_toArray, List.set_cons_zero, List.set_cons_succ, List.getElem_toArray, List.getElem_cons_succ, List.getElem_cons_zero]
            refine wpAnyIn_ready (rs := [4]) (by kernel_rfl) (by simp) ?_
            refine (AllReadyIn.cons rfl (fun K hK => ?_) AllReadyIn.nil)
            · skip
              go_simp
              refine hK _ _ ?_
              clear hK K
              try simp only [Act.put, List.setIfInBounds_toArray, List.set_cons_zero, List.set_cons_succ, List.getElem_toArray, List.getElem_cons_succ, List.getElem_cons_zero]
              refine wpAnyIn_ready (rs := [5]) (by kernel_rfl) (by simp) ?_
              refine (AllReadyIn.cons rfl (fun K hK => ?_) AllReadyIn.nil)
              · skip
                refine stepIn_append rfl (.tmp 8) (.tmp 12) 40 rfl _ _ _ _ rfl rfl (unhide HRUN) ?_
                refine hK _ _ ?_
                clear hK K
                try simp only [Act.put, List.setIfInBounds_toArray, List.set_cons_zero, List.set_cons_succ, List.getElem_toArray, List.getElem_cons_succ, List.getElem_cons_zero]
                refine wpAnyIn_ready (rs := [6]) (by kernel_rfl) (by simp) ?_
                refine (AllReadyIn.cons rfl (fun K hK => ?_) AllReadyIn.nil)
                · skip
                  go_simp
                  refine hK _ _ ?_
                  clear hK K
                  try simp only [Act.put, List.setIfInBounds_toArray, List.set_cons_zero, List.set_cons_succ, List.getElem_toArray, List.getElem_cons_succ, List.getElem_cons_zero]
                  refine wpAnyIn_done (by kernel_rfl) ?_ _
                  exact unhide HN
      · skip
        go_simp
        refine hK _ _ ?_
        clear hK K
        try simp only [Act.put, List.setIfInBounds_toArray, List.set_cons_zero, List.set_cons_succ, List.getElem_toArray, List.getElem_cons_succ, List.getElem_cons_zero]
        refine wpAnyIn_ready (rs := [0, 3]) (by kernel_rfl) (by simp) ?_
        refine (AllReadyIn.cons rfl (fun K hK => ?_) (AllReadyIn.cons rfl (fun K hK => ?_) AllReadyIn.nil))
        · skip
          go_simp
          refine hK _ _ ?_
          clear hK K
          try simp only [Act.put, List.setIfInBounds_toArray, List.set_cons_zero, List.set_cons_succ, List.getElem_toArray, List.getElem_cons_succ, List.getElem_cons_zero]
          refine wpAnyIn_ready (rs := [3]) (by kernel_rfl) (by simp) ?_
          refine (AllReadyIn.cons rfl (fun K hK => ?_) AllReadyIn.nil)
          · skip
            go_simp
            refine hK _ _ ?_
            clear hK K
            try simp only [Act.put, List.setIfInBounds_toArray, List.set_cons_zero, List.set_cons_succ, List.getElem_toArray, List.getElem_cons_succ, List.getElem_cons_zero]
            refine wpAnyIn_ready (rs := [4]) (by kernel_rfl) (by simp) ?_
            refine (AllReadyIn.cons rfl (fun K hK => ?_) AllReadyIn.nil)
            · skip
              go_simp
              refine hK _ _ ?_
              clear hK K
              try simp only [Act.put, List.setIfInBounds_toArray, List.set_cons_zero, List.set_cons_succ, List.getElem_toArray, List.getElem_cons_succ, List.getElem_cons_zero]
              refine wpAnyIn_ready (rs := [5]) (by kernel_rfl) (by simp) ?_
              refine (AllReadyIn.cons rfl (fun K hK => ?_) AllReadyIn.nil)
              · skip
                refine stepIn_append rfl (.tmp 8) (.tmp 12) 40 rfl _ _ _ _ rfl rfl (unhide HRUN) ?_
                refine hK _ _ ?_
                clear hK K
                try simp only [Act.put, List.setIfInBounds_toArray, List.set_cons_zero, List.set_cons_succ, List.getElem_toArray, List.getElem_cons_succ, List.getElem_cons_zero]
                refine wpAnyIn_ready (rs := [6]) (by kernel_rfl) (by simp) ?_
                refine (AllReadyIn.cons rfl (fun K hK => ?_) AllReadyIn.nil)
                · skip
                  go_simp
                  refine hK _ _ ?_
                  clear hK K
                  try simp only [Act.put, List.setIfInBounds_toArray, List.set_cons_zero, List.set_cons_succ, List.getElem_toArray, List.getElem_cons_succ, List.getElem_cons_zero]
                  refine wpAnyIn_done (by kernel_rfl) ?_ _
                  exact unhide HN
        · skip
          go_simp
          refine hK _ _ ?_
          clear hK K
          try simp only [Act.put, List.setIfInBounds_toArray, List.set_cons_zero, List.set_cons_succ, List.getElem_toArray, List.getElem_cons_succ, List.getElem_cons_zero]
          refine wpAnyIn_ready (rs := [0, 4]) (by kernel_rfl) (by simp) ?_
          refine (AllReadyIn.cons rfl (fun K hK => ?_) (AllReadyIn.cons rfl (fun K hK => ?_) AllReadyIn.nil))
          · skip
            go_simp
            refine hK _ _ ?_
            clear hK K
            try simp only [Act.put, List.setIfInBounds_toArray, List.set_cons_zero, List.set_cons_succ, List.getElem_toArray, List.getElem_cons_succ, List.getElem_cons_zero]
            refine wpAnyIn_ready (rs := [4]) (by kernel_rfl) (by simp) ?_
            refine (AllReadyIn.cons rfl (fun K hK => ?_) AllReadyIn.nil)
            · skip
              go_simp
              refine hK _ _ ?_
              clear hK K
              try simp only [Act.put, List.setIfInBounds_toArray, List.set_cons_zero, List.set_cons_succ, List.getElem_toArray, List.getElem_cons_succ, List.getElem_cons_zero]
              refine wpAnyIn_ready (rs := [5]) (by kernel_rfl) (by simp) ?_
              refine (AllReadyIn.cons rfl (fun K hK => ?_) AllReadyIn.nil)
              · skip
                refine stepIn_append rfl (.tmp 8) (.tmp 12) 40 rfl _ _ _ _ rfl rfl (unhide HRUN) ?_
                refine hK _ _ ?_
                clear hK K
                try simp only [Act.put, List.setIfInBounds_toArray, List.set_cons_zero, List.set_cons_succ, List.getElem_toArray, List.getElem_cons_succ, List.getElem_cons_zero]
                refine wpAnyIn_ready (rs := [6]) (by kernel_rfl) (by simp) ?_
                refine (AllReadyIn.cons rfl (fun K hK => ?_) AllReadyIn.nil)
                · skip
                  go_simp
                  refine hK _ _ ?_
                  clear hK K
                  try simp only [Act.put, List.setIfInBounds_toArray, List.set_cons_zero, List.set_cons_succ, List.getElem_toArray, List.getElem_cons_succ, List.getElem_cons_zero]
                  refine wpAnyIn_done (by kernel_rfl) ?_ _
                  exact unhide HN
          · skip
            go_simp
            refine hK _ _ ?_
            clear hK K
            try simp only [Act.put, List.setIfInBounds_toArray, List.set_cons_zero, List.set_cons_succ, List.getElem_toArray, List.getElem_cons_succ, List.getElem_cons_zero]
            refine wpAnyIn_ready (rs := [0]) (by kernel_rfl) (by simp) ?_
            refine (AllReadyIn.cons rfl (fun K hK => ?_) AllReadyIn.nil)
            · skip
              go_simp
              refine hK _ _ ?_
              clear hK K
              try simp only [Act.put, List.setIfInBounds_toArray, List.set_cons_zero, List.set_cons_succ, List.getElem_toArray, List.getElem_cons_succ, List.getElem_cons_zero]
              refine wpAnyIn_ready (rs := [5]) (by kernel_rfl) (by simp) ?_
              refine (AllReadyIn.cons rfl (fun K hK => ?_) AllReadyIn.nil)
              · skip
                refine stepIn_append rfl (.tmp 8) (.tmp 12) 40 rfl _ _ _ _ rfl rfl (unhide HRUN) ?_
                refine hK _ _ ?_
                clear hK K
                try simp only [Act.put, List.setIfInBounds_toArray, List.set_cons_zero, List.set_cons_succ, List.getElem_toArray, List.getElem_cons_succ, List.getElem_cons_zero]
                refine wpAnyIn_ready (rs := [6]) (by kernel_rfl) (by simp) ?_
                refine (AllReadyIn.cons rfl (fun K hK => ?_) AllReadyIn.nil)
                · skip
                  go_simp
                  refine hK _ _ ?_
                  clear hK K
                  try simp only [Act.put, List.setIfInBounds_toArray, List.set_cons_zero, List.set_cons_succ, List.getElem_toArray, List.getElem_cons_succ, List.getElem_cons_zero]
                  refine wpAnyIn_done (by kernel_rfl) ?_ _
                  exact unhide HN
  case done =>
    rintro D ys W hD hys ⟨⟨⟨v, hv, hrow, _⟩, hB⟩, hbs, hbn⟩ hK
    have hc := hv.cell
    gi_wp2
    refine ⟨by simp, .inl ⟨_, _, rfl, run_takeDeferred hK, ?_⟩⟩
    have hyl : ys.length = m := by have := congrArg List.length hys; simpa [upto] using this
    rw [hyl, hys] at hrow
    exact ⟨_, results_tmp rfl _ _ _, v, rfl, ownsRow_putObj hrow _ hK rfl, hB.trans (belowK_b (w := w) (Nat.le_refl _) W D _ _ (by omega) hK rfl rfl)⟩
  case stop =>
    rintro D c pre W _ _ h _
    exact h.elim


set_option maxRecDepth 100000 in
theorem blocks_any (b off m cap : Nat) (ao : Option Addr) (hao : 0 < m → ao = some ⟨b, off, none⟩) (bs : List UInt8) (hm : m ≤ 8796093022208) (hcap : 16 * m ≤ cap) (hlen : bs.length = 16 * m) (w : World) (hbw : 0 < m → b < w.heap.size) (hcs : ∀ j x, bs[j]? = some x → w.cell? ⟨b, off + j, none⟩ = some (bv x)) :
    Calls Try.prog 15 #[.slice ao (16 * m) cap] w fun e w' => ∃ v, e = .returned v ∧ w'.ownsRow w.heap.size 37 16 v m (bflat bs (upto m)) ∧ Only (fun _ => False) w w' :=
  (callsIn_wide (n := 3)).1 ((blocks_in Fence.wide 3 trivial trivial trivial rfl (Nat.le_refl _) b off m cap ao hao bs hm hcap hlen w hbw hcs).mono fun e W' ⟨v, he, ho, hb⟩ => ⟨v, he, ho, Only.ofBelow hb⟩)

end Md
end Go.Proofs.Ytdmcnblnoiahcaa

namespace Go.Proofs.Ytdmcnblnoiahcaa
open Go.RowKit
set_option linter.unusedSimpArgs false
set_option linter.unusedVariables false
namespace Md
open Ae

set_option maxRecDepth 100000 in
theorem xored_any (s k : List UInt8) (w : World) (hs : s.length = 16) (hk : k.length = 16) :
    Calls Try.prog 23 #[.agg (s.map bv).toArray, .agg (k.map bv).toArray] w fun e w' => e = .returned (.agg ((added s k).map bv).toArray) ∧ Only (fun _ => False) w w' := by
  have hal := added_length hs hk
  obtain ⟨w3, b1, b2, b3, e3, eb3, eb2, eb1, a1, a2, a3, o3, n12, n13, n23, hb⟩ := three w s k zero16 37 37 37
  go_enter Try.func23, Try.ntmps23
  go_upto_region 1 with fail
  rw [zeros_eq, ← e3, ← eb3, ← eb2, ← eb1]
  clear e3 eb3 eb2 eb1
  have hr := a2.range
  have A1 := hide a1
  have A3 := hide a3
  have O3 := hide o3
  have HB := hide hb
  clear a1 a3 o3 hb a2
  go_wp2_with (refine wpList_load_mid rfl 37 (.tmp 3) rfl b2 0 rfl (k.map bv) _ hr Try.underMB rfl (by rw [Try.sizeMB]; simp [hk]) ?_)
  clear hr
  go_loopw [5, 6, 8] (fun p q i wr => ∃ n : Nat, n ≤ 16 ∧ i = .int .i64 n ∧ Arr wr b1 37 (mixd (added s k) s n) ∧ Only (fun j => j = b1) w3 wr) (fun _ _ i _ => 16 - (intOf i).toNat)
  case atStart => exact ⟨0, Nat.zero_le _, rfl, by rw [mixd_zero]; exact unhide A1, Only.refl _ _⟩
  case round =>
    obtain ⟨n, hn, rfl, har, hor⟩ := hrel
    by_cases hlt : n < 16
    · have hm := mixd_at (added s k) s 16 n hal hs hlt
      rw [gt_some s n (by omega)] at hm
      have hc := har.cell n _ hm
      have hf := har.free n
      have hw2 := har.set n (gt s n ^^^ gt k n)
      rw [mixd_set _ _ 16 n hal hs hlt _ (added_at s k n (by omega) (by omega))] at hw2
      have HW := hide hw2
      have HO := hide (hor.here n (.int .u8 ((gt s n ^^^ gt k n).toNat : Int)))
      have hx := xor_bv (gt s n) (gt k n)
      have hix := index_st 37 16 k .i64 n Try.underMB hk hlt
      clear hm har hor hw2
      generalize gt s n ^^^ gt k n = z at *
      generalize gt s n = x at *
      generalize gt k n = y at *
      have hn15 : (n : Int) < 16 := by omega
      go_wp2
      go_roundw
      case rel => exact ⟨n + 1, by omega, by go_num, unhide HW, unhide HO⟩
      case measure => simp [intOf]; omega
    · obtain rfl : n = 16 := by omega
      rw [mixd_all _ _ 16 hal hs] at har
      have hr1 := har.range
      have ht3 := (((unhide A3).only hor (fun e => n13 e.symm))).there 16 rfl
      have HA3 := hide ((unhide A3).only hor (fun e => n13 e.symm))
      have HOR := hide hor
      clear har hor
      go_wp2_with (first
        | (refine wpList_load_mid rfl 37 (.tmp 2) rfl b1 0 rfl ((added s k).map bv) _ hr1 Try.underMB rfl (by rw [Try.sizeMB]; simp [hal]) ?_)
        | (refine wpList_store_mid rfl 37 (.tmp 4) (.tmp 19) rfl b3 0 ((added s k).map bv).toArray rfl rfl (by simpa [hal] using ht3) (by rw [Try.sizeMB]; simp [hal]) (ag_one _) ?_))
      refine bodyPost_ret (results_cell_row rfl _ _ b3 37 _ _ _ rfl ((unhide HA3).stored _ (by rw [hal]; rfl)).out Try.underMB rfl (by rw [Try.sizeMB]; simp [hal])) rfl ?_
      exact ⟨rfl, done13 (unhide O3) (unhide HOR) (fun j hj => ⟨((unhide HB) j hj).1, ((unhide HB) j hj).2.2⟩)⟩


theorem made16 (x : World) (s : List UInt8) (hs : s.length = 16) : ∃ wy b, wy = (x.alloc (.cells (zero16.map bv).toArray 37)).setCells x.heap.size 0 (s.map bv).toArray.toList ∧ b = x.heap.size ∧ Arr wy b 37 s ∧ Only (fun _ => False) x wy := by
  refine ⟨_, _, rfl, rfl, (Arr.new x 37 zero16 _ rfl).stored s (by rw [hs]; rfl), Only.setCells (fun h => absurd h (by omega)) _ _ _ ((Only.refl _ x).alloc _)⟩
theorem restored (x : World) (b : Nat) (old new : List UInt8) (h : Arr x b 37 old) (hl : new.length = old.length) : ∃ wy, wy = x.setCells b 0 (new.map bv).toArray.toList ∧ Arr wy b 37 new ∧ Only (fun j => j = b) x wy :=
  ⟨_, rfl, h.stored new hl, Only.setCells (S := fun j => j = b) (fun _ => rfl) _ _ _ (Only.refl _ x)⟩
theorem there16 {x : World} {b : Nat} {old new : List UInt8} (h : Arr x b 37 old) (ho : old.length = 16) (hn : new.length = 16) : x.there b 0 (new.map bv).toArray.size := by
  have h1 := h.there 16 ho.symm
  rw [List.size_toArray, List.length_map, hn]
  exact h1
theorem size16s {new : List UInt8} (hn : new.length = 16) : (Try.prog.info? 37).map (·.size) = some (new.map bv).toArray.size := by
  rw [List.size_toArray, List.length_map, hn]
  exact Try.sizeMB

/-- what stands in a chain ahead of block i -/
def ch (f : List UInt8 → List UInt8) (iv bs : List UInt8) : Nat → List UInt8
  | 0 => iv
  | i + 1 => f (added (blkOf bs i) (ch f iv bs i))
/-- its first i sealed blocks -/
def chT (f : List UInt8 → List UInt8) (iv bs : List UInt8) : Nat → List UInt8
  | 0 => []
  | i + 1 => chT f iv bs i ++ ch f iv bs (i + 1)
theorem ch_length (f : List UInt8 → List UInt8) (hf : ∀ s, s.length = 16 → (f s).length = 16) (iv bs : List UInt8) (hv : iv.length = 16) (m : Nat) (hb : bs.length = 16 * m) (i : Nat) (hi : i ≤ m) : (ch f iv bs i).length = 16 := by
  induction i with
  | zero => exact hv
  | succ i ih => exact hf _ (added_length (blkOf_length bs m i hb (by omega)) (ih (by omega)))
theorem chT_length (f : List UInt8 → List UInt8) (hf : ∀ s, s.length = 16 → (f s).length = 16) (iv bs : List UInt8) (hv : iv.length = 16) (m : Nat) (hb : bs.length = 16 * m) (i : Nat) (hi : i ≤ m) : (chT f iv bs i).length = 16 * i := by
  induction i with
  | zero => rfl
  | succ i ih =>
    show (chT f iv bs i ++ ch f iv bs (i + 1)).length = _
    rw [List.length_append, ih (by omega), ch_length f hf iv bs hv m hb (i + 1) hi]
    omega
theorem bflat_take (bs : List UInt8) (m : Nat) (hb : bs.length = 16 * m) (k : Nat) (hk : k ≤ m) : bflat bs (upto k) = (bs.take (16 * k)).map bv := by
  induction k with
  | zero => rfl
  | succ k ih =>
    have e : bflat bs (upto (k + 1)) = bflat bs (upto k) ++ (blkOf bs k).map bv := by
      unfold bflat
      rw [upto_succ, List.flatMap_append]
      simp
    rw [e, ih (by omega), ← List.map_append]
    congr 1
    unfold blkOf
    rw [show 16 * (k + 1) = 16 * k + 16 by omega, List.take_add]
theorem bflat_all (bs : List UInt8) (m : Nat) (hb : bs.length = 16 * m) : bflat bs (upto m) = bs.map bv := by
  rw [bflat_take bs m hb m (Nat.le_refl _), List.take_of_length_le (by omega)]

end Md
end Go.Proofs.Ytdmcnblnoiahcaa

namespace Go.Proofs.Ytdmcnblnoiahcaa
open Go.RowKit
set_option linter.unusedSimpArgs false
set_option linter.unusedVariables false
namespace Md
open Ae (upto upto_succ upto_length blkOf blkOf_length zero16 Arr bflat added added_length ag_one range_only after execOp_rowBlk)
attribute [local go_sem ↓] Md.execOp_loadBlk Md.execOp_rowBlk

theorem loadM {w : World} {b o : Nat} {s : List UInt8} (h : w.rangeAt b o (s.map bv)) (hs : s.length = 16) : (loadBlk (.pointer (some ⟨b, o, none⟩))).run Try.prog w = .ok (.agg (s.map bv).toArray) w :=
  run_loadAt_mid (P := Try.prog) w b o 37 (s.map bv) _ h Try.underMB rfl (by rw [Try.sizeMB]; simp [hs])

/-- one block more behind a row of blocks that is owned -/
theorem push16 (w : World) (base : Nat) (v : Value) (n : Nat) (xs l : List UInt8) (hl : l.length = 16) (own : w.ownsRow base 37 16 v n (xs.map bv)) (hn : (n + 1) * 16 ≤ 140737488355328) (hb : base ≤ w.heap.size) :
    ∃ g cap w2, (Builtin.append_ #[40, 40] 40 #[v, .slice (some ⟨w.heap.size, 0, none⟩) 1 1]).run Try.prog (w.alloc (.cells (l.map bv).toArray 37)) = .ok (.slice (some ⟨g, 0, none⟩) (n + 1) cap) w2 ∧
      w2.ownsRow base 37 16 (.slice (some ⟨g, 0, none⟩) (n + 1) cap) (n + 1) ((xs ++ l).map bv) ∧ Only (fun j => v.ownBlock = some j) w w2 := by
  obtain ⟨i0, hi, hz0, hz1, hz2⟩ := info_parts Try.infoMB
  have hArr := Arr.new w 37 l _ rfl
  obtain ⟨v', w2, hrun, own2, gr, _, _⟩ := run_append_own_at (P := Try.prog) (w.alloc (.cells (l.map bv).toArray 37)) base 40 40 37 i0 (.agg (zero16.map bv).toArray) 16 16 Try.underMBs hi hz0 hz1 hz2 rfl (by decide) v n _ (own.alloc _)
    ⟨w.heap.size, 0, none⟩ 1 1 (l.map bv) (by simp [hl]) (fun j u hu => by rw [addr_add _ rfl, Nat.zero_add]; have := hArr.range j u hu; rwa [Nat.zero_add] at this) (fun u hu => by obtain ⟨y, _, rfl⟩ := List.mem_map.1 hu; rfl) (by unfold maxLen; omega) (by omega) (by simp; omega)
  obtain ⟨g, cap, rfl⟩ := ownsRow_succ own2
  rw [← List.map_append] at own2
  exact ⟨g, cap, w2, hrun, own2, ((Only.refl _ w).alloc _).grown gr (fun j hj hlt => hj)⟩

theorem wpList_append_run {P : Program} {w : World} {ops : Array Oper} {rest : List Oper} {o : Oper} {a : Act} {Q : Exit → Act → World → Prop} (hgd : o.guard = none) (s x : Operand) (t : TypeId)
    (ho : o.op = .call { callee := .builtin .append, args := #[s, x], argTypes := #[t, t] }) (v xv v' : Value) (w' : World) (hs : a.eval s = v) (hxv : a.eval x = xv)
    (hr : (Builtin.append_ #[t, t] o.type #[v, xv]).run P w = .ok v' w') (h : wpList P ops Q rest (a.put o.dst v') w') : wpList P ops Q (o :: rest) a w :=
  wpList_plain hgd fun _ hK => by
    unfold Oper.wp execOp
    simp only [ho, resolve, invoke, builtin, Sem.run_bind, Sem.run_pure, Result.andThen_ok, List.map_toArray, List.map_cons, List.map_nil, hs, hxv, hr]
    exact hK _ _ h

/-- calls that seal a block: what f says, in every world that has come of w -/
def Acts (w : World) (fn : FuncId) (cb : Nat) (f : List UInt8 → List UInt8) : Prop := ∀ (s : List UInt8) (W : World), s.length = 16 → Only (fun _ => False) w W → Calls Try.prog fn #[.pointer (some ⟨cb, 0, none⟩), .agg (s.map bv).toArray] W fun e w' => e = .returned (.agg ((f s).map bv).toArray) ∧ Only (fun _ => False) W w'
theorem Acts.new {w w' : World} {fn : FuncId} {cb : Nat} {f : List UInt8 → List UInt8} (h : Acts w fn cb f) (o : Only (fun _ => False) w w') : Acts w' fn cb f := fun s W hs ho => h s W hs (o.trans ho (fun _ _ e => e))

set_option maxRecDepth 100000 in
set_option maxHeartbeats 2000000 in
theorem chain_any (cb m : Nat) (f : List UInt8 → List UInt8) (hf : ∀ s, s.length = 16 → (f s).length = 16) (iv bs : List UInt8) (hv : iv.length = 16) (hb : bs.length = 16 * m) (hm : m ≤ 8796093022208) (v : Value) (w : World) (HS : Hid (Acts w 13 cb f)) (base : Nat)
    (hown : w.ownsRow base 37 16 v m (bflat bs (upto m))) :
    Calls Try.prog 17 #[.pointer (some ⟨cb, 0, none⟩), .agg (iv.map bv).toArray, v] w fun e w' => ∃ v', e = .returned v' ∧ w'.ownsRow w.heap.size 37 16 v' m ((chT f iv bs m).map bv) ∧ Only (fun _ => False) w w' := by
  obtain ⟨ao, cap, rfl⟩ := ownsRow_shape hown
  have A4 := Arr.new w 37 iv _ rfl
  have O4 := (Only.refl (fun _ => False) w).alloc (.cells (iv.map bv).toArray 37)
  have HA4 := hide A4
  have HO4 := hide O4
  have HOWN := hide hown
  have hsz : (w.alloc (.cells (iv.map bv).toArray 37)).heap.size = w.heap.size + 1 := by simp
  have HSZ := hide hsz
  clear A4 O4 hown hsz
  go_enter Try.func17, Try.ntmps17
  go_upto_region 1 with fail
  generalize w.alloc (.cells (iv.map bv).toArray 37) = w4 at *
  generalize hb4 : w.heap.size = b4 at *
  have HB4 := hide hb4
  clear hb4
  go_wp2
  go_loopw [7, 9, 12] (fun s _ i wr => ∃ k : Nat, k ≤ m ∧ i = .int .i64 k ∧ Hid (wr.ownsRow (b4 + 1) 37 16 s k ((chT f iv bs k).map bv)) ∧ Hid (Arr wr b4 37 (ch f iv bs k)) ∧ Hid (Only (fun j => j = b4) w4 wr)) (fun _ _ i _ => m - (intOf i).toNat)
  case atStart => exact ⟨0, Nat.zero_le _, rfl, World.ownsRow_nil _ _ _ _, HA4, Only.refl _ _⟩
  case round =>
    rename World => wr
    obtain ⟨k, hk, rfl, hrow, har, hor⟩ := hrel
    by_cases hlt : k < m
    · obtain ⟨g, rfl⟩ : ∃ g, ao = some ⟨g, 0, none⟩ := by
        rcases (unhide HOWN).2 with ⟨e, _⟩ | ⟨g, c2, cur, e, _⟩
        · simp at e; omega
        · simp only [Value.slice.injEq] at e
          exact ⟨g, e.1⟩
      have hgl : g < b4 := by rw [← unhide HB4]; exact ((unhide HOWN).lt g rfl).2
      have OW : Hid (Only (fun _ => False) w wr) := (unhide HO4).trans (unhide hor) (fun j hj e => by have := unhide HB4; omega)
      obtain ⟨B, hB⟩ : ∃ B, B = blkOf bs k := ⟨_, rfl⟩
      have hBl : B.length = 16 := by rw [hB]; exact blkOf_length bs m k hb hlt
      have hrg : wr.rangeAt g (k * 16) (B.map bv) := by
        rw [hB]
        exact range_only (row_range (f := fun k => (blkOf bs k).map bv) (xs := upto m) (unhide HOWN) (fun x hx => by have : x < m := List.mem_range.1 hx; rw [List.length_map, blkOf_length bs m x hb this]) (upto_length m) k k (by simp [upto, hlt])) (unhide OW) (fun e => e)
      have hld := loadM hrg hBl
      obtain ⟨C, hC⟩ : ∃ C, C = ch f iv bs k := ⟨_, rfl⟩
      have hCl : C.length = 16 := by rw [hC]; exact ch_length f hf iv bs hv m hb k hk
      rw [← hC] at har
      have hN1 : Hid (ch f iv bs (k + 1) = f (added B C)) := by rw [hB, hC]; rfl
      have hN2 : Hid (chT f iv bs (k + 1) = chT f iv bs k ++ ch f iv bs (k + 1)) := rfl
      have hal := added_length hBl hCl
      have hfl := hf _ hal
      obtain ⟨wy, b9, ey, eb9, a9, o9⟩ := made16 wr B hBl
      have ht2 : (wr.alloc (.cells (zero16.map bv).toArray 37)).there wr.heap.size 0 (B.map bv).toArray.size := there16 (Arr.new wr 37 zero16 _ rfl) rfl hBl
      have hz2 := size16s hBl
      have HFL := hide hfl
      have HAL := hide hal
      have HBL := hide hBl
      have HCL := hide hCl
      have HRG := hide hrg
      clear hB hC hal hfl hrg
      have hkm : (k : Int) < (m : Int) := by omega
      go_upto_region 5 with (refine wpList_store_mid rfl 37 (.tmp 9) (.tmp 15) rfl wr.heap.size 0 (B.map bv).toArray rfl rfl ht2 hz2 (ag_one _) ?_)
      rw [Ae.zeros_eq, ← ey, ← eb9]
      have A9 := hide a9
      have hl9 := loadM a9.range (unhide HBL)
      have A4y := hide ((unhide har).only o9 (fun e => e))
      have hl4 := loadM (unhide A4y).range (unhide HCL)
      have OWY := hide ((unhide OW).trans o9 (fun _ _ e => e))
      have OR9 := hide o9
      have hsz9 := o9.size
      clear ey eb9 a9 o9 ht2 hz2 hld hBl hCl
      go_wp2_with fail
      refine (xored_any B C wy (unhide HBL) (unhide HCL)).mono ?_
      rintro e x1 ⟨rfl, y1⟩
      have O1 := hide ((unhide OWY).trans y1 (fun _ _ e => e))
      have Y1 := hide y1
      clear y1 hl9 hl4
      go_wp2_with fail
      refine (unhide HS (added B C) x1 (unhide HAL) (unhide O1)).mono ?_
      rintro e x2 ⟨rfl, y2⟩
      have A4x := hide ((unhide A4y).only ((unhide Y1).trans y2 (fun _ _ e => e)) (fun e => e))
      have ht3 := there16 (unhide A4x) (unhide HCL) (unhide HFL)
      have hz3 := size16s (unhide HFL)
      obtain ⟨wz, ez, az, oz⟩ := restored x2 b4 C (f (added B C)) (unhide A4x) (by rw [unhide HFL, unhide HCL])
      have OX : Hid (Only (fun _ => False) wr x2) := ((unhide OR9).trans (unhide Y1) (fun _ _ e => e)).trans y2 (fun _ _ e => e)
      clear y2
      go_upto_region 6 with (refine wpList_store_mid rfl 37 (.tmp 4) (.tmp 20) rfl b4 0 ((f (added B C)).map bv).toArray rfl rfl ht3 hz3 (ag_one _) ?_)
      rw [← unhide hN1] at *
      first
        | rw [← ez]
        | (simp only [List.toList_toArray]; rw [← ez])
      obtain ⟨L, hL⟩ : ∃ L, L = ch f iv bs (k + 1) := ⟨_, rfl⟩
      rw [← hL] at HFL az hN2 ⊢
      have HLL := hide hL
      clear hL
      have hlz := loadM az.range (unhide HFL)
      have hbd : (rowBlk (.agg (L.map bv).toArray)).run Try.prog wz = .ok (.slice (some ⟨wz.heap.size, 0, none⟩) 1 1) (wz.alloc (.cells (L.map bv).toArray 37)) := buildSlice_blk L (unhide HFL) wz
      have hrz := oz.owns ((unhide OX).owns (unhide hrow) (fun _ _ e => e)) (fun j hj e => by have := ((unhide hrow).lt j hj).1; omega)
      obtain ⟨g2, cap2, w2, hrun, own2, op2⟩ := push16 wz (b4 + 1) u7 k (chT f iv bs k) L (unhide HFL) hrz (by omega) (by have h1 := (unhide OX).size; have h2 := oz.size; have h3 := (unhide hor).size; have h4 := unhide HSZ; omega)
      have A5 : Hid (Arr w2 b4 37 L) := az.only op2 (fun e => by have := ((unhide hrow).lt b4 e).1; omega)
      have OWN2 : Hid (w2.ownsRow (b4 + 1) 37 16 (.slice (some ⟨g2, 0, none⟩) (k + 1) cap2) (k + 1) ((chT f iv bs (k + 1)).map bv)) := by rw [unhide hN2]; exact own2
      have OR2 : Hid (Only (fun j => j = b4) w4 w2) := by
        have h1 : Only (fun j => j = b4) w4 wz := ((unhide hor).trans (unhide OX) (fun _ _ e => e.elim)).trans oz (fun _ _ e => e)
        exact h1.trans op2 (fun j hj e => by have := ((unhide hrow).lt j e).1; have h4 := unhide HSZ; omega)
      have HRUN := hide hrun
      clear hrun own2 op2 az oz hrz ez OX hN1 hN2 hor hrow har A4x A4y OWY OR9 O1 Y1 A9 ht3 hz3 HRG HCL HBL HAL
      go_wp2_with (at_builtin; refine wpList_append_run rfl (.tmp 21) (.tmp 23) 40 rfl _ _ _ _ rfl rfl (unhide HRUN) ?_)
      go_roundw
      case rel => exact ⟨k + 1, by omega, by go_num, OWN2, by rw [← unhide HLL]; exact A5, OR2⟩
      case measure => simp [intOf]; omega
    · obtain rfl : k = m := by omega
      have OW : Hid (Only (fun _ => False) w wr) := (unhide HO4).trans (unhide hor) (fun j hj e => by have := unhide HB4; omega)
      go_wp2
      go_ret
      refine ⟨_, rfl, ?_, unhide OW⟩
      rw [unhide HB4]
      exact ownsRow_base (unhide hrow) (by omega)
end Md
end Go.Proofs.Ytdmcnblnoiahcaa

namespace Go.Proofs.Ytdmcnblnoiahcaa
open Go.RowKit
set_option linter.unusedSimpArgs false
set_option linter.unusedVariables false
namespace Md
open Ae (upto upto_succ upto_length blkOf blkOf_length zero16 Arr bflat added added_length ag_one range_only after)
attribute [local go_sem ↓] Md.execOp_loadBlk Md.execOp_rowBlk

/-- m blocks that are read: bs -/
def Blks (w : World) (v : Value) (m : Nat) (bs : List UInt8) : Prop := ∃ ao cap g off, v = .slice ao m cap ∧ (0 < m → ao = some ⟨g, off, none⟩ ∧ g < w.heap.size) ∧ ∀ k, k < m → w.rangeAt g (off + k * 16) ((blkOf bs k).map bv)
theorem Blks.ofOwns {w : World} {base m : Nat} {v : Value} {bs : List UInt8} (hb : bs.length = 16 * m) (h : w.ownsRow base 37 16 v m (bflat bs (upto m))) : Blks w v m bs := by
  have hr : ∀ g cap, v = .slice (some ⟨g, 0, none⟩) m cap → ∀ k, k < m → w.rangeAt g (k * 16) ((blkOf bs k).map bv) := fun g cap e k hk => by
    subst e
    exact row_range (f := fun k => (blkOf bs k).map bv) (xs := upto m) h (fun x hx => by have : x < m := List.mem_range.1 hx; rw [List.length_map, blkOf_length bs m x hb this]) (upto_length m) k k (by simp [upto, hk])
  rcases h.2 with ⟨e, h0⟩ | ⟨g, cap, cur, e, _⟩
  · subst h0
    exact ⟨none, 0, 0, 0, e, fun h => by omega, fun k hk => by omega⟩
  · refine ⟨_, cap, g, 0, e, fun h0 => ⟨rfl, by subst e; exact (h.lt g rfl).2⟩, fun k hk => ?_⟩
    rw [Nat.zero_add]
    exact hr g cap e k hk
theorem Blks.only {w w' : World} {v : Value} {m : Nat} {bs : List UInt8} (h : Blks w v m bs) (o : Only (fun _ => False) w w') : Blks w' v m bs := by
  obtain ⟨ao, cap, g, off, e, h1, h2⟩ := h
  exact ⟨ao, cap, g, off, e, fun h0 => ⟨(h1 h0).1, Nat.lt_of_lt_of_le (h1 h0).2 o.size⟩, fun k hk => range_only (h2 k hk) o (fun e => e)⟩

set_option maxRecDepth 100000 in
set_option maxHeartbeats 2000000 in
theorem join_any (m : Nat) (bs : List UInt8) (hb : bs.length = 16 * m) (hm : m ≤ 8796093022208) (v : Value) (w : World) (hv : Blks w v m bs) :
    Calls Try.prog 18 #[v] w fun e w' => ∃ v', e = .returned v' ∧ Owns w.heap.size w' v' bs ∧ Only (fun _ => False) w w' := by
  obtain ⟨i0, hi, hz0, hz1, hz2⟩ := info_parts Try.info5
  obtain ⟨ao, cap, g, off, rfl, hg, hr⟩ := hv
  have HG := hide hg
  have HR := hide hr
  clear hg hr
  go_enter Try.func18, Try.ntmps18
  go_wp2
  go_loopw [3, 5, 8] (fun s _ i wr => ∃ k : Nat, k ≤ m ∧ i = .int .i64 k ∧ Hid (wr.ownsRow w.heap.size 5 1 s (16 * k) ((bs.take (16 * k)).map bv)) ∧ Hid (Only (fun _ => False) w wr)) (fun _ _ i _ => m - (intOf i).toNat)
  case atStart => exact ⟨0, Nat.zero_le _, rfl, World.ownsRow_nil _ _ _ _, Only.refl _ _⟩
  case round =>
    rename World => wr
    obtain ⟨k, hk, rfl, hrow, hor⟩ := hrel
    by_cases hlt : k < m
    · have hao := (unhide HG (by omega)).1
      subst hao
      obtain ⟨B, hB⟩ : ∃ B, B = blkOf bs k := ⟨_, rfl⟩
      have hBl : B.length = 16 := by rw [hB]; exact blkOf_length bs m k hb hlt
      have hrg : wr.rangeAt g (off + k * 16) (B.map bv) := by
        rw [hB]
        exact range_only (unhide HR k hlt) (unhide hor) (fun e => e)
      have hld := loadM hrg hBl
      have hN : Hid ((bs.take (16 * (k + 1))) = bs.take (16 * k) ++ B) := by
        show _ = _
        rw [hB]
        unfold blkOf
        rw [show 16 * (k + 1) = 16 * k + 16 by omega, List.take_add]
      obtain ⟨wy, b9, ey, eb9, a9, o9⟩ := made16 wr B hBl
      have ht2 : (wr.alloc (.cells (zero16.map bv).toArray 37)).there wr.heap.size 0 (B.map bv).toArray.size := there16 (Arr.new wr 37 zero16 _ rfl) rfl hBl
      have hz2' := size16s hBl
      have HBL := hide hBl
      clear hB hrg
      have hkm : (k : Int) < (m : Int) := by omega
      go_upto_region 5 with (refine wpList_store_mid rfl 37 (.tmp 5) (.tmp 11) rfl wr.heap.size 0 (B.map bv).toArray rfl rfl ht2 hz2' (ag_one _) ?_)
      rw [Ae.zeros_eq, ← ey, ← eb9]
      have hh : Has wy (.slice (some ⟨b9, 0, none⟩) 16 16) B := by
        have h := has_lit a9.out (by rw [hBl]; unfold maxLen; omega)
        rw [hBl] at h
        exact h
      have HH := hide hh
      have hrow2 := hide (o9.owns (unhide hrow) (fun _ _ e => e))
      have OY := hide ((unhide hor).trans o9 (fun _ _ e => e))
      have HSZ := hide (unhide OY).size
      clear ey eb9 a9 o9 ht2 hz2' hld hh hrow
      go_wp2_with (at_builtin; refine wpList_append_has rfl (.tmp 12) (.tmp 13) 22 rfl w.heap.size 5 i0 Try.underlying22 hi hz0 hz1 hz2 _ (16 * k) _ rfl (unhide hrow2) _ B rfl (unhide HH) (by rw [hBl]; omega) (unhide HSZ) ?_; intro ao2 cap2 w2 own2 gr2 at2)
      rw [hBl] at *
      go_roundw
      case rel =>
        refine ⟨k + 1, by omega, by go_num, ?_, ?_⟩
        · show _
          rw [unhide hN, List.map_append]
          exact own2
        · exact (unhide OY).grown gr2 (fun j hj hlt => by have := ((unhide hrow2).lt j hj).1; omega)
      case measure => simp [intOf]; omega
    · obtain rfl : k = m := by omega
      go_wp2
      go_ret
      refine ⟨_, rfl, ?_, unhide hor⟩
      have h := unhide hrow
      rw [List.take_of_length_le (by omega)] at h
      unfold Owns
      rw [hb]
      exact h

end Md
end Go.Proofs.Ytdmcnblnoiahcaa

namespace Go.Proofs.Ytdmcnblnoiahcaa
open Go.RowKit
set_option linter.unusedSimpArgs false
set_option linter.unusedVariables false
namespace Md
open Ae (zero16 Arr ag_one range_only after exec_load_mid step_store_mid Cip expd new_any newBad_any)
attribute [local go_sem ↓] Md.execOp_loadBlk Md.execOp_rowBlk

theorem results_three {P : Program} {fn : Func} {p q r : Tmp} {ty : TypeId} (h : fn.results = #[.tmp p, .cell q ty, .tmp r]) (tmps : Array Value) (w : World) (g : Nat) (t : TypeId) (cs : Array Value) (d : TypeDesc) (vp vr : Value)
    (hp : tmps.getD p undef = vp) (hr : tmps.getD r undef = vr) (hq : tmps.getD q undef = .pointer (some ⟨g, 0, none⟩)) (hg : w.heap[g]? = some (.cells cs t (0, 0)))
    (hu : P.underlying ty = some d) (hd : (match d with | .struct _ | .array _ _ => true | _ => false) = true) (hi : (P.info? ty).map (·.size) = some cs.size) :
    (results fn tmps).run P w = .ok (.tuple #[vp, .agg cs, vr]) w := by
  have hp' : tmps[p]?.getD undef = vp := by simpa using hp
  have hq' : tmps[q]?.getD undef = .pointer (some ⟨g, 0, none⟩) := by simpa using hq
  have hr' : tmps[r]?.getD undef = vr := by simpa using hr
  simp [results, h, hp', hq', hr', asAddr, run_loadVar_row w g t ty cs (0, 0) d hg hu hd hi]

theorem arrayAt_go (b o cap : Nat) (W : World) : (Instr.arrayAt 37 (.slice (some ⟨b, o, none⟩) 16 cap)).run Try.prog W = .ok (.pointer (some ⟨b, o, none⟩)) W := by
  simp [Instr.arrayAt, run_underlying Try.underMB, go_sem]

/-- a block of another type is stored to: the cipher is as it was -/
theorem cip_apart {w w' : World} {cb m b : Nat} {bs s : List UInt8} (h : Cip w cb m bs) (ha : Arr w b 37 s) (o : Only (fun j => j = b) w w') : Cip w' cb m bs := by
  obtain ⟨hl, g, cap, hb, hr⟩ := h
  have ha' := ha.out
  have h1 : cb ≠ b := by
    rintro rfl
    rw [hb] at ha'
    simp at ha'
  have h2 : g ≠ b := by
    rcases hr.2 with ⟨e, _⟩ | ⟨g', c2, cur, e, _, hg, _⟩
    · simp at e
    · simp only [Value.slice.injEq, Option.some.injEq, Addr.mk.injEq, and_true] at e
      obtain ⟨rfl, _⟩ := e
      rintro rfl
      rw [hg] at ha'
      simp at ha'
  exact ⟨hl, g, cap, o.heap hb h1, o.owns hr (fun k hk e => by simp [Value.ownBlock] at hk; omega)⟩

set_option maxRecDepth 100000 in
set_option maxHeartbeats 2000000 in
theorem begin_ok (L N m : Nat) (hL : L = 16 ∨ L = 24 ∨ L = 32) (hm : m = L / 4 + 7) (hN : L + 4 * N = 16 * m) (a : Addr) (cap : Nat) (key : List UInt8) (hk : key.length = L) (ib io icap : Nat) (iv : List UInt8) (hi : iv.length = 16) (w : World) (hx : Has w (.slice (some a) L cap) key) (hv : Has w (.slice (some ⟨ib, io, none⟩) 16 icap) iv) :
    Calls Try.prog 19 #[.slice (some a) L cap, .slice (some ⟨ib, io, none⟩) 16 icap] w fun e w' => ∃ cb, e = .returned (.tuple #[.pointer (some ⟨cb, 0, none⟩), .agg (iv.map bv).toArray, .int .i64 0]) ∧ Cip w' cb m (expd L key N).1 ∧ Only (fun _ => False) w w' := by
  have A5 := Arr.new w 37 zero16 _ rfl
  have O5 := (Only.refl (fun _ => False) w).alloc (.cells (zero16.map bv).toArray 37)
  have HK : Hid (Calls Try.prog 12 #[.slice (some a) L cap] (w.alloc (.cells (zero16.map bv).toArray 37)) fun e W' => ∃ cb, e = .returned (.tuple #[.pointer (some ⟨cb, 0, none⟩), .int .i64 0]) ∧ Cip W' cb m (expd L key N).1 ∧ Only (fun _ => False) (w.alloc (.cells (zero16.map bv).toArray 37)) W') := new_any L N m hL hm hN a cap key hk _ (hx.only O5 (fun _ _ _ e => e))
  have HA5 := hide A5
  have HO5 := hide O5
  have hb5 : w.heap.size < (w.alloc (.cells (zero16.map bv).toArray 37)).heap.size := by simp
  have HB5 := hide hb5
  have hib : ib < w.heap.size := hv.blk_lt (by intro e; rw [e] at hi; simp at hi) ib rfl
  have hrg : w.rangeAt ib io (iv.map bv) := by
    obtain ⟨bb, off, e, _, hc⟩ := hv.at (by decide)
    simp only [Option.some.injEq, Addr.mk.injEq, and_true] at e
    obtain ⟨rfl, rfl⟩ := e
    intro j u hu
    have hj : j < iv.length := by have := (List.getElem?_eq_some_iff.1 hu).1; simpa using this
    rw [hc j hj]
    rw [List.getElem?_map, List.getElem?_eq_getElem hj] at hu
    simpa using hu
  have HRG := hide (range_only hrg O5 (fun e => e))
  have hv2 := hv.only O5 (fun _ _ _ e => e)
  have HV := hide hv2
  clear A5 O5 hx hv hb5 hv2 hrg hL hm hN hk
  generalize (expd L key N).1 = kb at *
  go_enter Try.func19, Try.ntmps19
  go_upto_region 1 with fail
  rw [Ae.zeros_eq]
  generalize hW : w.alloc (.cells (zero16.map bv).toArray 37) = w5 at *
  generalize hB : w.heap.size = b5 at *
  have HW := hide hW
  have HB := hide hB
  clear hW hB
  go_wp2_with fail
  refine (unhide HK).mono ?_
  rintro e w1 ⟨cb, rfl, hc, ho⟩
  have HC := hide hc
  have HO := hide ho
  have HRG1 := hide (range_only (unhide HRG) ho (fun e => e))
  have hne : ib ≠ b5 := by omega
  have A1 := hide ((unhide HA5).only ho (fun e => e))
  clear hc ho
  have haa := arrayAt_go ib io icap
  have ht3 := there16 (unhide A1) rfl hi
  have hz3 := size16s hi
  have HT3 : Hid (w1.drew.there b5 0 (iv.map bv).toArray.size) := ht3
  have HZ3 := hide hz3
  clear ht3 hz3
  go_wp2_with fail
  refine wp_region_held_drew (S := (fun w' => Only (fun j => j = b5) w1 w')) (by kernel_rfl) ((Only.refl _ _).drew) (fun hHeld => ?_)
  refine wpAnyH_take (i := 0) (v := ?v10) rfl (by kernel_rfl) (by kernel_rfl) (by kernel_rfl) (fun _ _ _ h => h) (Or.inl ⟨by rfl, ?hy10⟩) (by assumption) ?rest10
  case hy10 =>
    intro w hSw
    go_simp
    try with_reducible rfl
  try simp only [Act.put, List.setIfInBounds_toArray, List.set_cons_zero, List.set_cons_succ, List.getElem_toArray, List.getElem_cons_succ, List.getElem_cons_zero]
  refine wpAnyH_take (i := 1) (v := ?v11) rfl (by kernel_rfl) (by kernel_rfl) (by kernel_rfl) (fun _ _ _ h => h) (Or.inl ⟨by rfl, ?hy11⟩) (by assumption) ?rest11
  case hy11 =>
    intro w hSw
    go_simp
    try with_reducible rfl
  try simp only [Act.put, List.setIfInBounds_toArray, List.set_cons_zero, List.set_cons_succ, List.getElem_toArray, List.getElem_cons_succ, List.getElem_cons_zero]
  refine wpAnyH_take (i := 2) (v := ?v12) rfl (by kernel_rfl) (by kernel_rfl) (by kernel_rfl) (fun _ _ _ h => h) (Or.inl ⟨by rfl, ?hy12⟩) (by assumption) ?rest12
  case hy12 =>
    intro w hSw
    go_simp
    try with_reducible rfl
  try simp only [Act.put, List.setIfInBounds_toArray, List.set_cons_zero, List.set_cons_succ, List.getElem_toArray, List.getElem_cons_succ, List.getElem_cons_zero]
  refine wpAnyH_take (i := 3) (v := ?v13) rfl (by kernel_rfl) (by kernel_rfl) (by kernel_rfl) (fun _ _ _ h => h) (Or.inl ⟨by rfl, ?hy13⟩) (by assumption) ?rest13
  case hy13 =>
    intro w hSw
    (refine exec_load_mid 37 (.tmp 24) ?_ ib io ?_ (iv.map bv) _ (range_only (unhide HRG1) hSw hne) Try.underMB rfl (by rw [Try.sizeMB]; simp [hi]) <;> rfl)
  try simp only [Act.put, List.setIfInBounds_toArray, List.set_cons_zero, List.set_cons_succ, List.getElem_toArray, List.getElem_cons_succ, List.getElem_cons_zero]
  refine wpAnyH_take (i := 4) (v := ?v14) rfl (by kernel_rfl) (by kernel_rfl) (by kernel_rfl) (fun _ _ _ h => h) (Or.inl ⟨by rfl, ?hy14⟩) (by assumption) ?rest14
  case hy14 =>
    intro w hSw
    go_simp
    try with_reducible rfl
  try simp only [Act.put, List.setIfInBounds_toArray, List.set_cons_zero, List.set_cons_succ, List.getElem_toArray, List.getElem_cons_succ, List.getElem_cons_zero]
  refine wpAnyH_ready (rs := [5]) (by kernel_rfl) (by simp) ?_
  refine AllReadyH.cons rfl (fun K hK => ?_) AllReadyH.nil
  refine step_store_mid rfl 37 (.tmp 5) (.tmp 25) rfl b5 0 (iv.map bv).toArray rfl rfl (unhide HT3) (unhide HZ3) (ag_one _) ?_
  refine hK.out _ _ ((Only.setCells (S := fun j => j = b5) (fun _ => rfl) _ _ _ ((Only.refl _ _).drew))) (fun hHeld => ?_)
  clear hK K
  try simp only [Act.put, List.setIfInBounds_toArray, List.set_cons_zero, List.set_cons_succ, List.getElem_toArray, List.getElem_cons_succ, List.getElem_cons_zero]
  refine wpAnyH_take (i := 6) (v := ?v15) rfl (by kernel_rfl) (by kernel_rfl) (by kernel_rfl) (fun _ _ _ h => h) (Or.inl ⟨by rfl, ?hy15⟩) (by assumption) ?rest15
  case hy15 =>
    intro w hSw
    go_simp
    try with_reducible rfl
  try simp only [Act.put, List.setIfInBounds_toArray, List.set_cons_zero, List.set_cons_succ, List.getElem_toArray, List.getElem_cons_succ, List.getElem_cons_zero]
  refine wpAnyH_done (by kernel_rfl) ?_ _
  obtain ⟨wz, ez, az, oz⟩ := restored w1.drew b5 zero16 iv (unhide A1) (by rw [hi]; rfl)
  rw [← ez]
  have AZ := hide az
  have OZ : Hid (Only (fun j => j = b5) w1 wz) := ((Only.refl (fun j => j = b5) w1).drew).trans oz (fun _ _ e => e)
  clear ez az oz haa
  go_wp2
  refine bodyPost_ret (results_three rfl _ _ b5 37 (iv.map bv).toArray _ _ _ rfl rfl rfl (unhide AZ).out Try.underMB rfl (by rw [Try.sizeMB]; simp [hi])) rfl ?_
  have hb5n : ∀ j, j < w.heap.size → j ≠ b5 := fun j hj => by have := unhide HB; omega
  refine ⟨cb, rfl, cip_apart (unhide HC) (unhide A1) (unhide OZ), ?_⟩
  · exact ((unhide HO5).trans (unhide HO) (fun _ _ e => e)).trans (unhide OZ) (fun j hj e => (hb5n j hj e).elim)

set_option maxRecDepth 100000 in
set_option maxHeartbeats 2000000 in
theorem begin_badIv (L N m : Nat) (hL : L = 16 ∨ L = 24 ∨ L = 32) (hm : m = L / 4 + 7) (hN : L + 4 * N = 16 * m) (a : Addr) (cap : Nat) (key : List UInt8) (hk : key.length = L) (ia : Option Addr) (il icap : Nat) (hi : il ≠ 16) (w : World) (hx : Has w (.slice (some a) L cap) key) :
    Calls Try.prog 19 #[.slice (some a) L cap, .slice ia il icap] w fun e w' => e = .returned (.tuple #[.pointer none, .agg (zero16.map bv).toArray, .int .i64 1]) ∧ Only (fun _ => False) w w' := by
  have A5 := Arr.new w 37 zero16 _ rfl
  have O5 := (Only.refl (fun _ => False) w).alloc (.cells (zero16.map bv).toArray 37)
  have HK : Hid (Calls Try.prog 12 #[.slice (some a) L cap] (w.alloc (.cells (zero16.map bv).toArray 37)) fun e W' => ∃ cb, e = .returned (.tuple #[.pointer (some ⟨cb, 0, none⟩), .int .i64 0]) ∧ Cip W' cb m (expd L key N).1 ∧ Only (fun _ => False) (w.alloc (.cells (zero16.map bv).toArray 37)) W') := new_any L N m hL hm hN a cap key hk _ (hx.only O5 (fun _ _ _ e => e))
  have HA5 := hide A5
  have HO5 := hide O5
  have hi' : ((il : Int) == 16) = false := by simp; omega
  clear A5 O5 hx hL hm hN hk
  generalize (expd L key N).1 = kb at *
  go_enter Try.func19, Try.ntmps19
  go_upto_region 1 with fail
  rw [Ae.zeros_eq]
  generalize hW : w.alloc (.cells (zero16.map bv).toArray 37) = w5 at *
  generalize hB : w.heap.size = b5 at *
  have HW := hide hW
  have HB := hide hB
  clear hW hB
  go_wp2_with fail
  refine (unhide HK).mono ?_
  rintro e w1 ⟨cb, rfl, hc, ho⟩
  have HO := hide ho
  have A1 := hide ((unhide HA5).only ho (fun e => e))
  clear hc ho
  have hz16 : (zero16 : List UInt8).length = 16 := rfl
  have ht3 := there16 (unhide A1) rfl hz16
  have hz3 := size16s hz16
  have HT3 := hide ht3
  have HZ3 := hide hz3
  clear ht3 hz3
  go_upto_region 5 with fail
  go_wp2_with (refine wpList_store_mid rfl 37 (.tmp 5) (.tmp 21) rfl b5 0 (zero16.map bv).toArray rfl rfl (unhide HT3) (unhide HZ3) (ag_one _) ?_)
  obtain ⟨wz, ez, az, oz⟩ := restored w1 b5 zero16 zero16 (unhide A1) rfl
  refine bodyPost_ret (results_three rfl _ _ b5 37 (zero16.map bv).toArray _ _ _ rfl rfl rfl (by rw [← ez]; exact az.out) Try.underMB rfl (by rw [Try.sizeMB]; rfl)) rfl ?_
  have hb5n : ∀ j, j < w.heap.size → j ≠ b5 := fun j hj => by have := unhide HB; omega
  exact ⟨rfl, by rw [← ez]; exact ((unhide HO5).trans (unhide HO) (fun _ _ e => e)).trans oz (fun j hj e => (hb5n j hj e).elim)⟩

set_option maxRecDepth 100000 in
set_option maxHeartbeats 2000000 in
theorem begin_badKey (ao : Option Addr) (ln cap : Nat) (h1 : ln ≠ 16) (h2 : ln ≠ 24) (h3 : ln ≠ 32) (iv : Value) (w : World) :
    Calls Try.prog 19 #[.slice ao ln cap, iv] w fun e w' => e = .returned (.tuple #[.pointer none, .agg (zero16.map bv).toArray, .int .i64 1]) ∧ Only (fun _ => False) w w' := by
  have A5 := Arr.new w 37 zero16 _ rfl
  have O5 := (Only.refl (fun _ => False) w).alloc (.cells (zero16.map bv).toArray 37)
  have HK := hide (fun W => newBad_any ao ln cap h1 h2 h3 W)
  have HA5 := hide A5
  have HO5 := hide O5
  clear A5 O5 h1 h2 h3
  go_enter Try.func19, Try.ntmps19
  go_upto_region 1 with fail
  rw [Ae.zeros_eq]
  generalize hW : w.alloc (.cells (zero16.map bv).toArray 37) = w1 at *
  generalize hB : w.heap.size = b5 at *
  have HW := hide hW
  have HB := hide hB
  clear hW hB
  go_wp2_with fail
  refine (unhide HK _).mono ?_
  rintro e w2 ⟨rfl, hw2⟩
  rw [hw2]
  clear hw2 w2
  have hz16 : (zero16 : List UInt8).length = 16 := rfl
  have ht3 := there16 (unhide HA5) rfl hz16
  have hz3 := size16s hz16
  have HT3 := hide ht3
  have HZ3 := hide hz3
  clear ht3 hz3
  go_upto_region 3 with fail
  go_wp2_with (refine wpList_store_mid rfl 37 (.tmp 5) (.tmp 16) rfl b5 0 (zero16.map bv).toArray rfl rfl (unhide HT3) (unhide HZ3) (ag_one _) ?_)
  obtain ⟨wz, ez, az, oz⟩ := restored w1 b5 zero16 zero16 (unhide HA5) rfl
  refine bodyPost_ret (results_three rfl _ _ b5 37 (zero16.map bv).toArray _ _ _ rfl rfl rfl (by rw [← ez]; exact az.out) Try.underMB rfl (by rw [Try.sizeMB]; rfl)) rfl ?_
  have hb5n : ∀ j, j < w.heap.size → j ≠ b5 := fun j hj => by have := unhide HB; omega
  exact ⟨rfl, by rw [← ez]; exact (unhide HO5).trans oz (fun j hj e => (hb5n j hj e).elim)⟩

end Md
end Go.Proofs.Ytdmcnblnoiahcaa
