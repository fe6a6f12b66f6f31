/-
  aes.blocks: bytes cut into blocks.
-/
import Derived.Test.YtdmcnblnoiahcaaAeBlk1
import Derived.Test.YtdmcnblnoiahcaaAeS1
import Derived.RangeFuncBound
import Derived.RangeFuncCalls
namespace Go.Proofs.Ytdmcnblnoiahcaa
open Go.RowKit Go.Shelf
set_option linter.unusedSimpArgs false
set_option linter.unusedVariables false
attribute [local go_sem] Oper.semAt_some
namespace Ae

/-- block k of the bytes -/
def blkOf (bs : List UInt8) (k : Nat) : List UInt8 := (bs.drop (16 * k)).take 16
def blks (bs : List UInt8) (m : Nat) : List (List UInt8) := (List.range m).map (blkOf bs)

theorem Try.infoBlk : (Try.prog.info? 36).map (fun i => (i.zero, i.size, i.bytes)) = some (some (.agg (zero16.map bv).toArray), 16, 16) := by kernel_rfl
theorem Try.underBlks : Try.prog.underlying 60 = some (.slice 36) := by kernel_rfl

theorem blkOf_length (bs : List UInt8) (m k : Nat) (h : bs.length = 16 * m) (hk : k < m) : (blkOf bs k).length = 16 := by simp [blkOf]; omega
theorem blkOf_at (bs : List UInt8) (k j : Nat) (hj : j < 16) : (blkOf bs k)[j]? = bs[16 * k + j]? := by
  unfold blkOf
  rw [List.getElem?_take, if_pos hj, List.getElem?_drop]

/-- [][16]byte{l} -/
theorem buildSlice_blk (l : List UInt8) (hl : l.length = 16) (w : World) : (Instr.buildSlice 60 1 #[(0, .agg (l.map bv).toArray)]).run Try.prog w = .ok (.slice (some ⟨w.heap.size, 0, none⟩) 1 1) (w.alloc (.cells (l.map bv).toArray 36)) := by
  obtain ⟨x0, x1, x2, x3, x4, x5, x6, x7, x8, x9, x10, x11, x12, x13, x14, x15, rfl⟩ : ∃ x0 x1 x2 x3 x4 x5 x6 x7 x8 x9 x10 x11 x12 x13 x14 x15, l = [x0, x1, x2, x3, x4, x5, x6, x7, x8, x9, x10, x11, x12, x13, x14, x15] := by
    match l, hl with
    | [x0, x1, x2, x3, x4, x5, x6, x7, x8, x9, x10, x11, x12, x13, x14, x15], _ => exact ⟨_, _, _, _, _, _, _, _, _, _, _, _, _, _, _, _, rfl⟩
  kernel_rfl

theorem arrayAt_run (a : Addr) (W : World) : (Instr.arrayAt 36 (.slice (some a) 16 16)).run Try.prog W = .ok (.pointer (some a)) W := by
  simp [Instr.arrayAt, run_underlying Try.under16, go_sem]

/-- a load of 16 cells, and a row of one such element, kept whole -/
def loadBlk (v : Value) : Sem Value := Instr.loadAt 36 v
def rowBlk (v : Value) : Sem Value := Instr.buildSlice 60 1 #[(0, v)]
theorem execOp_loadBlk (ρ : Operand → Value) (dst : Option Tmp) (x : Operand) (ty : TypeId) (pos : String) (af : Array Edge) (gd : Option (Nat × Bool)) :
    execOp ρ { dst := dst, op := .load 36 x, type := ty, pos := pos, after := af, guard := gd } = (do pure (.value (← loadBlk (ρ x)))) := rfl
theorem execOp_rowBlk (ρ : Operand → Value) (dst : Option Tmp) (x : Operand) (ty : TypeId) (pos : String) (af : Array Edge) (gd : Option (Nat × Bool)) :
    execOp ρ { dst := dst, op := .buildSlice 60 1 #[(0, x)], type := ty, pos := pos, after := af, guard := gd } = (do pure (.value (← rowBlk (ρ x)))) := by
  unfold execOp rowBlk
  simp only [List.map_toArray, List.map_cons, List.map_nil]

/-- an append whose run is known, in a fence, in a region that draws -/
theorem stepIn_append {F : Fence} {n : Nat} {P : Program} {ops : Array Oper} {o : Oper} {a : Act} {w : World} {K : Act → World → Prop} {Q : Exit → Act → World → Prop} {E : Prop} (hgd : o.guard = none) (s x : Operand) (t : TypeId)
    (ho : o.op = .call { callee := .builtin .append, args := #[s, x], argTypes := #[t, t] }) (v xv v' : Value) (w' : World) (hs : a.eval s = v) (hx : a.eval x = xv)
    (hr : (Builtin.append_ #[t, t] o.type #[v, xv]).run P w = .ok v' w') (h : K (a.put o.dst v') w') : if Region.wanted o (yielded ops a.tmps) = true then Oper.wpIn F n P o a w K Q else E := by
  have hw : Region.wanted o (yielded ops a.tmps) = true := by simp [Region.wanted, hgd]
  rw [if_pos hw]
  unfold Oper.wpIn
  refine ⟨by simp [Oper.about, ho, resolve, Target.leads, Sem.run_pure], ?_⟩
  rw [Oper.semAt_plain F _ _ (by rw [ho]; intro c hc'; cases hc')]
  simp [execOp, ho, resolve, invoke, builtin, hs, hx, hr, Result.andThen]
  exact h

attribute [local go_sem ↓] execOp_loadBlk execOp_rowBlk

def bflat (bs : List UInt8) (ks : List Nat) : List Value := ks.flatMap fun k => (blkOf bs k).map bv

set_option maxRecDepth 100000 in
set_option maxHeartbeats 2000000 in
theorem blocks_in (F : Fence) (n : Nat) (h3 : F.fn 55) (h5 : F.fn 42) (h7 : F.fn 62) (hro : F.round = none) (hn : 3 ≤ n)
    (b off m cap : Nat) (bs : List UInt8) (hm : m ≤ 100) (hcap : 16 * m ≤ cap) (hlen : bs.length = 16 * m) (w : World) (hbw : b < w.heap.size) (hcs : ∀ j x, bs[j]? = some x → w.cell? ⟨b, off + j, none⟩ = some (bv x)) :
    CallsIn F n Try.prog 55 #[.slice (some ⟨b, off, none⟩) (16 * m) cap] w fun e W' => ∃ v, e = .returned v ∧ W'.ownsRow w.heap.size 36 16 v m (bflat bs (upto m)) ∧ Below w.heap.size w W' := by
  have h1 : 1 ≤ n := by omega
  obtain ⟨i0, hi, hz0, hz1, hz2⟩ := info_parts Try.infoBlk
  refine callsIn_of_wp_marks Try.func55 rfl h3 ?_ hro
  simp only [Try.ntmps55, List.size_toArray, List.length_cons, List.length_nil, Nat.reduceAdd, Nat.reduceSub, Array.replicate_succ, Array.replicate_zero, List.push_toArray, List.append_toArray, List.nil_append, List.cons_append]
  gi_wp2_with (gi_at_call 42; refine (chunk_in F (n - 1) h5 hro _ _ _ _).mono ?_; rintro e w' ⟨rfl, rfl⟩)
  have bO := ((Boxed.new w 60 (.slice none 0 0)).alloc (.cells #[Value.slice (some ⟨b, off, none⟩) (16 * m) cap] 22)).alloc (.cells #[Value.int IntKind.i64 16] 3)
  have bS := (Boxed.new (w.alloc (.cells #[.slice none 0 0] 60)) 22 (.slice (some ⟨b, off, none⟩) (16 * m) cap)).alloc (.cells #[Value.int IntKind.i64 16] 3)
  have bN := Boxed.new ((w.alloc (.cells #[.slice none 0 0] 60)).alloc (.cells #[Value.slice (some ⟨b, off, none⟩) (16 * m) cap] 22)) 3 (.int .i64 16)
  rw [World.size_alloc] at bS
  rw [World.size_alloc, World.size_alloc] at bN
  have hB0 : Below w.heap.size w (((w.alloc (.cells #[.slice none 0 0] 60)).alloc (.cells #[Value.slice (some ⟨b, off, none⟩) (16 * m) cap] 22)).alloc (.cells #[Value.int IntKind.i64 16] 3)) := (((Below.refl _ w).alloc (Nat.le_refl _) _).alloc (by simp) _).alloc (by simp; omega) _
  have hsz : (((w.alloc (.cells #[.slice none 0 0] 60)).alloc (.cells #[Value.slice (some ⟨b, off, none⟩) (16 * m) cap] 22)).alloc (.cells #[Value.int IntKind.i64 16] 3)).heap.size = w.heap.size + 1 + 1 + 1 := by simp
  generalize ((w.alloc (.cells #[.slice none 0 0] 60)).alloc (.cells #[Value.slice (some ⟨b, off, none⟩) (16 * m) cap] 22)).alloc (.cells #[Value.int IntKind.i64 16] 3) = w0 at *
  refine wpIn_rangeFunc_ownG hro h1 (gf := 62) (lb := #[.pointer (some ⟨w.heap.size + 1, 0, none⟩), .pointer (some ⟨w.heap.size + 1 + 1, 0, none⟩)]) rfl h7 (enters_of Try.func62 (by kernel_rfl) rfl)
    (chunk_stops F (n - 1) h7 hro (by omega) (w.heap.size + 1) (w.heap.size + 1 + 1) b off m cap hm hcap w0 (by omega) (by omega) bS.cell bN.cell) (fun h k => h.trans k)
    (fun W l o o' hl ho hc1 hc2 => ?kp) (Below.refl _ _) (fun _ => rfl)
    (fun pre W => ((∃ v, Boxed W w.heap.size 60 v ∧ W.ownsRow w.heap.size 36 16 v pre.length (bflat bs (pre.map (·.val))) ∧ True) ∧ Below w.heap.size w W) ∧ (Boxed W (w.heap.size + 1) 22 (.slice (some ⟨b, off, none⟩) (16 * m) cap) ∧ Boxed W (w.heap.size + 1 + 1) 3 (.int .i64 16)))
    (fun _ _ _ => False)
    ?hI
    (fun _ _ _ _ _ hs _ _ => hs)
    ⟨⟨⟨_, bO, World.ownsRow_nil _ _ _ _, trivial⟩, hB0⟩, bS, bN⟩
    (fun x => { tmps := #[.slice (some ⟨b, off, none⟩) (16 * m) cap, undef, .slice none 0 0, .pointer (some ⟨w.heap.size, 0, none⟩), part b off x.val, .slice (some ⟨b, off, none⟩) (16 * m) cap, .func (.func 62) #[] #[.pointer (some ⟨w.heap.size + 1, 0, none⟩), .pointer (some ⟨w.heap.size + 1 + 1, 0, none⟩)], part b off x.val, undef, undef, undef, undef, undef, undef, undef], defers := [] }) ?assign ?body ?done ?stop
  case kp =>
    have hlt := lt_of_block ho
    have hg := grownBy_putObj' W l o'
    exact ⟨hg.block _ (by omega) (by simp; omega), hg.block _ (by omega) (by simp; omega)⟩
  case hI =>
    exact OwnFrom.and (OwnFrom.and (Own.from (holdsRow_own w.heap.size w.heap.size 60 36 16 (fun pre : List (Fin m) => pre.length) (fun pre => bflat bs (pre.map (·.val))) (fun _ _ => True)) _) (ownFrom_below (Nat.le_refl _) (by omega)))
      (OwnFrom.and (Own.from (boxed_own _ _ _) _) (Own.from (boxed_own _ _ _) _))
  case assign =>
    intro l x W K hK
    gi_wp2
    exact hK
  case body =>
    rintro l pre x W ⟨⟨⟨v, hv, hrow, _⟩, hB⟩, hbs, hbn⟩ hlt
    have hx := x.isLt
    have hl16 := blkOf_length bs m x.val hlen hx
    have hcb : ∀ j u, ((blkOf bs x.val).map bv)[j]? = some u → W.cell? ⟨b, off + 16 * x.val + j, none⟩ = some u := by
      intro j u hu
      have hj : j < 16 := by have := (List.getElem?_eq_some_iff.1 hu).1; simpa [hl16] using this
      rw [List.getElem?_map, blkOf_at bs _ _ hj] at hu
      cases hq : bs[16 * x.val + j]? with
      | none => rw [hq] at hu; cases hu
      | some y =>
        rw [hq] at hu
        have := (hB.cell (p := ⟨b, off + (16 * x.val + j), none⟩) hbw).trans (hcs _ y hq)
        rw [show off + 16 * x.val + j = off + (16 * x.val + j) by omega, this]
        exact hu
    obtain ⟨L, hL⟩ : ∃ L, L = blkOf bs x.val := ⟨_, rfl⟩
    rw [← hL] at hl16 hcb
    have hld : (loadBlk (.pointer (some ⟨b, off + 16 * x.val, none⟩))).run Try.prog W.drew = .ok (.agg (L.map bv).toArray) W.drew := run_loadAt_mid (P := Try.prog) W.drew b (off + 16 * x.val) 36 (L.map bv) _ hcb Try.under16 rfl (by rw [Try.size16]; simp [hl16])
    have hbd : (rowBlk (.agg (L.map bv).toArray)).run Try.prog W.drew = .ok (.slice (some ⟨W.heap.size, 0, none⟩) 1 1) (W.alloc (.cells (L.map bv).toArray 36)).drew := buildSlice_blk L hl16 W.drew
    have hArr : Arr (W.alloc (.cells (L.map bv).toArray 36)).drew W.heap.size 36 L := Arr.new W _ L _ rfl
    have hrowA : (W.alloc (.cells (L.map bv).toArray 36)).drew.ownsRow w.heap.size 36 16 v pre.length (bflat bs (pre.map (·.val))) := hrow.alloc _
    obtain ⟨v', w1, hrun, hown', hgrow, _, _⟩ := run_append_own_at (P := Try.prog) (W.alloc (.cells (L.map bv).toArray 36)).drew w.heap.size 60 60 36 i0 (.agg (zero16.map bv).toArray) 16 16 Try.underBlks hi hz0 hz1 hz2 rfl (by decide) v pre.length _ hrowA
      ⟨W.heap.size, 0, none⟩ 1 1 (L.map bv) (by simp [hl16]) (fun j u hu => by rw [addr_add _ rfl, Nat.zero_add]; have := hArr.range j u hu; rwa [Nat.zero_add] at this) (fun u hu => by obtain ⟨y, _, rfl⟩ := List.mem_map.1 hu; rfl) (by unfold maxLen; omega) (by omega) (by show w.heap.size ≤ (W.alloc _).heap.size; have := hB.size; simp; omega)
    obtain ⟨g', cap', rfl⟩ := ownsRow_succ hown'
    have hgrow' : (W.alloc (.cells (L.map bv).toArray 36)).grownBy w1 v.ownBlock := ⟨hgrow.os, hgrow.tape, hgrow.output, hgrow.size, hgrow.block⟩
    obtain ⟨hv1, hv2, hr2, hk2, hb2⟩ := hv.appended (by decide) hrow hB.size (Nat.le_refl _) hown' hgrow'
    have hc := hv.cell
    have hcA : (W.alloc (.cells (L.map bv).toArray 36)).cell? ⟨w.heap.size, 0, none⟩ = some v := (hv.alloc _).cell
    have hc1 := hv1.cell
    have hf1 := hv1.frozen
    have hbs2 : Boxed (w1.setCell ⟨w.heap.size, 0, none⟩ (.slice (some ⟨g', 0, none⟩) (pre.length + 1) cap')) (w.heap.size + 1) 22 (.slice (some ⟨b, off, none⟩) (16 * m) cap) := ((hbs.alloc _).kept hgrow' (hbs.not_row (by decide) hrow)).kept (grownBy_setCell' w1 _ _) (by simp)
    have hbn2 : Boxed (w1.setCell ⟨w.heap.size, 0, none⟩ (.slice (some ⟨g', 0, none⟩) (pre.length + 1) cap')) (w.heap.size + 1 + 1) 3 (.int .i64 16) := ((hbn.alloc _).kept hgrow' (hbn.not_row (by decide) hrow)).kept (grownBy_setCell' w1 _ _) (by simp; omega)
    have hnorm : ownPostG w0.heap.size (Kp2 (w.heap.size + 1) (w.heap.size + 1 + 1)) (fun (pre : List (Fin m)) W => ((∃ v, Boxed W w.heap.size 60 v ∧ W.ownsRow w.heap.size 36 16 v pre.length (bflat bs (pre.map (·.val))) ∧ True) ∧ Below w.heap.size w W) ∧ (Boxed W (w.heap.size + 1) 22 (.slice (some ⟨b, off, none⟩) (16 * m) cap) ∧ Boxed W (w.heap.size + 1 + 1) 3 (.int .i64 16))) (fun _ _ _ => False) (pre ++ [x]) W .normal { tmps := #[], defers := [] } (w1.setCell ⟨w.heap.size, 0, none⟩ (.slice (some ⟨g', 0, none⟩) (pre.length + 1) cap')) := by
      refine ⟨hk2.from _, ⟨hbs2.trans hbs.symm, hbn2.trans hbn.symm⟩, ⟨⟨_, hv2, ?_, trivial⟩, hB.trans hb2⟩, hbs2, hbn2⟩
      rw [List.length_append, List.length_singleton]
      have e : bflat bs ((pre ++ [x]).map (·.val)) = bflat bs (pre.map (·.val)) ++ L.map bv := by
        unfold bflat
        rw [List.map_append, List.flatMap_append, hL]
        simp
      rw [e]
      exact hr2
    have HN := hide hnorm
    clear hnorm hv1 hv2 hr2 hk2 hb2 hbs2 hbn2 hgrow hgrow' hown' hrowA hArr hrow hv hbs hbn hcb hL
    have haa := arrayAt_run ⟨b, off + 16 * x.val, none⟩ W.drew
    unfold part
    gi_wp2
    have HRUN := hide hrun
    clear hrun
    refine wpIn_region_any (by kernel_rfl) ?_
    try (change wpAnyIn _ _ _ _ _ _ _ _ _ (World.drew _))
    refine wpAnyIn_ready (rs := [0, 1]) (by kernel_rfl) (by simp) ?_
    refine (AllReadyIn.cons rfl (fun K hK => ?_) (AllReadyIn.cons rfl (fun K hK => ?_) AllReadyIn.nil))
    · skip
      go_simp
      refine hK _ _ ?_
      clear hK K
      try simp only [Act.put, List.setIfInBounds_toArray, List.set_cons_zero, List.set_cons_succ, List.getElem_toArray, List.getElem_cons_succ, List.getElem_cons_zero]
      refine wpAnyIn_ready (rs := [1]) (by kernel_rfl) (by simp) ?_
      refine (AllReadyIn.cons rfl (fun K hK => ?_) AllReadyIn.nil)
      · skip
        go_simp
        refine hK _ _ ?_
        clear hK K
        try simp only [Act.put, List.setIfInBounds_toArray, List.set_cons_zero, List.set_cons_succ, List.getElem_toArray, List.getElem_cons_succ, List.getElem_cons_zero]
        refine wpAnyIn_ready (rs := [2]) (by kernel_rfl) (by simp) ?_
        refine (AllReadyIn.cons rfl (fun K hK => ?_) AllReadyIn.nil)
        · skip
          go_simp
          refine hK _ _ ?_
          clear hK K
          try simp only [Act.put, List.setIfInBounds_toArray, List.set_cons_zero, List.set_cons_succ, List.getElem_toArray, List.getElem_cons_succ, List.getElem_cons_zero]
          refine wpAnyIn_ready (rs := [3]) (by kernel_rfl) (by simp) ?_
          refine (AllReadyIn.cons rfl (fun K hK => ?_) AllReadyIn.nil)
          · skip
            go_simp
            refine hK _ _ ?_
            clear hK K
            try simp only [Act.put, List.setIfInBounds_toArray, List.set_cons_zero, List.set_cons_succ, List.getElem_toArray, List.getElem_cons_succ, List.getElem_cons_zero]
            refine wpAnyIn_ready (rs := [4]) (by kernel_rfl) (by simp) ?_
            refine (AllReadyIn.cons rfl (fun K hK => ?_) AllReadyIn.nil)
            · skip
              go_simp
              refine hK _ _ ?_
              clear hK K
              try simp only [Act.put, List.setIfInBounds_toArray, List.set_cons_zero, List.set_cons_succ, List.getElem_toArray, List.getElem_cons_succ, List.getElem_cons_zero]
              refine wpAnyIn_ready (rs := [5]) (by kernel_rfl) (by simp) ?_
              refine (AllReadyIn.cons rfl (fun K hK => ?_) AllReadyIn.nil)
              · skip
                refine stepIn_append rfl (.tmp 8) (.tmp 12) 60 rfl _ _ _ _ rfl rfl (unhide HRUN) ?_
                refine hK _ _ ?_
                clear hK K
                try simp only [Act.put, List.setIfInBounds_toArray, List.set_cons_zero, List.set_cons_succ, List.getElem_toArray, List.getElem_cons_succ, List.getElem_cons_zero]
                refine wpAnyIn_ready (rs := [6]) (by kernel_rfl) (by simp) ?_
                refine (AllReadyIn.cons rfl (fun K hK => ?_) AllReadyIn.nil)
                · skip
                  go_simp
                  refine hK _ _ ?_
                  clear hK K
                  try simp only [Act.put, List.setIfInBounds_toArray, List.set_cons_zero, List.set_cons_succ, List.getElem_toArray, List.getElem_cons_succ, List.getElem_cons_zero]
                  refine wpAnyIn_done (by kernel_rfl) ?_ _
                  exact unhide HN
    · skip
      go_simp
      refine hK _ _ ?_
      clear hK K
      try simp only [Act.put, List.setIfInBounds_toArray, List.set_cons_zero, List.set_cons_succ, List.getElem_toArray, List.getElem_cons_succ, List.getElem_cons_zero]
      refine wpAnyIn_ready (rs := [0, 2]) (by kernel_rfl) (by simp) ?_
      refine (AllReadyIn.cons rfl (fun K hK => ?_) (AllReadyIn.cons rfl (fun K hK => ?_) AllReadyIn.nil))
      · skip
        go_simp
        refine hK _ _ ?_
        clear hK K
        try simp only [Act.put, List.setIfInBounds_toArray, List.set_cons_zero, List.set_cons_succ, List.getElem_toArray, List.getElem_cons_succ, List.getElem_cons_zero]
        refine wpAnyIn_ready (rs := [2]) (by kernel_rfl) (by simp) ?_
        refine (AllReadyIn.cons rfl (fun K hK => ?_) AllReadyIn.nil)
        · skip
          go_simp
          refine hK _ _ ?_
          clear hK K
          try simp only [Act.put, List.setIfInBounds_toArray, List.set_cons_zero, List.set_cons_succ, List.getElem_toArray, List.getElem_cons_succ, List.getElem_cons_zero]
          refine wpAnyIn_ready (rs := [3]) (by kernel_rfl) (by simp) ?_
          refine (AllReadyIn.cons rfl (fun K hK => ?_) AllReadyIn.nil)
          · skip
            go_simp
            refine hK _ _ ?_
            clear hK K
            try simp only [Act.put, List.setIfInBounds_toArray, List.set_cons_zero, List.set_cons_succ, List.getElem_toArray, List.getElem_cons_succ, List.getElem_cons_zero]
            refine wpAnyIn_ready (rs := [4]) (by kernel_rfl) (by simp) ?_
            refine (AllReadyIn.cons rfl (fun K hK => ?_) AllReadyIn.nil)
            · skip
              go_simp
              refine hK _ _ ?_
              clear hK K
              try simp only [Act.put, List.setIfInBounds_toArray, List.set_cons_zero, List.set_cons_succ, List.getElem_toArray, List.getElem_cons_succ, List.getElem_cons_zero]
              refine wpAnyIn_ready (rs := [5]) (by kernel_rfl) (by simp) ?_
              refine (AllReadyIn.cons rfl (fun K hK => ?_) AllReadyIn.nil)
              · skip
                refine stepIn_append rfl (.tmp 8) (.tmp 12) 60 rfl _ _ _ _ rfl rfl (unhide HRUN) ?_
                refine hK _ _ ?_
                clear hK K
                try simp only [Act.put, List.setIfInBounds_toArray, List.set_cons_zero, List.set_cons_succ, List.getElem_toArray, List.getElem_cons_succ, List.getElem_cons_zero]
                refine wpAnyIn_ready (rs := [6]) (by kernel_rfl) (by simp) ?_
                refine (AllReadyIn.cons rfl (fun K hK => ?_) AllReadyIn.nil)
                · skip
                  go_simp
                  refine hK _ _ ?_
                  clear hK K
                  try simp only [Act.put, List.setIfInBounds_toArray, List.set_cons_zero, List.set_cons_succ, List.getElem_toArray, List.getElem_cons_succ, List.getElem_cons_zero]
                  refine wpAnyIn_done (by kernel_rfl) ?_ _
                  exact unhide HN
      · skip
        go_simp
        refine hK _ _ ?_
        clear hK K
        try simp only [Act.put, List.setIfInBounds_toArray, List.set_cons_zero, List.set_cons_succ, List.getElem_toArray, List.getElem_cons_succ, List.getElem_cons_zero]
        refine wpAnyIn_ready (rs := [0, 3]) (by kernel_rfl) (by simp) ?_
        refine (AllReadyIn.cons rfl (fun K hK => ?_) (AllReadyIn.cons rfl (fun K hK => ?_) AllReadyIn.nil))
        · skip
          go_simp
          refine hK _ _ ?_
          clear hK K
          try simp only [Act.put, List.setIfInBounds_toArray, List.set_cons_zero, List.set_cons_succ, List.getElem_toArray, List.getElem_cons_succ, List.getElem_cons_zero]
          refine wpAnyIn_ready (rs := [3]) (by kernel_rfl) (by simp) ?_
          refine (AllReadyIn.cons rfl (fun K hK => ?_) AllReadyIn.nil)
          · skip
            go_simp
            refine hK _ _ ?_
            clear hK K
            try simp only [Act.put, List.setIfInBounds_toArray, List.set_cons_zero, List.set_cons_succ, List.getElem_toArray, List.getElem_cons_succ, List.getElem_cons_zero]
            refine wpAnyIn_ready (rs := [4]) (by kernel_rfl) (by simp) ?_
            refine (AllReadyIn.cons rfl (fun K hK => ?_) AllReadyIn.nil)
            · skip
              go_simp
              refine hK _ _ ?_
              clear hK K
              try simp only [Act.put, List.setIfInBounds_toArray, List.set_cons_zero, List.set_cons_succ, List.getElem_toArray, List.getElem_cons_succ, List.getElem_cons_zero]
              refine wpAnyIn_ready (rs := [5]) (by kernel_rfl) (by simp) ?_
              refine (AllReadyIn.cons rfl (fun K hK => ?_) AllReadyIn.nil)
              · skip
                refine stepIn_append rfl (.tmp 8) (.tmp 12) 60 rfl _ _ _ _ rfl rfl (unhide HRUN) ?_
                refine hK _ _ ?_
                clear hK K
                try simp only [Act.put, List.setIfInBounds_toArray, List.set_cons_zero, List.set_cons_succ, List.getElem_toArray, List.getElem_cons_succ, List.getElem_cons_zero]
                refine wpAnyIn_ready (rs := [6]) (by kernel_rfl) (by simp) ?_
                refine (AllReadyIn.cons rfl (fun K hK => ?_) AllReadyIn.nil)
                · skip
                  go_simp
                  refine hK _ _ ?_
                  clear hK K
                  try simp only [Act.put, List.setIfInBounds_toArray, List.set_cons_zero, List.set_cons_succ, List.getElem_toArray, List.getElem_cons_succ, List.getElem_cons_zero]
                  refine wpAnyIn_done (by kernel_rfl) ?_ _
                  exact unhide HN
        · skip
          go_simp
          refine hK _ _ ?_
          clear hK K
          try simp only [Act.put, List.setIfInBounds_toArray, List.set_cons_zero, List.set_cons_succ, List.getElem_toArray, List.getElem_cons_succ, List.getElem_cons_zero]
          refine wpAnyIn_ready (rs := [0, 4]) (by kernel_rfl) (by simp) ?_
          refine (AllReadyIn.cons rfl (fun K hK => ?_) (AllReadyIn.cons rfl (fun K hK => ?_) AllReadyIn.nil))
          · skip
            go_simp
            refine hK _ _ ?_
            clear hK K
            try simp only [Act.put, List.setIfInBounds_toArray, List.set_cons_zero, List.set_cons_succ, List.getElem_toArray, List.getElem_cons_succ, List.getElem_cons_zero]
            refine wpAnyIn_ready (rs := [4]) (by kernel_rfl) (by simp) ?_
            refine (AllReadyIn.cons rfl (fun K hK => ?_) AllReadyIn.nil)
            · skip
              go_simp
              refine hK _ _ ?_
              clear hK K
              try simp only [Act.put, List.setIfInBounds_toArray, List.set_cons_zero, List.set_cons_succ, List.getElem_toArray, List.getElem_cons_succ, List.getElem_cons_zero]
              refine wpAnyIn_ready (rs := [5]) (by kernel_rfl) (by simp) ?_
              refine (AllReadyIn.cons rfl (fun K hK => ?_) AllReadyIn.nil)
              · skip
                refine stepIn_append rfl (.tmp 8) (.tmp 12) 60 rfl _ _ _ _ rfl rfl (unhide HRUN) ?_
                refine hK _ _ ?_
                clear hK K
                try simp only [Act.put, List.setIfInBounds_toArray, List.set_cons_zero, List.set_cons_succ, List.getElem_toArray, List.getElem_cons_succ, List.getElem_cons_zero]
                refine wpAnyIn_ready (rs := [6]) (by kernel_rfl) (by simp) ?_
                refine (AllReadyIn.cons rfl (fun K hK => ?_) AllReadyIn.nil)
                · skip
                  go_simp
                  refine hK _ _ ?_
                  clear hK K
                  try simp only [Act.put, List.setIfInBounds_toArray, List.set_cons_zero, List.set_cons_succ, List.getElem_toArray, List.getElem_cons_succ, List.getElem_cons_zero]
                  refine wpAnyIn_done (by kernel_rfl) ?_ _
                  exact unhide HN
          · skip
            go_simp
            refine hK _ _ ?_
            clear hK K
            try simp only [Act.put, List.setIfInBounds_toArray, List.set_cons_zero, List.set_cons_succ, List.getElem_toArray, List.getElem_cons_succ, List.getElem_cons_zero]
            refine wpAnyIn_ready (rs := [0]) (by kernel_rfl) (by simp) ?_
            refine (AllReadyIn.cons rfl (fun K hK => ?_) AllReadyIn.nil)
            · skip
              go_simp
              refine hK _ _ ?_
              clear hK K
              try simp only [Act.put, List.setIfInBounds_toArray, List.set_cons_zero, List.set_cons_succ, List.getElem_toArray, List.getElem_cons_succ, List.getElem_cons_zero]
              refine wpAnyIn_ready (rs := [5]) (by kernel_rfl) (by simp) ?_
              refine (AllReadyIn.cons rfl (fun K hK => ?_) AllReadyIn.nil)
              · skip
                refine stepIn_append rfl (.tmp 8) (.tmp 12) 60 rfl _ _ _ _ rfl rfl (unhide HRUN) ?_
                refine hK _ _ ?_
                clear hK K
                try simp only [Act.put, List.setIfInBounds_toArray, List.set_cons_zero, List.set_cons_succ, List.getElem_toArray, List.getElem_cons_succ, List.getElem_cons_zero]
                refine wpAnyIn_ready (rs := [6]) (by kernel_rfl) (by simp) ?_
                refine (AllReadyIn.cons rfl (fun K hK => ?_) AllReadyIn.nil)
                · skip
                  go_simp
                  refine hK _ _ ?_
                  clear hK K
                  try simp only [Act.put, List.setIfInBounds_toArray, List.set_cons_zero, List.set_cons_succ, List.getElem_toArray, List.getElem_cons_succ, List.getElem_cons_zero]
                  refine wpAnyIn_done (by kernel_rfl) ?_ _
                  exact unhide HN
  case done =>
    rintro D ys W hD hys ⟨⟨⟨v, hv, hrow, _⟩, hB⟩, hbs, hbn⟩ hK
    have hc := hv.cell
    gi_wp2
    refine ⟨by simp, .inl ⟨_, _, rfl, run_takeDeferred hK, ?_⟩⟩
    have hyl : ys.length = m := by have := congrArg List.length hys; simpa [upto] using this
    rw [hyl, hys] at hrow
    exact ⟨_, results_tmp rfl _ _ _, v, rfl, ownsRow_putObj hrow _ hK rfl, hB.trans (belowK_b (w := w) (Nat.le_refl _) W D _ _ (by omega) hK rfl rfl)⟩
  case stop =>
    rintro D c pre W _ _ h _
    exact h.elim

end Ae
end Go.Proofs.Ytdmcnblnoiahcaa
