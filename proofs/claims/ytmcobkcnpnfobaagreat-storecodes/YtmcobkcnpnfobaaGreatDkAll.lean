/-
  Contracts of disk's small methods.
  Contracts of disk's do, fateOf, Write, Flush, Crash.
  Operations on structs of many cells that lie in a block of their own, as a walk meets them.
  Contract of disk's Write.
  Contracts of disk's Flush, fateOf, Crash.
  Contract of disk's Crash.
  Contract of disk's Read.
  Contract of disk's Pending: all that pends, in order, in new memory.
  Contracts of disk's New and Copy.
-/
import Derived.Test.YtmcobkcnpnfobaaGreatDkMem
namespace Go.Proofs.YtmcobkcnpnfobaaGreat
open Go.RowKit
set_option linter.unusedSimpArgs false
set_option linter.unusedVariables false

section
variable {w : World} {b g cap : Nat} {pv : Value} {d : Dk}

theorem dkDown_any (h : Lie w b g cap pv d) : Calls Tryz.prog 55 #[.pointer (some ⟨b, 0, none⟩)] w fun e w' => e = .returned (.bool d.down) ∧ w' = w := by
  obtain ⟨c0, c1, c2, c3, c4, fz⟩ := cells_five h.blk
  clear h
  go_enter Tryz.func55, Tryz.ntmps55
  go_wp2
  go_ret
  exact ⟨rfl, rfl⟩

theorem dkSectors_any (h : Lie w b g cap pv d) : Calls Tryz.prog 76 #[.pointer (some ⟨b, 0, none⟩)] w fun e w' => e = .returned (.int .i64 d.secs.length) ∧ w' = w := by
  obtain ⟨c0, c1, c2, c3, c4, fz⟩ := cells_five h.blk
  clear h
  go_enter Tryz.func76, Tryz.ntmps76
  go_wp2
  go_ret
  exact ⟨rfl, rfl⟩

theorem dkHas_any (h : Lie w b g cap pv d) (k : Int) : Calls Tryz.prog 69 #[.pointer (some ⟨b, 0, none⟩), .int .i64 k] w fun e w' => e = .returned (.bool (d.there k)) ∧ w' = w := by
  obtain ⟨c0, c1, c2, c3, c4, fz⟩ := cells_five h.blk
  clear h
  have HT : Hid (d.there k = decide (0 ≤ k ∧ k < d.secs.length)) := rfl
  generalize d.there k = r at *
  by_cases h0 : 0 ≤ k
  · by_cases h1 : k < d.secs.length
    · go_enter Tryz.func69, Tryz.ntmps69
      go_wp2
      go_ret
      rw [unhide HT]
      simp [h0, h1]
    · go_enter Tryz.func69, Tryz.ntmps69
      go_wp2
      go_ret
      rw [unhide HT]
      simp [h0, h1]
  · go_enter Tryz.func69, Tryz.ntmps69
    go_wp2
    go_ret
    rw [unhide HT]
    simp
    omega

/-- a cell of the disk's own block is set -/
theorem five_setCell {w : World} {b i : Nat} {cs : Array Value} {u : Value} {t : TypeId} (h : w.heap[b]? = some (.cells cs t (0, 0))) : (w.setCell ⟨b, i, none⟩ u).heap[b]? = some (.cells (cs.setIfInBounds i u) t (0, 0)) := two_setCell h

theorem Lie.set {w' : World} {d' : Dk} {pv' : Value} (h : Lie w b g cap pv d) (ho : Only (fun k => k = b) w w') (hs : d'.secs = d.secs) (hp : d'.pend = d.pend) (hpv : pv' = pv)
    (hb : w'.heap[b]? = some (.cells #[.slice (some ⟨g, 0, none⟩) d.secs.length cap, pv, .int .i64 d'.fuse, .bool d'.down, .int .i64 d'.works] 84 (0, 0))) : Lie w' b g cap pv' d' := by
  subst hpv
  refine ⟨by rw [hs]; exact hb, ?_, ?_, h.gb, h.pb, h.pg⟩
  · rw [hs]
    exact ho.owns h.secs (fun k hk => by simp only [Value.ownBlock, Option.some.injEq] at hk; subst hk; exact h.gb)
  · rw [hp]
    exact ho.owns h.pend (fun k hk e => h.pb (by rw [hk, e]))

theorem dkWork_any (h : Lie w b g cap pv d) (hf : d.Fine) (hw : d.works ≤ 1000000) : Calls Tryz.prog 117 #[.pointer (some ⟨b, 0, none⟩)] w fun e w' => e = .returned (.bool (!d.fell)) ∧ Lie w' b g cap pv d.worked ∧ Only (fun k => k = b) w w' := by
  obtain ⟨c0, c1, c2, c3, c4, fz⟩ := cells_five h.blk
  have H := hide h
  have hl1 := hf.f1
  have hl2 := hf.f2
  clear h
  have HF : Hid (d.fell = (d.down || d.fuse == 0)) := rfl
  by_cases h0 : d.fuse = 0
  · have e1 : d.fell = true := by unfold Dk.fell; simp [h0]
    have e2 : d.worked = d.felled := by unfold Dk.worked; simp [e1]
    rw [e1, e2]
    rw [h0] at c2
    have HZ := hide h0
    clear h0 e1 e2
    go_enter Tryz.func117, Tryz.ntmps117
    go_wp2
    go_ret
    have ho := (Only.refl (fun k => k = b) w).here 3 (.bool true)
    exact ⟨rfl, (unhide H).set ho rfl rfl rfl (by rw [five_setCell (unhide H).blk]; rfl), ho⟩
  · cases hd : d.down with
    | true =>
      have e1 : d.fell = true := by unfold Dk.fell; simp [hd]
      have e2 : d.worked = d.felled := by unfold Dk.worked; simp [e1]
      rw [e1, e2]
      rw [hd] at c3
      have HZ := hide hd
      clear hd e1 e2
      go_enter Tryz.func117, Tryz.ntmps117
      go_wp2
      go_ret
      exact ⟨rfl, (unhide H).set (Only.refl _ _) rfl rfl rfl (by rw [(unhide H).blk, unhide HZ]; rfl), Only.refl _ _⟩
    | false =>
      have e1 : d.fell = false := by unfold Dk.fell; simp [hd, h0]
      have e2 : d.worked = d.spent := by unfold Dk.worked; simp [e1]
      rw [e1, e2]
      rw [hd] at c3
      have HZ := hide hd
      clear hd e1 e2
      by_cases hp : 0 < d.fuse
      · have HS : Hid (d.spent.fuse = d.fuse - 1) := by show (if 0 < d.fuse then d.fuse - 1 else d.fuse) = _; simp [hp]
        go_enter Tryz.func117, Tryz.ntmps117
        go_wp2
        go_ret
        have ho := ((Only.refl (fun k => k = b) w).here 2 (.int .i64 (d.fuse - 1))).here 4 (.int .i64 (d.works + 1))
        refine ⟨rfl, (unhide H).set ho rfl rfl rfl ?_, ho⟩
        rw [five_setCell (five_setCell (unhide H).blk), unhide HS]
        rfl
      · have HS : Hid (d.spent.fuse = d.fuse) := by show (if 0 < d.fuse then d.fuse - 1 else d.fuse) = _; simp [hp]
        go_enter Tryz.func117, Tryz.ntmps117
        go_wp2
        go_ret
        have ho := (Only.refl (fun k => k = b) w).here 4 (.int .i64 (d.works + 1))
        refine ⟨rfl, (unhide H).set ho rfl rfl rfl ?_, ho⟩
        rw [five_setCell (unhide H).blk, unhide HS]
        rfl

/-- block.bytes: new memory -/
theorem dkBytes_any (bs : List UInt8) (hl : bs.length = 64) (w : World) : Calls Tryz.prog 70 #[.agg (bs.map bv).toArray] w fun e w' => ∃ v, e = .returned v ∧ Owns w.heap.size w' v bs ∧ Only (fun _ => False) w w' := by
  obtain ⟨i0, hi, hz0, hz1, hz2⟩ := info_parts Tryz.info5
  have ho : Only (fun _ => False) w (w.alloc (.cells (bs.map bv).toArray 98)) := (Only.refl _ _).alloc _
  have hx : Has (w.alloc (.cells (bs.map bv).toArray 98)) (.slice (some ⟨w.heap.size, 0, none⟩) 64 64) bs := has_row (heap_alloc_new w _) rfl hl (by unfold maxLen; omega)
  have hcs : (Value.agg (bs.map bv).toArray).cells = (bs.map bv).toArray := rfl
  generalize (bs.map bv).toArray = A at *
  go_enter Tryz.func70, Tryz.ntmps70
  go_wp2_with (at_builtin; refine wpList_append_has rfl (.const (.slice none 0 0)) (.tmp 3) 24 rfl w.heap.size 5 i0 Tryz.underlying24 hi hz0 hz1 hz2 _ 0 [] rfl (World.ownsRow_nil _ _ _ _) _ bs rfl hx (by omega) (by simp) ?_; intro ao2 cap2 w2 own2 gr2 at2)
  go_ret
  refine ⟨.slice ao2 (0 + bs.length) cap2, ?_, ?_, ho.grown gr2 (fun k hk _ => by cases hk)⟩
  · simp [hl]
  · have e : (0 + bs.length) = bs.length := Nat.zero_add _
    rw [e] at own2 ⊢
    exact own2
end

end Go.Proofs.YtmcobkcnpnfobaaGreat

namespace Go.Proofs.YtmcobkcnpnfobaaGreat
open Go.RowKit
set_option linter.unusedSimpArgs false
set_option linter.unusedVariables false

section
variable {w : World} {b g cap : Nat} {pv : Value} {d : Dk}

theorem Lie.put {w' : World} (h : Lie w b g cap pv d) (hf : d.Fine) (k : Nat) (y : Option (List UInt8)) (hy : ∀ bs, y = some bs → bs.length = 64) (hk : k < d.secs.length) (ho : Only (fun _ => False) w w') :
    Lie (w'.setCells g (k * 65) (sec y)) b g cap pv { d with secs := d.secs.set k y } ∧ Only (fun k => k = g) w (w'.setCells g (k * 65) (sec y)) := by
  have h' := h.only ho (fun h => h) (fun h => h) (fun _ _ h => h)
  have hset : Only (fun k => k = g) w' (w'.setCells g (k * 65) (sec y)) := Only.setCells (S := fun k => k = g) (fun _ => rfl) _ _ _ (Only.refl _ _)
  refine ⟨⟨?_, ?_, ?_, h.gb, h.pb, h.pg⟩, (ho.mono (fun _ _ h => h.elim)).trans hset (fun _ _ h => h)⟩
  · rw [List.length_set]
    exact hset.heap h'.blk (fun e => h.gb e.symm)
  · rw [List.length_set]
    exact row_set h'.secs (fun x hx => sec_length (fun bs e => hf.secs x hx bs e)) rfl k hk y (sec_length hy)
  · exact hset.owns h'.pend (fun j hj e => h.pg (by rw [hj, e]))

set_option maxRecDepth 100000 in
set_option maxHeartbeats 1000000 in
theorem dkDo_any (h : Lie w b g cap pv d) (hf : d.Fine) (p : Nat × List UInt8) (hp : p.1 < d.secs.length) (hl : p.2.length = 64) :
    Calls Tryz.prog 50 #[.pointer (some ⟨b, 0, none⟩), .agg (pen p).toArray] w fun e w' => e = .returned (.tuple #[]) ∧ Lie w' b g cap pv { d with secs := d.secs.put p } ∧ Only (fun k => k = g) w w' := by
  obtain ⟨k, bs⟩ := p
  simp only at hp hl
  have H := hide h
  have HF := hide hf
  have hlt := lt_of_block h.blk
  have hgt : g < w.heap.size := (h.secs.lt g rfl).2
  have hth := row_there h.secs k hp
  obtain ⟨c0, c1, c2, c3, c4, fz⟩ := cells_five h.blk
  have hgb := h.gb
  clear h hf
  have hk0 : (0 : Int) ≤ (k : Int) := Int.natCast_nonneg _
  have hk1 : (k : Int) < (d.secs.length : Int) := by omega
  obtain ⟨P, hP⟩ : ∃ P, P = (pen (k, bs)).toArray := ⟨_, rfl⟩
  have hPc : (Value.agg P).cells = P := rfl
  obtain ⟨cs, hcs⟩ : ∃ cs, cs = bs.map bv := ⟨_, rfl⟩
  have hcl : cs.length = 64 := by rw [hcs]; simpa using hl
  have hPr : (w.alloc (.cells P 100)).rangeAt w.heap.size 1 cs ∧ (w.alloc (.cells P 100)).cell? ⟨w.heap.size, 0, none⟩ = some (.int .i64 k) := by
    subst hP
    constructor
    · intro j v hv
      rw [cell_of_row _ _ _ _ _ _ (heap_alloc_new w _)]
      subst hcs
      simpa [pen, Nat.add_comm] using hv
    · rw [cell_of_row _ _ _ _ _ _ (heap_alloc_new w _)]
      rfl
  obtain ⟨hr, hc⟩ := hPr
  have hb0 : (w.alloc (.cells P 100)).cell? ⟨b, 0, none⟩ = some (.slice (some ⟨g, 0, none⟩) d.secs.length cap) := by rw [World.cell?_alloc_lt _ _ _ hlt]; exact c0
  have hth' := World.there_alloc hth (.cells P 100)
  obtain ⟨ss, hss⟩ : ∃ ss, ss = sec (some bs) := ⟨_, rfl⟩
  obtain ⟨Z, hz, hZl, hfold⟩ : ∃ Z : List Value, (∀ w, (zeroValue 104).run Tryz.prog w = .ok (.agg Z.toArray) w) ∧ Z.length = 65 ∧ cs.zipIdx.foldl (fun (cs : Array Value) (x : Value × Nat) => cs.setIfInBounds x.2 x.1) Z.toArray = ss.toArray :=
    ⟨sec (some zero64), Tryz.zeroSec, rfl, by subst hcs; subst hss; exact fold_sec bs hl⟩
  have hsl : ss.length = 65 := by rw [hss]; exact sec_length (fun b e => by cases e; exact hl)
  have hs1 : ∀ v ∈ ss, v.oneCell' = true := by rw [hss]; exact sec_one _
  have HSS := hide hss
  have HCS := hide hcs
  have HP := hide hP
  rw [← hP]
  clear hss hcs hP c0 c1 c2 c3 c4 hth
  have hu := Tryz.underlying98
  have hu2 := Tryz.underlying104
  have hi : (Tryz.prog.info? 98).map (·.size) = some cs.length := by rw [Tryz.sizeBlk, hcl]
  have hi2 : (Tryz.prog.info? 104).map (·.size) = some ss.length := by rw [Tryz.sizeSec, hsl]
  have ho : Only (fun _ => False) w (w.alloc (.cells P 100)) := (Only.refl _ _).alloc _
  have n1 : ¬ w.heap.size = g := by omega
  have n2 : ¬ b = g := fun e => hgb e.symm
  have hst : (storeCells ⟨g, k * 65, none⟩ ss).run Tryz.prog (w.alloc (.cells P 100)).drew = .ok () ((w.alloc (.cells P 100)).drew.setCells g (k * 65) ss) := run_storeCells_there (by rw [hsl]; simpa using hth') hs1
  go_enter Tryz.func50, Tryz.ntmps50
  go_wp2
  go_region_held (fun w' => w'.rangeAt w.heap.size 1 cs ∧ w'.cell? ⟨w.heap.size, 0, none⟩ = some (.int .i64 k) ∧ w'.cell? ⟨b, 0, none⟩ = some (.slice (some ⟨g, 0, none⟩) d.secs.length cap) ∧ w'.there g (k * 65) 65) ((go_split_ands; simp only [World.rangeAt_drew, World.there_drew, World.cell?_drew] at *; refine ⟨?_, ?_, ?_, ?_⟩ <;> first | assumption | (apply World.there_setCells; assumption) | (refine World.rangeAt_setCells_apart (by assumption) _ _ _ (by omega)) | (rw [World.cell?_setCells_out _ _ _ _ _ (fun e _ => absurd e (by assumption))]; assumption))) (fail)
  go_end0
  have hfin := (unhide H).put (unhide HF) k (some bs) (fun b e => by cases e; exact hl) hp (ho.drew)
  rw [← unhide HSS] at hfin
  exact ⟨rfl, hfin.1, hfin.2⟩

end

end Go.Proofs.YtmcobkcnpnfobaaGreat

namespace Go.Proofs.YtmcobkcnpnfobaaGreat
open Go.RowKit
set_option linter.unusedSimpArgs false
set_option linter.unusedVariables false

/-- a whole value into the block that was made last -/
theorem wpList_store_new {P : Program} {w : World} {ops : Array Oper} {rest : List Oper} {o : Oper} {a : Act} {Q : Exit → Act → World → Prop} (hgd : o.guard = none) (ty : TypeId) (x y : Operand) (ho : o.op = .store ty x y)
    (W : World) (Z C : Array Value) (hw : w = W.alloc (.cells Z ty)) (hx : a.eval x = .pointer (some ⟨W.heap.size, 0, none⟩)) (hy : a.eval y = .agg C) (hi : (P.info? ty).map (·.size) = some C.size) (hZ : Z.size = C.size) (h1 : C.all (·.oneCell') = true)
    (h : wpList P ops Q rest (a.put o.dst undef) (W.alloc (.cells C ty))) : wpList P ops Q (o :: rest) a w :=
  wpList_plain hgd fun K hK => by
    subst hw
    have hr := run_storeVar_new (P := P) W ty Z C hi hZ h1
    unfold Oper.wp execOp
    simp only [ho, hx, hy, Instr.storeAt, Instr.sureAddr, Sem.run_bind, Sem.run_pure, Result.andThen_ok, hr]
    exact hK _ _ h

theorem range_new (W : World) (C : Array Value) (t : TypeId) : (W.alloc (.cells C t)).rangeAt W.heap.size 0 C.toList := fun j v hv => by
  rw [Nat.zero_add, cell_of_row _ _ _ _ _ _ (heap_alloc_last W _)]
  simpa using hv

/-- copy(p.data[:], data): the whole of the array that lies behind the first cell of the block made last -/
theorem wpList_copy_new {P : Program} {w : World} {ops : Array Oper} {rest : List Oper} {o : Oper} {a : Act} {Q : Exit → Act → World → Prop} (hgd : o.guard = none) (d s : Operand) (t : TypeId)
    (ho : o.op = .call { callee := .builtin .copy, args := #[d, s], argTypes := #[t, t] }) (e : TypeId) (hu : P.underlying t = some (.slice e)) (hsz : (P.info? e).map (·.size) = some 1)
    (W : World) (ty : TypeId) (c0 : Value) (zs : List Value) (n : Nat) (hzs : zs.length = n) (hw : w = W.alloc (.cells (c0 :: zs).toArray ty)) (hd : a.eval d = .slice (some ⟨W.heap.size, 1, none⟩) n n) (xv : Value) (us : List UInt8) (hs : a.eval s = xv) (hx : Has W xv us) (hn : us.length = n) (h0 : 0 < n)
    (h : wpList P ops Q rest (a.put o.dst (goInt n)) (W.alloc (.cells (c0 :: us.map bv).toArray ty))) : wpList P ops Q (o :: rest) a w := by
  have hx' : Has w xv us := by subst hw; exact hx.only ((Only.refl (fun _ => False) W).alloc _) (fun _ _ _ h => h)
  rcases hx' with ⟨_, rfl⟩ | ⟨ad, cap', rfl, hsp, _, _, _, hcell⟩
  · simp at hn; omega
  · have hg : w.heap[W.heap.size]? = some (.cells (c0 :: zs).toArray ty (0, 0)) := by subst hw; exact heap_alloc_last W _
    refine wpList_copy_own hgd d s t t ho _ hu hsz W.heap.size 1 n n ad _ _ hd hs _ ty hg (us.map bv) (by simp [hn, Nat.min_def]) ?_ (by simp; omega) (bvs_one us) ?_
    · intro j u hju
      have hj : j < us.length := by have := (List.getElem?_eq_some_iff.1 hju).1; simpa using this
      rw [addr_add ad (hsp (by omega)), hcell j hj]
      simpa [hj] using hju
    · subst hw
      have e1 : goInt (us.map bv).length = goInt n := by simp [hn]
      rw [e1, World.setRow_alloc_new]
      have e2 : ((c0 :: zs).toArray.toList.take 1 ++ ((us.map bv) ++ (c0 :: zs).toArray.toList.drop (1 + (us.map bv).length))) = c0 :: us.map bv := by
        rw [show (c0 :: zs).toArray.toList.drop (1 + (us.map bv).length) = [] from List.drop_eq_nil_of_le (by simp; omega)]
        simp
      rw [e2]
      exact h

end Go.Proofs.YtmcobkcnpnfobaaGreat

namespace Go.Proofs.YtmcobkcnpnfobaaGreat
open Go.RowKit
set_option linter.unusedSimpArgs false
set_option linter.unusedVariables false

/-- a load of 65 cells, and a row of one such element, kept whole -/
def loadPen (v : Value) : Sem Value := Instr.loadAt 100 v
def rowPen (v : Value) : Sem Value := Instr.buildSlice 82 1 #[(0, v)]
theorem execOp_loadPen (ρ : Operand → Value) (dst : Option Tmp) (x : Operand) (ty : TypeId) (pos : String) (af : Array Edge) (gd : Option (Nat × Bool)) :
    execOp ρ { dst := dst, op := .load 100 x, type := ty, pos := pos, after := af, guard := gd } = (do pure (.value (← loadPen (ρ x)))) := rfl
theorem execOp_rowPen (ρ : Operand → Value) (dst : Option Tmp) (x : Operand) (ty : TypeId) (pos : String) (af : Array Edge) (gd : Option (Nat × Bool)) :
    execOp ρ { dst := dst, op := .buildSlice 82 1 #[(0, x)], type := ty, pos := pos, after := af, guard := gd } = (do pure (.value (← rowPen (ρ x)))) := by
  unfold execOp rowPen
  simp only [List.map_toArray, List.map_cons, List.map_nil]

section
attribute [local go_sem ↓] execOp_loadPen execOp_rowPen
variable {w : World} {b g cap : Nat} {pv : Value} {d : Dk}

theorem Lie.pushed {w4 : World} {g4 cap4 : Nat} (h : Lie w b g cap pv d) (p : Nat × List UInt8) (own : w4.ownsRow 0 100 65 (.slice (some ⟨g4, 0, none⟩) (d.pend.length + 1) cap4) (d.pend.length + 1) (d.pend.flatMap pen ++ pen p))
    (ho : Only (fun j => pv.ownBlock = some j) w w4) (hat : pv.ownBlock = some g4 ∨ w.heap.size ≤ g4) :
    Lie (w4.setCell ⟨b, 1, none⟩ (.slice (some ⟨g4, 0, none⟩) (d.pend.length + 1) cap4)) b g cap (.slice (some ⟨g4, 0, none⟩) (d.pend.length + 1) cap4) { d with pend := d.pend ++ [p] } ∧
    Only (fun j => j = b ∨ pv.ownBlock = some j) w (w4.setCell ⟨b, 1, none⟩ (.slice (some ⟨g4, 0, none⟩) (d.pend.length + 1) cap4)) := by
  have hbl := lt_of_block h.blk
  have hgl : g < w.heap.size := (h.secs.lt g rfl).2
  have hb4 : g4 ≠ b := by
    rcases hat with e | e
    · intro e2; subst e2; exact h.pb e
    · omega
  have hg4 : g4 ≠ g := by
    rcases hat with e | e
    · intro e2; subst e2; exact h.pg e
    · omega
  have hblk4 := ho.heap h.blk h.pb
  have hs4 : w4.ownsRow 0 104 65 (.slice (some ⟨g, 0, none⟩) d.secs.length cap) d.secs.length (d.secs.flatMap sec) := ho.owns h.secs (fun k hk => by simp only [Value.ownBlock, Option.some.injEq] at hk; subst hk; exact h.pg)
  have hset := (Only.refl (fun k => k = b) w4).here 1 (.slice (some ⟨g4, 0, none⟩) (d.pend.length + 1) cap4)
  refine ⟨⟨?_, ?_, ?_, h.gb, ?_, ?_⟩, ?_⟩
  · rw [five_setCell hblk4]
    rfl
  · exact hset.owns hs4 (fun k hk e => by simp only [Value.ownBlock, Option.some.injEq] at hk; exact h.gb (hk.trans e))
  · have e1 : (d.pend ++ [p]).length = d.pend.length + 1 := by simp
    have e2 : (d.pend ++ [p]).flatMap pen = d.pend.flatMap pen ++ pen p := by simp
    show World.ownsRow _ _ _ _ _ (d.pend ++ [p]).length ((d.pend ++ [p]).flatMap pen)
    rw [e1, e2]
    exact hset.owns own (fun k hk e => by simp only [Value.ownBlock, Option.some.injEq] at hk; exact hb4 (hk.trans e))
  · simp only [Value.ownBlock, ne_eq, Option.some.injEq]
    exact hb4
  · simp only [Value.ownBlock, ne_eq, Option.some.injEq]
    exact hg4
  · exact (ho.mono (fun _ _ e => Or.inr e)).trans hset (fun _ _ e => Or.inl e)

set_option maxRecDepth 100000 in
set_option maxHeartbeats 1000000 in
theorem dkWrite_any (h : Lie w b g cap pv d) (hf : d.Fine) (hwk : d.works ≤ 1000000) (k : Int) (xv : Value) (bs : List UInt8) (hx : Has w xv bs) (hxb : bs ≠ [] → ∀ j, blk xv = some j → j ≠ b) :
    Calls Tryz.prog 115 #[.pointer (some ⟨b, 0, none⟩), .int .i64 k, xv] w fun e w' => e = .returned (.int .i64 (d.writeE k bs)) ∧ ∃ pv', Lie w' b g cap pv' (d.write k bs) ∧ (pv'.ownBlock = pv.ownBlock ∨ ∃ j, pv'.ownBlock = some j ∧ w.heap.size ≤ j) ∧ Only (fun j => j = b ∨ pv.ownBlock = some j) w w' := by
  obtain ⟨xo, xc, hxv, hlc, hm⟩ := hx.shape
  subst hxv
  have HX := hide hx
  have H := hide h
  have HF := hide hf
  clear hx h hf
  cases ht : d.there k with
  | false =>
    have e1 : d.writeE k bs = 1 := by unfold Dk.writeE; simp [ht]
    have e2 : d.write k bs = d := by unfold Dk.write; simp [ht]
    rw [e1, e2]
    have HT := hide ht
    clear ht e1 e2
    go_enter Tryz.func115, Tryz.ntmps115
    go_wp2_with fail
    refine (dkHas_any (unhide H) k).mono ?_
    rintro e w1 ⟨rfl, rfl⟩
    rw [unhide HT]
    go_wp2_with fail
    go_ret
    exact ⟨rfl, pv, unhide H, Or.inl rfl, Only.refl _ _⟩
  | true =>
    by_cases hl : bs.length = 64
    · cases hfe : d.fell with
      | true =>
        have e1 : d.writeE k bs = 9 := by unfold Dk.writeE; simp [ht, hl, hfe]
        have e2 : d.write k bs = d.worked := by unfold Dk.write Dk.worked; simp [ht, hl, hfe]
        rw [e1, e2]
        have HT := hide ht
        have HE := hide hfe
        clear ht e1 e2 hfe
        go_enter Tryz.func115, Tryz.ntmps115
        go_wp2_with fail
        refine (dkHas_any (unhide H) k).mono ?_
        rintro e w1 ⟨rfl, rfl⟩
        rw [unhide HT]
        go_wp2_with fail
        refine (dkWork_any (unhide H) (unhide HF) hwk).mono ?_
        rintro e w2 ⟨rfl, h2, ho2⟩
        rw [unhide HE]
        go_wp2_with fail
        go_ret
        exact ⟨rfl, pv, h2, Or.inl rfl, ho2.mono (fun _ _ e => Or.inl e)⟩
      | false =>
        have e1 : d.writeE k bs = 0 := by unfold Dk.writeE; simp [ht, hl, hfe]
        have e2 : d.write k bs = { d.spent with pend := d.pend ++ [(k.toNat, bs)] } := by unfold Dk.write; simp [ht, hl, hfe]
        have e3 : d.worked = d.spent := by unfold Dk.worked; simp [hfe]
        have hk : 0 ≤ k ∧ k < d.secs.length := by simpa [Dk.there] using ht
        obtain ⟨kn, rfl⟩ : ∃ kn : Nat, k = kn := ⟨k.toNat, by omega⟩
        rw [e1, e2]
        have HT := hide ht
        have HE := hide hfe
        have HE3 := hide e3
        clear ht e1 e2 hfe e3 hk
        obtain ⟨i0, hi, hz0, hz1, hz2⟩ := info_parts Tryz.infoPen
        obtain ⟨zs, hzl, hzp, hbl⟩ : ∃ zs : List Value, zs.length = 64 ∧ (∀ w, (zeroValue 100).run Tryz.prog w = .ok (.agg (Value.int .i64 0 :: zs).toArray) w) ∧ (Value.int .i64 kn :: zs).all (·.oneCell') = true := ⟨zero64.map bv, rfl, Tryz.zeroPen, rfl⟩
        go_enter Tryz.func115, Tryz.ntmps115
        go_wp2_with fail
        refine (dkHas_any (unhide H) kn).mono ?_
        rintro e w1 ⟨rfl, rfl⟩
        rw [unhide HT]
        go_wp2_with fail
        refine (dkWork_any (unhide H) (unhide HF) hwk).mono ?_
        rintro e w2 ⟨rfl, h2, ho2⟩
        rw [unhide HE]
        rw [unhide HE3] at h2
        have hx2 := (unhide HX).only ho2 (fun hne k hk e => hxb hne k hk e)
        rw [hl] at hx2
        have HX2 := hide hx2
        clear hx2
        have H2 := hide h2
        have HO2 := hide ho2
        clear h2 ho2
        go_wp2_with (first
          | (refine wpList_store_new rfl 100 (.tmp 7) (.tmp 21) rfl w2 (Value.int .i64 0 :: zs).toArray (Value.int .i64 kn :: zs).toArray rfl rfl rfl (by rw [Tryz.sizePen]; simp [hzl]) (by simp) (by simpa using hbl) ?_)
          | (refine wpList_copy_new rfl (.tmp 23) (.tmp 24) 24 rfl 5 Tryz.underlying24 Tryz.size5 w2 100 (Value.int .i64 kn) zs 64 hzl rfl rfl _ bs rfl (unhide HX2) hl (by omega) ?_))
        obtain ⟨W, hW⟩ : ∃ W, W = w2.alloc (.cells (Value.int .i64 kn :: bs.map bv).toArray 100) := ⟨_, rfl⟩
        rw [← hW]
        obtain ⟨ps, hps⟩ : ∃ ps, ps = pen (kn, bs) := ⟨_, rfl⟩
        have hpl : ps.length = 65 := by rw [hps]; exact pen_length hl
        have hp1 : ∀ v ∈ ps, v.oneCell' = true := by rw [hps]; exact pen_one _
        have hr : W.rangeAt w2.heap.size 0 ps := by rw [hW, hps]; exact range_new w2 _ _
        have hl1 : (loadPen (.pointer (some ⟨w2.heap.size, 0, none⟩))).run Tryz.prog W.drew = .ok (.agg ps.toArray) W.drew :=
          run_loadAt_mid (P := Tryz.prog) W.drew w2.heap.size 0 100 ps _ (by simpa using hr) Tryz.underlying100 rfl (by rw [Tryz.sizePen, hpl])
        have hoW : Only (fun _ => False) w2 W := by rw [hW]; exact (Only.refl _ _).alloc _
        have hLW := (unhide H2).only hoW (fun h => h) (fun h => h) (fun _ _ h => h)
        have hbs : ∀ w', (rowPen (.agg ps.toArray)).run Tryz.prog w' = .ok (.slice (some ⟨w'.heap.size, 0, none⟩) 1 1) (w'.alloc (.cells ps.toArray 100)) := by rw [hps]; exact buildSlice_pen (kn, bs) hl
        have hbW : b < W.heap.size := lt_of_block hLW.blk
        have hc1 : W.cell? ⟨b, 1, none⟩ = some pv := (cells_five hLW.blk).2.1
        have hc2 : ∀ o, (W.drew.alloc o).cell? ⟨b, 1, none⟩ = some pv := fun o => by rw [World.cell?_alloc_lt _ _ _ (show (⟨b, 1, none⟩ : Addr).block < W.drew.heap.size from hbW)]; exact hc1
        have hfz : W.frozen? ⟨b, 1, none⟩ = false := (cells_five hLW.blk).2.2.2.2.2 1
        have HLW := hide hLW
        have HPS := hide hps
        have HW := hide hW
        clear hps hW hr hLW
        have hmn := (unhide HF).many
        have hfz2 : ∀ o, (W.alloc o).frozen? ⟨b, 1, none⟩ = false := fun o => by rw [World.frozen?_alloc_past _ _ _ (show (⟨b, 1, none⟩ : Addr).block < W.heap.size from hbW)]; exact hfz
        have hpb : pv.ownBlock ≠ some b := (unhide HLW).pb
        have hown : (W.drew.alloc (.cells ps.toArray 100)).ownsRow 0 100 65 pv d.pend.length (d.pend.flatMap pen) := (unhide HLW).pend.drew.alloc _
        have hnews : ∀ j u, ps[j]? = some u → (W.drew.alloc (.cells ps.toArray 100)).cell? ((⟨W.heap.size, 0, none⟩ : Addr).add j) = some u := World.news_of_block (heap_alloc_new W.drew _)
        have hmx : d.pend.length + 1 ≤ maxLen := by unfold maxLen; omega
        have HN := hide hnews
        have HO := hide hown
        clear hnews hown
        go_region_law (refine step_append_lies _ rfl (.tmp 30) (.tmp 32) 82 rfl 0 100 i0 (.agg (pen (0, zero64)).toArray) 65 72 Tryz.underlying82 hi hz0 hz1 hz2 rfl (by decide) pv d.pend.length (d.pend.flatMap pen) rfl (unhide HO) ⟨W.heap.size, 0, none⟩ 1 1 ps rfl (by rw [hpl]) (unhide HN) hp1 (by decide) hmx (by omega) (Nat.zero_le _) (W.heap.size + 1) (by simp) ?_; intro g4 cap4 w4 own4 gr4 at4 lt4; have c4 : w4.cell? ⟨b, 1, none⟩ = some pv := gr4.cell (hc2 _) (fun e => hpb e.symm); have f4 : w4.frozen? ⟨b, 1, none⟩ = false := (gr4.frozen_far ⟨b, 1, none⟩ (by simp; omega) (fun e => hpb e.symm)).trans (hfz2 _))
        all_goals go_wp2_with fail
        all_goals go_ret
        all_goals
          have ho4 : Only (fun j => pv.ownBlock = some j) W w4 := (((Only.refl _ W).drew).alloc _).grown gr4 (fun k hk _ => hk)
          have hps := unhide HPS
          subst hps
          have hfin := (unhide HLW).pushed (kn, bs) own4 ho4 (by rcases at4 with e | e; exact Or.inl e; exact Or.inr (by omega))
          refine ⟨rfl, .slice (some ⟨g4, 0, none⟩) (d.pend.length + 1) cap4, hfin.1, ?_, ?_⟩
          · rcases at4 with e | e
            · exact Or.inl e.symm
            · exact Or.inr ⟨g4, rfl, by have := (unhide HO2).size; have := hoW.size; omega⟩
          · exact (((unhide HO2).mono (fun _ _ e => Or.inl e)).trans hoW (fun _ _ e => e.elim)).trans hfin.2 (fun _ _ e => e)
    · have e1 : d.writeE k bs = 1 := by unfold Dk.writeE; simp [hl]
      have e2 : d.write k bs = d := by unfold Dk.write; simp [hl]
      rw [e1, e2]
      have HT := hide ht
      have hl' : ¬ (bs.length : Int) = 64 := by omega
      clear ht e1 e2
      go_enter Tryz.func115, Tryz.ntmps115
      go_wp2_with fail
      refine (dkHas_any (unhide H) k).mono ?_
      rintro e w1 ⟨rfl, rfl⟩
      rw [unhide HT]
      go_wp2_with fail
      go_ret
      exact ⟨rfl, pv, unhide H, Or.inl rfl, Only.refl _ _⟩
end

end Go.Proofs.YtmcobkcnpnfobaaGreat

namespace Go.Proofs.YtmcobkcnpnfobaaGreat
open Go.RowKit
set_option linter.unusedSimpArgs false
set_option linter.unusedVariables false

section
variable {w : World} {b g cap : Nat} {pv : Value} {d : Dk}

/-- what pends is done or lost: the list is empty then -/
theorem Lie.emptied {d' : Dk} (h : Lie w b g cap pv d) (hs : d'.secs = d.secs) (hp : d'.pend = []) {w' : World} (ho : Only (fun k => k = b) w w')
    (hb : w'.heap[b]? = some (.cells #[.slice (some ⟨g, 0, none⟩) d.secs.length cap, .slice none 0 0, .int .i64 d'.fuse, .bool d'.down, .int .i64 d'.works] 84 (0, 0))) : Lie w' b g cap (.slice none 0 0) d' := by
  refine ⟨by rw [hs]; exact hb, ?_, ?_, h.gb, by simp [Value.ownBlock], by simp [Value.ownBlock]⟩
  · rw [hs]
    exact ho.owns h.secs (fun k hk => by simp only [Value.ownBlock, Option.some.injEq] at hk; subst hk; exact h.gb)
  · rw [hp]
    exact World.ownsRow_nil _ _ _ _

theorem row_form {po : Option Addr} {pc n e m : Nat} {xs : List Value} (own : w.ownsRow 0 e m (.slice po n pc) n xs) (h0 : 0 < n) : ∃ pg, po = some ⟨pg, 0, none⟩ := by
  obtain ⟨pg, pc, hv, _⟩ := own.form h0
  simp only [Value.slice.injEq] at hv
  exact ⟨pg, hv.1⟩

theorem pend_shape (h : Lie w b g cap pv d) : ∃ po pc, pv = .slice po d.pend.length pc := ownsRow_shape h.pend

set_option maxRecDepth 100000 in
set_option maxHeartbeats 1000000 in
theorem dkFlush_any (h : Lie w b g cap pv d) (hf : d.Fine) (hwk : d.works ≤ 1000000) :
    Calls Tryz.prog 116 #[.pointer (some ⟨b, 0, none⟩)] w fun e w' => e = .returned (.int .i64 d.flushE) ∧ ∃ pv', Lie w' b g cap pv' d.flush ∧ (pv'.ownBlock = pv.ownBlock ∨ pv'.ownBlock = none) ∧ Only (fun j => j = b ∨ j = g) w w' := by
  have H := hide h
  have HF := hide hf
  have hmn := hf.many
  clear h hf
  cases hfe : d.fell with
  | true =>
    have e1 : d.flushE = 9 := by unfold Dk.flushE; simp [hfe]
    have e2 : d.flush = d.worked := by unfold Dk.flush Dk.worked; simp [hfe]
    rw [e1, e2]
    have HE := hide hfe
    clear e1 e2 hfe
    go_enter Tryz.func116, Tryz.ntmps116
    go_wp2_with fail
    refine (dkWork_any (unhide H) (unhide HF) hwk).mono ?_
    rintro e w2 ⟨rfl, h2, ho2⟩
    rw [unhide HE]
    go_wp2_with fail
    go_ret
    exact ⟨rfl, pv, h2, Or.inl rfl, ho2.mono (fun _ _ e => Or.inl e)⟩
  | false =>
    have e1 : d.flushE = 0 := by unfold Dk.flushE; simp [hfe]
    have e2 : d.flush = { d.spent with secs := d.secs.putAll d.pend, pend := [] } := by unfold Dk.flush; simp [hfe]
    have e3 : d.worked = d.spent := by unfold Dk.worked; simp [hfe]
    rw [e1, e2]
    have HE := hide hfe
    have HE3 := hide e3
    clear e1 e2 hfe e3
    obtain ⟨po, pc, hpv⟩ := pend_shape (unhide H)
    subst hpv
    obtain ⟨zs, hzl, hzp, hbl⟩ : ∃ zs : List Value, zs.length = 64 ∧ (∀ w, (zeroValue 100).run Tryz.prog w = .ok (.agg (Value.int .i64 0 :: zs).toArray) w) ∧ zs.all (·.oneCell') = true := ⟨zero64.map bv, rfl, Tryz.zeroPen, rfl⟩
    go_enter Tryz.func116, Tryz.ntmps116
    go_wp2_with fail
    refine (dkWork_any (unhide H) (unhide HF) hwk).mono ?_
    rintro e w2 ⟨rfl, h2, ho2⟩
    rw [unhide HE]
    rw [unhide HE3] at h2
    obtain ⟨c0, c1, c2, c3, c4, fz⟩ := cells_five h2.blk
    have H2 := hide h2
    have HO2 := hide ho2
    clear h2 ho2
    go_wp2_with fail
    go_loopw [13] (fun i wr => ∃ k : Nat, k ≤ d.pend.length ∧ i = .int .i64 k ∧ Lie wr b g cap (.slice po d.pend.length pc) { d.spent with secs := d.secs.putAll (d.pend.take k) } ∧ Only (fun j => j = g) w2 wr) (fun i _ => d.pend.length - (intOf i).toNat)
    case atStart => exact ⟨0, Nat.zero_le _, rfl, unhide H2, Only.refl _ _⟩
    case round =>
      obtain ⟨k, hk, rfl, hL, ho⟩ := hrel
      by_cases hlt : k < d.pend.length
      · have hpk : d.pend[k]? = some d.pend[k] := List.getElem?_eq_getElem hlt
        generalize d.pend[k] = p at hpk
        have hpf := (unhide HF).pend p (List.mem_of_getElem? hpk)
        obtain ⟨pg, rfl⟩ := row_form (n := d.pend.length) hL.pend (by omega)
        have hrng := row_range hL.pend (fun x hx => pen_length ((unhide HF).pend x hx).2) rfl k p hpk
        have hpl := pen_length hpf.2
        have hp1 := pen_one p
        obtain ⟨ps, hps⟩ : ∃ ps, ps = pen p := ⟨_, rfl⟩
        rw [← hps] at hrng hpl hp1
        have HL := hide hL
        have HPS := hide hps
        have HPK := hide hpk
        clear hL hps hpk
        have hlt' : (k : Int) < (d.pend.length : Int) := by omega
        go_wp2_with (first
          | (refine wpList_load_mid rfl 100 (.tmp 15) rfl pg (k * 65) rfl ps _ hrng Tryz.underlying100 rfl (by rw [Tryz.sizePen, hpl]) ?_)
          | (refine wpList_store_new rfl 100 (.tmp 4) (.tmp 16) rfl wr (Value.int .i64 0 :: zs).toArray ps.toArray rfl rfl rfl (by rw [Tryz.sizePen]; simp [hpl]) (by simp [hpl, hzl]) (all_oneCell_toArray hp1) ?_)
          | (refine wpList_load_mid rfl 100 (.tmp 4) rfl wr.heap.size 0 rfl ps _ (range_new wr ps.toArray _) Tryz.underlying100 rfl (by rw [Tryz.sizePen, hpl]) ?_))
        have hoa : Only (fun _ => False) wr (wr.alloc (.cells ps.toArray 100)) := (Only.refl _ _).alloc _
        have hfk : Dk.Fine { d.spent with secs := d.secs.putAll (d.pend.take k) } := (unhide HF).spent.withSecs (Secs.Fine.putAll (unhide HF).secs _ (fun q hq => ((unhide HF).pend q (List.mem_of_mem_take hq)).2)) (Secs.putAll_length _ _)
        rw [unhide HPS]
        rw [unhide HPS] at hoa
        refine (dkDo_any ((unhide HL).only hoa (fun h => h) (fun h => h) (fun _ _ h => h)) hfk p (by show p.1 < (d.secs.putAll (d.pend.take k)).length; rw [Secs.putAll_length]; exact hpf.1) hpf.2).mono ?_
        rintro e w5 ⟨rfl, h5, ho5⟩
        have H5 := hide h5
        have HO5 := hide ho5
        clear h5 ho5
        go_wp2_with fail
        go_roundw
        case rel =>
          refine ⟨k + 1, by omega, by go_num, ?_, ho.trans ((hoa.mono (fun _ _ h => h.elim)).trans (unhide HO5) (fun _ _ e => e)) (fun _ _ e => e)⟩
          have hq := unhide H5
          rw [Secs.putAll_take _ _ _ _ (unhide HPK)]
          exact hq
        case measure => simp [intOf]; omega
      · obtain rfl : k = d.pend.length := by omega
        rw [List.take_length] at hL
        obtain ⟨c0, c1, c2, c3, c4, fz⟩ := cells_five hL.blk
        have HL := hide hL
        clear hL
        go_wp2_with fail
        go_ret
        have hset := (Only.refl (fun k => k = b) wr).here 1 (.slice none 0 0)
        refine ⟨rfl, .slice none 0 0, (unhide HL).emptied (d' := { d.spent with secs := d.secs.putAll d.pend, pend := [] }) rfl rfl hset (by rw [five_setCell (unhide HL).blk]; rfl), Or.inr rfl, ?_⟩
        exact (((unhide HO2).mono (fun _ _ e => Or.inl e)).trans ho (fun _ _ e => Or.inr e)).trans hset (fun _ _ e => Or.inl e)

theorem fate_of {f : Int} : (f.tmod 3 + 3) % 3 = f % 3 := by
  have h1 := Int.emod_nonneg f (show (3 : Int) ≠ 0 by decide)
  have h2 := Int.emod_lt_of_pos f (show (0 : Int) < 3 by decide)
  have h3 : f.tmod 3 = f % 3 ∨ f.tmod 3 = f % 3 - 3 := by
    rw [Int.tmod_eq_emod]
    split <;> simp
  rcases h3 with e | e <;> rw [e] <;> omega

set_option maxRecDepth 100000 in
theorem dkFateOf_any (fv : Value) (fs : List Int) (hfs : HasV w fv (fs.map (.int .i64))) (i : Nat) (hi : i ≤ 1000000) :
    Calls Tryz.prog 49 #[fv, .int .i64 i] w fun e w' => e = .returned (.int .i64 (fate fs i)) ∧ w' = w := by
  obtain ⟨fo, fc, rfl, hl, hm⟩ := hfs.shape
  rw [List.length_map] at hl hfs ⊢
  have hm' : fs.length ≤ 9223372036854775807 := by unfold maxLen at hm; omega
  by_cases hlt : i < fs.length
  · have hfi : fate fs i = fs[i] % 3 := by unfold fate; rw [List.getElem?_eq_getElem hlt]
    rw [hfi]
    obtain ⟨bb, off, rfl, hbad, hc⟩ := hfs.at (by omega)
    clear hbad
    have hci := hc i (by simpa using hlt)
    simp only [List.getElem_map] at hci
    generalize fs[i] = f at hci ⊢
    have HE := hide (fate_of (f := f))
    have hb : -3 < f.tmod 3 ∧ f.tmod 3 < 3 := ⟨by have := Int.tmod_lt_of_pos f (show (0:Int) < 3 by decide); have := Int.lt_tmod_of_pos f (show (0:Int) < 3 by decide); omega, Int.tmod_lt_of_pos f (by decide)⟩
    obtain ⟨hb1, hb2⟩ := hb
    have hlt' : (i : Int) < (fs.length : Int) := by omega
    clear hc hfs hfi hm hm'
    go_enter Tryz.func49, Tryz.ntmps49
    go_wp2_with fail
    go_ret
    rw [unhide HE]
    exact ⟨rfl, rfl⟩
  · have hfi : fate fs i = 1 := by unfold fate; rw [List.getElem?_eq_none (by omega)]
    rw [hfi]
    have hge : (fs.length : Int) ≤ (i : Int) := by omega
    clear hfi hfs
    go_enter Tryz.func49, Tryz.ntmps49
    go_wp2
    go_ret
    exact ⟨rfl, rfl⟩
end

end Go.Proofs.YtmcobkcnpnfobaaGreat

namespace Go.Proofs.YtmcobkcnpnfobaaGreat
open Go.RowKit
set_option linter.unusedSimpArgs false
set_option linter.unusedVariables false

section
variable {w : World} {b g cap : Nat} {pv : Value} {d : Dk}

theorem crashTo_step (fs : List Int) (l : Pends) (s : Secs) (k : Nat) (p) (h : l[k]? = some p) : crashTo fs l s (k + 1) = (crashTo fs l s k).hit (fate fs k) p := by
  rw [crashTo, h]

theorem fate_three (fs : List Int) (k : Nat) : fate fs k = 0 ∨ fate fs k = 1 ∨ fate fs k = 2 := by
  unfold fate
  split
  · simp
  · rename_i f _
    have h1 := Int.emod_nonneg f (show (3 : Int) ≠ 0 by decide)
    have h2 := Int.emod_lt_of_pos f (show (0 : Int) < 3 by decide)
    omega

set_option maxRecDepth 100000 in
set_option maxHeartbeats 2000000 in
theorem dkCrash_any (h : Lie w b g cap pv d) (hf : d.Fine) (hwk : d.works ≤ 1000000) (fv : Value) (fs : List Int) (hfs : HasV w fv (fs.map (.int .i64))) (hfb : fs ≠ [] → ∀ j, blk fv = some j → j ≠ b ∧ j ≠ g) :
    Calls Tryz.prog 33 #[.pointer (some ⟨b, 0, none⟩), fv] w fun e w' => e = .returned (.tuple #[]) ∧ Lie w' b g cap (.slice none 0 0) (d.crash fs) ∧ Only (fun j => j = b ∨ j = g) w w' := by
  have H := hide h
  have HF := hide hf
  have HFS := hide hfs
  have HFB := hide hfb
  have hmn := hf.many
  clear h hf hfs hfb
  obtain ⟨po, pc, hpv⟩ := pend_shape (unhide H)
  subst hpv
  obtain ⟨c0, c1, c2, c3, c4, fz⟩ := cells_five (unhide H).blk
  obtain ⟨zs, hzl, hzp, hbl⟩ : ∃ zs : List Value, zs.length = 64 ∧ (∀ w, (zeroValue 100).run Tryz.prog w = .ok (.agg (Value.int .i64 0 :: zs).toArray) w) ∧ zs.all (·.oneCell') = true := ⟨zero64.map bv, rfl, Tryz.zeroPen, rfl⟩
  go_enter Tryz.func33, Tryz.ntmps33
  go_wp2_with fail
  clear c0 c1 c2 c3 c4
  go_loopw [11] (fun i wr => ∃ k : Nat, k ≤ d.pend.length ∧ i = .int .i64 k ∧ Lie wr b g cap (.slice po d.pend.length pc) { d with secs := crashTo fs d.pend d.secs k } ∧ Only (fun j => j = g) w wr) (fun i _ => d.pend.length - (intOf i).toNat)
  case atStart => exact ⟨0, Nat.zero_le _, rfl, unhide H, Only.refl _ _⟩
  case round =>
    obtain ⟨k, hk, rfl, hL, ho⟩ := hrel
    by_cases hlt : k < d.pend.length
    · have hpk : d.pend[k]? = some d.pend[k] := List.getElem?_eq_getElem hlt
      generalize d.pend[k] = p at hpk
      have hpf := (unhide HF).pend p (List.mem_of_getElem? hpk)
      obtain ⟨pg, rfl⟩ := row_form (n := d.pend.length) hL.pend (by omega)
      have hrng := row_range hL.pend (fun x hx => pen_length ((unhide HF).pend x hx).2) rfl k p hpk
      have hpl := pen_length hpf.2
      have hp1 := pen_one p
      obtain ⟨ps, hps⟩ : ∃ ps, ps = pen p := ⟨_, rfl⟩
      rw [← hps] at hrng hpl hp1
      have hfk : Dk.Fine { d with secs := crashTo fs d.pend d.secs k } := (unhide HF).withSecs (Secs.Fine.crash (unhide HF).secs fs _ (fun q hq => ((unhide HF).pend q hq).2) k) (crashTo_length _ _ _ _)
      have hFS := (unhide HFS).only ho (fun hne j hj => (unhide HFB (fun e => hne (by rw [e]; rfl)) j hj).2)
      have hst := crashTo_step fs d.pend d.secs k p hpk
      have hsl := crashTo_length fs d.pend d.secs k
      have HL := hide hL
      have HFK := hide hfk
      have HPS := hide hps
      have HPK := hide hpk
      have HS := hide hst
      have HFS2 := hide hFS
      have HSL := hide hsl
      clear hL hps hpk hst hfk hFS hsl
      have hlt' : (k : Int) < (d.pend.length : Int) := by omega
      have hoa : Only (fun _ => False) wr (wr.alloc (.cells ps.toArray 100)) := (Only.refl _ _).alloc _
      have hLa := (unhide HL).only hoa (fun h => h) (fun h => h) (fun _ _ h => h)
      have HLA := hide hLa
      clear hLa
      rcases fate_three fs k with hf0 | hf1 | hf2
      · rw [hf0] at HS
        have HF0 := hide hf0
        clear hf0
        go_wp2_with (first
          | (refine wpList_load_mid rfl 100 (.tmp 14) rfl pg (k * 65) rfl ps _ hrng Tryz.underlying100 rfl (by rw [Tryz.sizePen, hpl]) ?_)
          | (refine wpList_store_new rfl 100 (.tmp 5) (.tmp 15) rfl wr (Value.int .i64 0 :: zs).toArray ps.toArray rfl rfl rfl (by rw [Tryz.sizePen]; simp [hpl]) (by simp [hpl, hzl]) (all_oneCell_toArray hp1) ?_))
        refine (dkFateOf_any fv fs ((unhide HFS2).only hoa (fun _ _ _ h => h)) k (by omega)).mono ?_
        rintro e w5 ⟨rfl, rfl⟩
        rw [unhide HF0]
        go_wp2_with (refine wpList_load_mid rfl 100 (.tmp 5) rfl wr.heap.size 0 rfl ps _ (range_new wr ps.toArray _) Tryz.underlying100 rfl (by rw [Tryz.sizePen, hpl]) ?_)
        have HLA' := HLA
        have hoa' := hoa
        rw [unhide HPS] at HLA' hoa' ⊢
        refine (dkDo_any (unhide HLA') (unhide HFK) p (by show p.1 < (crashTo fs d.pend d.secs k).length; rw [unhide HSL]; exact hpf.1) hpf.2).mono ?_
        rintro e w6 ⟨rfl, h6, ho6⟩
        have H6 := hide h6
        have HO6 := hide ho6
        clear h6 ho6
        go_wp2_with fail
        go_roundw
        case rel =>
          refine ⟨k + 1, by omega, by go_num, ?_, ho.trans ((hoa'.mono (fun _ _ h => h.elim)).trans (unhide HO6) (fun _ _ e => e)) (fun _ _ e => e)⟩
          rw [unhide HS]
          exact unhide H6
        case measure => simp [intOf]; omega
      · rw [hf1] at HS
        have HF0 := hide hf1
        clear hf1
        go_wp2_with (first
          | (refine wpList_load_mid rfl 100 (.tmp 14) rfl pg (k * 65) rfl ps _ hrng Tryz.underlying100 rfl (by rw [Tryz.sizePen, hpl]) ?_)
          | (refine wpList_store_new rfl 100 (.tmp 5) (.tmp 15) rfl wr (Value.int .i64 0 :: zs).toArray ps.toArray rfl rfl rfl (by rw [Tryz.sizePen]; simp [hpl]) (by simp [hpl, hzl]) (all_oneCell_toArray hp1) ?_))
        refine (dkFateOf_any fv fs ((unhide HFS2).only hoa (fun _ _ _ h => h)) k (by omega)).mono ?_
        rintro e w5 ⟨rfl, rfl⟩
        rw [unhide HF0]
        go_wp2_with fail
        go_roundw
        case rel =>
          refine ⟨k + 1, by omega, by go_num, ?_, ho.trans (hoa.mono (fun _ _ h => h.elim)) (fun _ _ e => e)⟩
          rw [unhide HS]
          exact unhide HLA
        case measure => simp [intOf]; omega
      · rw [hf2] at HS
        have HF0 := hide hf2
        clear hf2
        go_wp2_with (first
          | (refine wpList_load_mid rfl 100 (.tmp 14) rfl pg (k * 65) rfl ps _ hrng Tryz.underlying100 rfl (by rw [Tryz.sizePen, hpl]) ?_)
          | (refine wpList_store_new rfl 100 (.tmp 5) (.tmp 15) rfl wr (Value.int .i64 0 :: zs).toArray ps.toArray rfl rfl rfl (by rw [Tryz.sizePen]; simp [hpl]) (by simp [hpl, hzl]) (all_oneCell_toArray hp1) ?_))
        refine (dkFateOf_any fv fs ((unhide HFS2).only hoa (fun _ _ _ h => h)) k (by omega)).mono ?_
        rintro e w5 ⟨rfl, rfl⟩
        rw [unhide HF0]
        go_wp2_with fail
        obtain ⟨W, hW⟩ : ∃ W, W = wr.alloc (.cells ps.toArray 100) := ⟨_, rfl⟩
        have hLW := unhide HLA
        rw [← hW] at hLW ⊢
        have hlb := lt_of_block (unhide HL).blk
        have hlg : g < wr.heap.size := ((unhide HL).secs.lt g rfl).2
        have hwc : W.cell? ⟨wr.heap.size, 0, none⟩ = some (.int .i64 p.1) := by
          rw [hW, cell_of_row _ _ _ _ _ _ (heap_alloc_new wr _), unhide HPS]
          rfl
        have hc0 := (cells_five hLW.blk).1
        have hth := row_there hLW.secs p.1 (by show p.1 < (crashTo fs d.pend d.secs k).length; rw [unhide HSL]; exact hpf.1)
        have hk0 : (0 : Int) ≤ (p.1 : Int) := Int.natCast_nonneg _
        have hk1 : (p.1 : Int) < ((crashTo fs d.pend d.secs k).length : Int) := by rw [unhide HSL]; have := hpf.1; omega
        have hgb := (unhide HL).gb
        have hfin := fun (w' : World) (ho : Only (fun _ => False) W w') => hLW.put (unhide HFK) p.1 none (fun bs e => by cases e) (by show p.1 < (crashTo fs d.pend d.secs k).length; rw [unhide HSL]; exact hpf.1) ho
        have HFIN := hide hfin
        have hoW : Only (fun _ => False) wr W := by rw [hW]; exact hoa
        have n1 : ¬ wr.heap.size = g := by omega
        have n2 : ¬ b = g := fun e => hgb e.symm
        obtain ⟨ts, hts⟩ : ∃ ts, ts = sec none := ⟨_, rfl⟩
        obtain ⟨Z, hz, hZl, hZs⟩ : ∃ Z : List Value, (∀ w, (zeroValue 104).run Tryz.prog w = .ok (.agg Z.toArray) w) ∧ Z.length = 65 ∧ Z.set 64 (.bool true) = ts := ⟨sec (some zero64), Tryz.zeroSec, rfl, by rw [hts]; rfl⟩
        have htl : ts.length = 65 := by rw [hts]; rfl
        have ht1 : ∀ v ∈ ts, v.oneCell' = true := by rw [hts]; exact sec_one _
        have hst : (storeCells ⟨g, p.1 * 65, none⟩ ts).run Tryz.prog W.drew = .ok () (W.drew.setCells g (p.1 * 65) ts) := run_storeCells_there (by rw [htl]; simpa using hth) ht1
        have HTS := hide hts
        clear hts hfin hW hLW
        generalize hpk1 : p.1 = pk at *
        have HPK1 := hide hpk1
        clear hpk1
        generalize (crashTo fs d.pend d.secs k).length = sn at *
        go_region_held (fun w' => w'.cell? ⟨wr.heap.size, 0, none⟩ = some (.int .i64 pk) ∧ w'.cell? ⟨b, 0, none⟩ = some (.slice (some ⟨g, 0, none⟩) sn cap) ∧ w'.there g (pk * 65) 65) ((go_split_ands; simp only [World.rangeAt_drew, World.there_drew, World.cell?_drew] at *; refine ⟨?_, ?_, ?_⟩ <;> first | assumption | (apply World.there_setCells; assumption) | (rw [World.cell?_setCells_out _ _ _ _ _ (fun e _ => absurd e (by assumption))]; assumption))) (fail)
        have hf2 := unhide HFIN W.drew ((Only.refl _ W).drew)
        rw [← unhide HTS] at hf2
        have HF2 := hide hf2
        clear hf2 hst
        go_wp2_with fail
        go_roundw
        case rel =>
          refine ⟨k + 1, by omega, by go_num, ?_, (ho.trans (hoW.mono (fun _ _ h => h.elim)) (fun _ _ e => e)).trans (unhide HF2).2 (fun _ _ e => e)⟩
          have e : Secs.hit (crashTo fs d.pend d.secs k) 2 p = List.set (crashTo fs d.pend d.secs k) pk none := by
            unfold Secs.hit
            rw [unhide HPK1]
            rfl
          rw [unhide HS, e]
          exact (unhide HF2).1
        case measure => simp [intOf]; omega
    · obtain rfl : k = d.pend.length := by omega
      obtain ⟨c0, c1, c2, c3, c4, fz⟩ := cells_five hL.blk
      have HL := hide hL
      clear hL
      go_wp2_with fail
      go_end0
      have hset := (((Only.refl (fun k => k = b) wr).here 1 (.slice none 0 0)).here 2 (.int .i64 (-1))).here 3 (.bool false)
      refine ⟨rfl, (unhide HL).emptied (d' := d.crash fs) rfl rfl hset (by rw [five_setCell (five_setCell (five_setCell (unhide HL).blk))]; rfl), ?_⟩
      exact (ho.mono (fun _ _ e => Or.inr e)).trans hset (fun _ _ e => Or.inl e)
end

end Go.Proofs.YtmcobkcnpnfobaaGreat

namespace Go.Proofs.YtmcobkcnpnfobaaGreat
open Go.RowKit
set_option linter.unusedSimpArgs false
set_option linter.unusedVariables false

section
variable {w : World} {b g cap : Nat} {pv : Value} {d : Dk}

theorem pen_parts {gg o : Nat} {p : Nat × List UInt8} (h : w.rangeAt gg o (pen p)) : w.cell? ⟨gg, o, none⟩ = some (.int .i64 p.1) ∧ w.rangeAt gg (o + 1) (p.2.map bv) := by
  constructor
  · simpa using h 0 _ (by simp [pen])
  · intro j v hv
    have := h (j + 1) v (by simpa [pen] using hv)
    rwa [show o + 1 + j = o + (j + 1) by omega]

theorem sec_parts {gg o : Nat} {bs : List UInt8} (h : w.rangeAt gg o (sec (some bs))) (hl : bs.length = 64) : w.cell? ⟨gg, o + 64, none⟩ = some (.bool false) ∧ w.rangeAt gg o (bs.map bv) := by
  constructor
  · exact h 64 _ (by simp [sec, hl])
  · intro j v hv
    have hj : j < 64 := by have := (List.getElem?_eq_some_iff.1 hv).1; simpa [hl] using this
    refine h j v ?_
    rw [sec, List.getElem?_append_left (by simpa [hl] using hj)]
    exact hv

theorem sec_bad {gg o : Nat} (h : w.rangeAt gg o (sec none)) : w.cell? ⟨gg, o + 64, none⟩ = some (.bool true) := h 64 _ (by simp [sec])

set_option maxRecDepth 100000 in
set_option maxHeartbeats 2000000 in
theorem dkRead_any (h : Lie w b g cap pv d) (hf : d.Fine) (hwk : d.works ≤ 1000000) (k : Int) :
    Calls Tryz.prog 60 #[.pointer (some ⟨b, 0, none⟩), .int .i64 k] w fun e w' => ∃ v, e = .returned (.tuple #[v, .int .i64 (d.readE k)]) ∧ Owns w.heap.size w' v (d.read k) ∧ Only (fun _ => False) w w' := by
  obtain ⟨c0, c1, c2, c3, c4, fz⟩ := cells_five h.blk
  have H := hide h
  have HF := hide hf
  have hmn := hf.many
  clear h hf
  have hnil : Owns w.heap.size w (.slice none 0 0) [] := World.ownsRow_nil _ _ _ _
  cases ht : d.there k with
  | false =>
    have e1 : d.readE k = 1 := by unfold Dk.readE; simp [ht]
    have e2 : d.read k = [] := by unfold Dk.read; simp [ht]
    rw [e1, e2]
    have HT := hide ht
    clear ht e1 e2
    go_enter Tryz.func60, Tryz.ntmps60
    go_wp2_with fail
    refine (dkHas_any (unhide H) k).mono ?_
    rintro e w1 ⟨rfl, rfl⟩
    rw [unhide HT]
    go_wp2_with fail
    go_ret2
    exact ⟨.slice none 0 0, rfl, hnil, Only.refl _ _⟩
  | true =>
    cases hd : d.down with
    | true =>
      have e1 : d.readE k = 9 := by unfold Dk.readE; simp [ht, hd]
      have e2 : d.read k = [] := by unfold Dk.read; simp [ht, hd]
      rw [e1, e2]
      have HT := hide ht
      rw [hd] at c3
      clear ht e1 e2 hd
      go_enter Tryz.func60, Tryz.ntmps60
      go_wp2_with fail
      refine (dkHas_any (unhide H) k).mono ?_
      rintro e w1 ⟨rfl, rfl⟩
      rw [unhide HT]
      go_wp2_with fail
      go_ret2
      exact ⟨.slice none 0 0, rfl, hnil, Only.refl _ _⟩
    | false =>
      have hk : 0 ≤ k ∧ k < d.secs.length := by simpa [Dk.there] using ht
      obtain ⟨kn, rfl⟩ : ∃ kn : Nat, k = kn := ⟨k.toNat, by omega⟩
      have hkn : kn < d.secs.length := by omega
      have e1 : d.readE kn = if (d.look kn).isSome then 0 else 8 := by unfold Dk.readE; simp [ht, hd]
      have e2 : d.read kn = (d.look kn).getD [] := by unfold Dk.read; simp [ht, hd]
      have E1 := hide e1
      have E2 := hide e2
      have HT := hide ht
      rw [hd] at c3
      clear ht e1 e2 hd hk
      obtain ⟨po, pc, hpv⟩ := pend_shape (unhide H)
      subst hpv
      go_enter Tryz.func60, Tryz.ntmps60
      go_wp2_with fail
      refine (dkHas_any (unhide H) kn).mono ?_
      rintro e w1 ⟨rfl, rfl⟩
      rw [unhide HT]
      go_wp2_with fail
      go_loopw [6] (fun i wr => wr = w1 ∧ ∃ (m : Nat) (z : Int), m ≤ d.pend.length ∧ i = .int .i64 z ∧ z = (m : Int) - 1 ∧ lastOf d.pend kn = lastOf (d.pend.take m) kn) (fun i _ => ((intOf i) + 1).toNat)
      case atStart => exact ⟨rfl, d.pend.length, _, Nat.le_refl _, rfl, rfl, by rw [List.take_length]⟩
      case round =>
        obtain ⟨rfl, m, z, hm, rfl, hz, hlast⟩ := hrel
        cases m with
        | zero =>
          have hlk : d.look kn = d.secs.getD kn none := by
            unfold Dk.look
            rw [hlast]
            rfl
          have hsk : d.secs[kn]? = some d.secs[kn] := List.getElem?_eq_getElem hkn
          have hsf : ∀ bs, d.secs[kn] = some bs → bs.length = 64 := fun bs e => (unhide HF).secs _ (List.getElem_mem hkn) bs e
          have hgd : d.secs.getD kn none = d.secs[kn] := by simp [List.getD, hsk]
          have hrng := row_range (unhide H).secs (fun x hx => sec_length (fun bs e => (unhide HF).secs x hx bs e)) rfl kn _ hsk
          rw [hgd] at hlk
          have HLK := hide hlk
          clear hlk hgd hlast hsk
          have hkn' : (kn : Int) < (d.secs.length : Int) := by omega
          obtain rfl : z = -1 := by omega
          clear hz
          generalize d.secs[kn] = s at hrng hsf HLK
          cases s with
          | none =>
            have hbad := sec_bad hrng
            clear hrng
            go_wp2_with fail
            go_ret2
            rw [unhide E1, unhide E2, unhide HLK]
            exact ⟨.slice none 0 0, rfl, hnil, Only.refl _ _⟩
          | some bs =>
            obtain ⟨hbad, hr⟩ := sec_parts hrng (hsf bs rfl)
            have hl := hsf bs rfl
            clear hrng hsf
            obtain ⟨cs, hcs⟩ : ∃ cs, cs = bs.map bv := ⟨_, rfl⟩
            rw [← hcs] at hr
            have hcl : cs.length = 64 := by rw [hcs]; simpa using hl
            have HCS := hide hcs
            clear hcs
            go_wp2_with (refine wpList_load_mid rfl 98 (.tmp 58) rfl g (kn * 65) rfl cs _ hr Tryz.underlying98 rfl (by rw [Tryz.sizeBlk, hcl]) ?_)
            rw [unhide HCS]
            refine (dkBytes_any bs hl _).mono ?_
            rintro e w5 ⟨v, rfl, own, ho⟩
            go_wp2_with fail
            go_ret2
            rw [unhide E1, unhide E2, unhide HLK]
            exact ⟨v, rfl, own, ho⟩
        | succ m =>
          obtain rfl : z = (m : Int) := by omega
          clear hz
          have hpk : d.pend[m]? = some d.pend[m] := List.getElem?_eq_getElem (by omega)
          generalize d.pend[m] = p at hpk
          have hpf := (unhide HF).pend p (List.mem_of_getElem? hpk)
          obtain ⟨pg, rfl⟩ := row_form (n := d.pend.length) (unhide H).pend (by omega)
          have hrng := row_range (unhide H).pend (fun x hx => pen_length ((unhide HF).pend x hx).2) rfl m p hpk
          obtain ⟨hc, hr⟩ := pen_parts hrng
          have hlt := lastOf_take d.pend m kn p hpk
          rw [hlt] at hlast
          have HLA := hide hlast
          clear hlt hlast hrng hpk
          have hm' : (m : Int) < (d.pend.length : Int) := by omega
          have hm0 : (0 : Int) ≤ (m : Int) := Int.natCast_nonneg _
          obtain ⟨pk, bs⟩ := p
          simp only at hc hr hpf
          by_cases hpe : pk = kn
          · subst hpe
            have hlk : d.look pk = some bs := by
              unfold Dk.look
              rw [unhide HLA, if_pos rfl]
            have HLK := hide hlk
            clear hlk HLA
            have hl := hpf.2
            obtain ⟨cs, hcs⟩ : ∃ cs, cs = bs.map bv := ⟨_, rfl⟩
            rw [← hcs] at hr
            have hcl : cs.length = 64 := by rw [hcs]; simpa using hl
            have HCS := hide hcs
            clear hcs
            go_wp2_with (refine wpList_load_mid rfl 98 (.tmp 41) rfl pg (m * 65 + 1) rfl cs _ hr Tryz.underlying98 rfl (by rw [Tryz.sizeBlk, hcl]) ?_)
            rw [unhide HCS]
            refine (dkBytes_any bs hl _).mono ?_
            rintro e w5 ⟨v, rfl, own, ho⟩
            go_wp2_with fail
            go_ret2
            rw [unhide E1, unhide E2, unhide HLK]
            exact ⟨v, rfl, own, ho⟩
          · have hpe' : ¬ (pk : Int) = (kn : Int) := by omega
            go_wp2_with fail
            go_roundw
            case rel =>
              refine ⟨trivial, m, _, by omega, rfl, rfl, ?_⟩
              have := unhide HLA
              rw [if_neg hpe] at this
              exact this
            case measure => simp [intOf]
end

end Go.Proofs.YtmcobkcnpnfobaaGreat

namespace Go.Proofs.YtmcobkcnpnfobaaGreat
open Go.RowKit
set_option linter.unusedSimpArgs false
set_option linter.unusedVariables false

/-- a Write's cells -/
def wrt (p : Nat × Value) : List Value := [.int .i64 p.1, p.2]

theorem Only.range {S : Nat → Prop} {w w' : World} (h : Only S w w') {b o : Nat} {cs : List Value} (hr : w.rangeAt b o cs) (hS : ¬ S b) : w'.rangeAt b o cs := fun j v hv => h.cell (hr j v hv) hS

theorem Has.one {w : World} {v : Value} {bs : List UInt8} (h : Has w v bs) : v.oneCell' = true := by
  obtain ⟨ao, c, rfl, _⟩ := h.shape
  rfl

theorem wrt_length (p) : (wrt p).length = 2 := rfl

theorem own_blk {w : World} {base e m n : Nat} {v : Value} {xs : List Value} (h : w.ownsRow base e m v n xs) (j : Nat) (hj : blk v = some j) : v.ownBlock = some j := by
  obtain ⟨ao, cap, rfl⟩ := ownsRow_shape h
  cases ao with
  | none => cases hj
  | some a => exact hj

section
variable {w : World} {b g cap : Nat} {pv : Value} {d : Dk}

end

end Go.Proofs.YtmcobkcnpnfobaaGreat

namespace Go.Proofs.YtmcobkcnpnfobaaGreat
open Go.RowKit
set_option linter.unusedSimpArgs false
set_option linter.unusedVariables false

theorem flat_same {α : Type} (f : α → List Value) (x : α) (m : Nat) (hm : (f x).length = m) (h0 : 0 < m) (n : Nat) (C : Array Value) (hC : C.toList = f x) : (madeCells C (n * m)).toList = (List.replicate n x).flatMap f := by
  have hl := flat_length f m (List.replicate n x) (fun y hy => by rw [List.eq_of_mem_replicate hy]; exact hm)
  rw [List.length_replicate] at hl
  have hCs : C.size = m := by rw [← Array.length_toList, hC]; exact hm
  apply List.ext_getElem?
  intro i
  by_cases hi : i < n * m
  · have h1 : i = i / m * m + i % m := by rw [Nat.mul_comm]; exact (Nat.div_add_mod i m).symm
    have h2 : i % m < m := Nat.mod_lt _ h0
    have h3 : i / m < n := by rw [Nat.div_lt_iff_lt_mul h0]; exact hi
    have h4 := flat_at f m (List.replicate n x) (fun y hy => by rw [List.eq_of_mem_replicate hy]; exact hm) (i / m) (i % m) h2 x (by simp [h3])
    rw [← h1] at h4
    rw [h4, ← hC]
    have h5 : i % m < C.size := by omega
    simp [madeCells, hi, hCs]
    rw [getElem!_pos C (i % m) h5, Array.getElem?_eq_getElem h5]
  · rw [List.getElem?_eq_none (by simp [madeCells]; omega), List.getElem?_eq_none (by omega)]

/-- append([]T(nil), v...) of a row that is owned: a row of its own -/
theorem run_append_copy {P : Program} (w : World) (base : Nat) (t ty e : TypeId) (i : TypeInfo) (z : Value) (size bytes : Nat) (ht : P.underlying t = some (.slice e)) (hi : P.info? e = some i) (hz : i.zero = some z)
    (hsize : i.size = size) (hby : i.bytes = bytes) (hzs : z.cells.size = size) (hsz : 0 < size) (v : Value) (n : Nat) (xs : List Value) (hown : w.ownsRow base e size v n xs) (h1 : ∀ u ∈ xs, u.oneCell' = true) (h63 : n ≤ maxLen) (hbytes : n * bytes ≤ 140737488355328) :
    ∃ v' w', (Builtin.append_ #[t, t] ty #[.slice none 0 0, v]).run P w = .ok v' w' ∧ w'.ownsRow w.heap.size e size v' n xs ∧ w.grownBy w' none := by
  have hnil := World.ownsRow_nil w w.heap.size e size
  rcases hown.2 with ⟨rfl, rfl⟩ | ⟨g, cap, cur, rfl, _⟩
  · have hx : xs = [] := List.eq_nil_of_length_eq_zero (by have := hown.1; omega)
    subst hx
    exact ⟨_, w, run_append_owned_none (P := P) w w.heap.size t ty e i size ht hi _ 0 [] hnil, hnil, ⟨rfl, rfl, rfl, Nat.le_refl _, fun _ _ _ => rfl⟩⟩
  · obtain ⟨v', w', hr, h2, h3, _, _⟩ := run_append_own_at (P := P) w w.heap.size t ty e i z size bytes ht hi hz hsize hby hzs hsz (.slice none 0 0) 0 [] hnil ⟨g, 0, none⟩ n cap xs hown.1 (fun j u hu => hown.cells rfl j u hu) h1 (by omega) (by rw [Nat.zero_add]; exact hbytes) (Nat.le_refl _)
    refine ⟨v', w', hr, ?_, h3⟩
    rw [Nat.zero_add, List.nil_append] at h2
    exact h2

theorem wpList_append_copy {P : Program} {w : World} {ops : Array Oper} {rest : List Oper} {o : Oper} {a : Act} {Q : Exit → Act → World → Prop} (hgd : o.guard = none) (x : Operand) (t : TypeId)
    (ho : o.op = .call { callee := .builtin .append, args := #[.const (.slice none 0 0), x], argTypes := #[t, t] })
    (base : Nat) (e : TypeId) (i : TypeInfo) (z : Value) (size bytes : Nat) (ht : P.underlying t = some (.slice e)) (hi : P.info? e = some i) (hz : i.zero = some z)
    (hsize : i.size = size) (hby : i.bytes = bytes) (hzs : z.cells.size = size) (hsz : 0 < size) (v : Value) (n : Nat) (xs : List Value) (hx : a.eval x = v) (hown : w.ownsRow base e size v n xs) (h1 : ∀ u ∈ xs, u.oneCell' = true) (h63 : n ≤ maxLen) (hbytes : n * bytes ≤ 140737488355328)
    (h : ∀ v' w', w'.ownsRow w.heap.size e size v' n xs → w.grownBy w' none → wpList P ops Q rest (a.put o.dst v') w') : wpList P ops Q (o :: rest) a w :=
  wpList_plain hgd fun K hK => by
    obtain ⟨v', w', hr, h2, h3⟩ := run_append_copy (P := P) w base t o.type e i z size bytes ht hi hz hsize hby hzs hsz v n xs hown h1 h63 hbytes
    have hc : a.eval (.const (.slice none 0 0)) = .slice none 0 0 := rfl
    unfold Oper.wp execOp
    simp only [ho, resolve, invoke, builtin, Sem.run_bind, Sem.run_pure, Result.andThen_ok, List.map_toArray, List.map_cons, List.map_nil, hx, hc, hr]
    exact hK _ _ (h v' w' h2 h3)

theorem mem_flat {α : Type} {f : α → List Value} {xs : List α} (h : ∀ x, ∀ v ∈ f x, v.oneCell' = true) : ∀ v ∈ xs.flatMap f, v.oneCell' = true := by
  intro v hv
  obtain ⟨x, _, hx⟩ := List.mem_flatMap.1 hv
  exact h x v hx

section
variable {w : World} {b g cap : Nat} {pv : Value} {d : Dk}

theorem dkNew_bad (n : Int) (h : n < 8 ∨ 4096 < n) : Calls Tryz.prog 30 #[.int .i64 n] w fun e w' => e = .returned (.tuple #[.pointer none, .int .i64 1]) ∧ w' = w := by
  rcases h with h | h
  · go_enter Tryz.func30, Tryz.ntmps30
    go_wp2
    go_ret2
    exact ⟨rfl, rfl⟩
  · have h8 : ¬ n < 8 := by omega
    go_enter Tryz.func30, Tryz.ntmps30
    go_wp2
    go_ret2
    exact ⟨rfl, rfl⟩

set_option maxRecDepth 100000 in
theorem dkNew_any (n : Nat) (h1 : 8 ≤ n) (h2 : n ≤ 4096) : Calls Tryz.prog 30 #[.int .i64 n] w fun e w' => ∃ B G, e = .returned (.tuple #[.pointer (some ⟨B, 0, none⟩), .int .i64 0]) ∧ Lie w' B G n (.slice none 0 0) (Dk.new n) ∧ w.heap.size ≤ B ∧ w.heap.size ≤ G ∧ Only (fun _ => False) w w' := by
  obtain ⟨i0, hi, hz0, hz1, hz2⟩ := info_parts Tryz.infoSec
  have h1' : ¬ (n : Int) < 8 := by omega
  have h2' : ¬ (4096 : Int) < (n : Int) := by omega
  go_enter Tryz.func30, Tryz.ntmps30
  go_wp2_with (at_make; refine wpList_make_full _ rfl (.tmp 10) (.tmp 10) 81 rfl w.heap.size 104 i0 (.agg (sec (some zero64)).toArray) 65 Tryz.underlying81 hi hz0 hz1 .i64 .i64 n n n rfl rfl rfl rfl (by rw [hz2]; omega) (by unfold maxLen; omega) (Nat.le_refl _) ?_; intro w1 own1 gr1; have ho1 : Only (fun _ => False) w w1 := (Only.refl _ _).grown gr1 (fun k h => by cases h))
  go_ret2
  have hlt := (own1.lt w.heap.size rfl).2
  have hln : (Dk.new n).secs.length = n := by simp [Dk.new]
  refine ⟨w1.heap.size, rfl, w.heap.size, ⟨?_, ?_, World.ownsRow_nil _ _ _ _, by omega, by simp [Value.ownBlock], by simp [Value.ownBlock]⟩, ho1.size, Nat.le_refl _, ho1.alloc _⟩
  · rw [heap_alloc_new, hln]
    rfl
  · rw [hln]
    rw [flat_same sec (some zero64) 65 rfl (by decide) n (Value.agg (sec (some zero64)).toArray).cells rfl] at own1
    exact (ownsRow_base own1 (Nat.zero_le _)).alloc _

end

end Go.Proofs.YtmcobkcnpnfobaaGreat
