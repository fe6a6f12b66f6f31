/-
  The reference's disk as it lies in memory; its small methods.
  The reference's do, Flush, Read.
  The reference's Flush, Crash.
  The reference's Read.
  The reference's Write.
  The reference's NewDisk.
  The reference's disk and its blocks, for laws; a disk and the reference's side by side.
-/
import Derived.Test.YtoffcbopolonoaaDkAt
import Derived.Test.YtoffcbopolonoaaDkRead
import Derived.BigRegion
import Derived.Test.YtoffcbopolonoaaDkCrash
import Derived.Test.YtoffcbopolonoaaDkPend
import Derived.Test.YtoffcbopolonoaaDkNew
namespace Go.Proofs.Ytoffcbopolonoaa
open Go.RowKit
set_option linter.unusedSimpArgs false
set_option linter.unusedVariables false

/-- bytes that lie apart from what is written -/
structure RData (w : World) (F : Nat → Prop) (b sg bg : Nat) (pv : Value) (v : Value) (s : Option (List UInt8)) : Prop where
  has : ∀ bs, s = some bs → Has w v bs
  one : v.oneCell' = true
  off : ∀ j, blk v = some j → j ≠ b ∧ j ≠ sg ∧ j ≠ bg ∧ pv.ownBlock ≠ some j ∧ j < w.heap.size ∧ F j

/-- disk d of the reference lies at block b -/
structure RLie (w : World) (F : Nat → Prop) (b sg sc bg bc : Nat) (pv : Value) (d : Dk) (svs : List Value) (dvs : List (Nat × Value)) : Prop where
  blk : w.heap[b]? = some (.cells #[.slice (some ⟨sg, 0, none⟩) d.secs.length sc, .slice (some ⟨bg, 0, none⟩) d.secs.length bc, pv, .int .i64 (max d.fuse (-1)), .bool d.down, .int .i64 d.works] 83 (0, 0))
  srow : w.ownsRow 0 32 1 (.slice (some ⟨sg, 0, none⟩) d.secs.length sc) d.secs.length svs
  brow : w.ownsRow 0 4 1 (.slice (some ⟨bg, 0, none⟩) d.secs.length bc) d.secs.length (d.secs.map (fun s => .bool s.isNone))
  prow : w.ownsRow 0 106 2 pv d.pend.length (dvs.flatMap wrt)
  dlen : dvs.length = d.pend.length
  sb : sg ≠ b
  gb : bg ≠ b
  sg' : sg ≠ bg
  pb : pv.ownBlock ≠ some b
  ps : pv.ownBlock ≠ some sg
  pg : pv.ownBlock ≠ some bg
  fb : F b
  fs : F sg
  fg : F bg
  fp : ∀ k, pv.ownBlock = some k → F k
  sdat : ∀ (k : Nat) (v : Value), svs[k]? = some v → RData w F b sg bg pv v (d.secs.getD k none)
  pdat : ∀ (k : Nat) (p : Nat × List UInt8), d.pend[k]? = some p → ∃ dv, dvs[k]? = some (p.1, dv) ∧ RData w F b sg bg pv dv (some p.2)

theorem cells_six {w : World} {b : Nat} {c0 c1 c2 c3 c4 c5 : Value} {t : TypeId} (h : w.heap[b]? = some (.cells #[c0, c1, c2, c3, c4, c5] t (0, 0))) :
    w.cell? ⟨b, 0, none⟩ = some c0 ∧ w.cell? ⟨b, 1, none⟩ = some c1 ∧ w.cell? ⟨b, 2, none⟩ = some c2 ∧ w.cell? ⟨b, 3, none⟩ = some c3 ∧ w.cell? ⟨b, 4, none⟩ = some c4 ∧ w.cell? ⟨b, 5, none⟩ = some c5 ∧ ∀ i, w.frozen? ⟨b, i, none⟩ = false := by
  simp [World.cell?, World.frozen?, h]

section
variable {w w' : World} {F : Nat → Prop} {b sg sc bg bc : Nat} {pv : Value} {d : Dk} {svs : List Value} {dvs : List (Nat × Value)}

theorem RData.only {S : Nat → Prop} {v : Value} {s : Option (List UInt8)} (h : RData w F b sg bg pv v s) (ho : Only S w w') (hS : ∀ j, S j → j = b ∨ j = sg ∨ j = bg ∨ pv.ownBlock = some j ∨ ¬ F j) : RData w' F b sg bg pv v s :=
  ⟨fun bs e => (h.has bs e).only ho (fun _ k hk hs => by
      obtain ⟨n1, n2, n3, n4, _, n6⟩ := h.off k hk
      rcases hS k hs with e | e | e | e | e
      · exact n1 e
      · exact n2 e
      · exact n3 e
      · exact n4 e
      · exact e n6), h.one, fun j hj => by
    obtain ⟨n1, n2, n3, n4, n5, n6⟩ := h.off j hj
    exact ⟨n1, n2, n3, n4, Nat.lt_of_lt_of_le n5 ho.size, n6⟩⟩

theorem RLie.only {S : Nat → Prop} (h : RLie w F b sg sc bg bc pv d svs dvs) (ho : Only S w w') (hS : ∀ j, S j → ¬ F j) : RLie w' F b sg sc bg bc pv d svs dvs :=
  ⟨ho.heap h.blk (fun e => hS _ e h.fb), ho.owns h.srow (fun k hk e => by simp only [Value.ownBlock, Option.some.injEq] at hk; subst hk; exact hS _ e h.fs),
    ho.owns h.brow (fun k hk e => by simp only [Value.ownBlock, Option.some.injEq] at hk; subst hk; exact hS _ e h.fg), ho.owns h.prow (fun k hk e => hS _ e (h.fp k hk)),
    h.dlen, h.sb, h.gb, h.sg', h.pb, h.ps, h.pg, h.fb, h.fs, h.fg, h.fp, fun k v hv => (h.sdat k v hv).only ho (fun j hj => Or.inr (Or.inr (Or.inr (Or.inr (hS j hj))))),
    fun k p hp => by
      obtain ⟨dv, e, hd⟩ := h.pdat k p hp
      exact ⟨dv, e, hd.only ho (fun j hj => Or.inr (Or.inr (Or.inr (Or.inr (hS j hj)))))⟩⟩

/-- cells of the disk's own block alone were set -/
theorem RLie.set {d' : Dk} (h : RLie w F b sg sc bg bc pv d svs dvs) (ho : Only (fun k => k = b) w w') (hs : d'.secs = d.secs) (hp : d'.pend = d.pend)
    (hb : w'.heap[b]? = some (.cells #[.slice (some ⟨sg, 0, none⟩) d.secs.length sc, .slice (some ⟨bg, 0, none⟩) d.secs.length bc, pv, .int .i64 (max d'.fuse (-1)), .bool d'.down, .int .i64 d'.works] 83 (0, 0))) : RLie w' F b sg sc bg bc pv d' svs dvs := by
  refine ⟨by rw [hs]; exact hb, ?_, ?_, ?_, by rw [hp]; exact h.dlen, h.sb, h.gb, h.sg', h.pb, h.ps, h.pg, h.fb, h.fs, h.fg, h.fp, ?_, ?_⟩
  · rw [hs]; exact ho.owns h.srow (fun k hk => by simp only [Value.ownBlock, Option.some.injEq] at hk; subst hk; exact h.sb)
  · rw [hs]; exact ho.owns h.brow (fun k hk => by simp only [Value.ownBlock, Option.some.injEq] at hk; subst hk; exact h.gb)
  · rw [hp]; exact ho.owns h.prow (fun k hk e => h.pb (by rw [hk, e]))
  · rw [hs]; exact fun k v hv => (h.sdat k v hv).only ho (fun j hj => Or.inl hj)
  · rw [hp]
    intro k p hq
    obtain ⟨dv, e, hd⟩ := h.pdat k p hq
    exact ⟨dv, e, hd.only ho (fun j hj => Or.inl hj)⟩

theorem six_setCell {i : Nat} {cs : Array Value} {u : Value} {t : TypeId} (h : w.heap[b]? = some (.cells cs t (0, 0))) : (w.setCell ⟨b, i, none⟩ u).heap[b]? = some (.cells (cs.setIfInBounds i u) t (0, 0)) := two_setCell h

theorem rkFuse_any (h : RLie w F b sg sc bg bc pv d svs dvs) (n : Int) : Calls Try.prog 21 #[.pointer (some ⟨b, 0, none⟩), .int .i64 n] w fun e w' => e = .returned (.tuple #[]) ∧ RLie w' F b sg sc bg bc pv (d.fused n) svs dvs ∧ Only (fun k => k = b) w w' := by
  obtain ⟨c0, c1, c2, c3, c4, c5, fz⟩ := cells_six h.blk
  have H := hide h
  clear h
  have ho := (Only.refl (fun k => k = b) w).here 3 (.int .i64 (max n (-1)))
  have hfin := (unhide H).set (d' := d.fused n) ho rfl rfl (by rw [six_setCell (unhide H).blk]; rfl)
  have HFN := hide hfin
  have HO := hide ho
  clear hfin ho
  by_cases hn : n < -1
  · have e : max n (-1) = -1 := by omega
    rw [e] at HFN HO
    have hn' : ¬ -1 < n := by omega
    clear e
    go_enter Try.func21, Try.ntmps21
    go_wp2
    go_end0
    exact ⟨rfl, unhide HFN, unhide HO⟩
  · have e : max n (-1) = n := by omega
    rw [e] at HFN HO
    clear e
    go_enter Try.func21, Try.ntmps21
    go_wp2
    go_end0
    exact ⟨rfl, unhide HFN, unhide HO⟩

theorem rkWork_any (h : RLie w F b sg sc bg bc pv d svs dvs) (hf : d.Fine) (hw : d.works ≤ 1000000) : Calls Try.prog 62 #[.pointer (some ⟨b, 0, none⟩)] w fun e w' => e = .returned (.bool (!d.fell)) ∧ RLie w' F b sg sc bg bc pv d.worked svs dvs ∧ Only (fun k => k = b) w w' := by
  obtain ⟨c0, c1, c2, c3, c4, c5, fz⟩ := cells_six h.blk
  have H := hide h
  have hl1 := hf.f1
  have hl2 := hf.f2
  clear h
  cases hd : d.down with
  | true =>
    have e1 : d.fell = true := by unfold Dk.fell; simp [hd]
    have e2 : d.worked = d.felled := by unfold Dk.worked; simp [e1]
    rw [e1, e2]
    rw [hd] at c4
    have ho := (Only.refl (fun k => k = b) w).here 4 (.bool true)
    have HFN := hide ((unhide H).set (d' := d.felled) ho rfl rfl (by rw [six_setCell (unhide H).blk]; rfl))
    have HO := hide ho
    clear hd e1 e2 ho
    go_enter Try.func62, Try.ntmps62
    go_wp2
    go_ret
    exact ⟨rfl, unhide HFN, unhide HO⟩
  | false =>
    rw [hd] at c4
    by_cases h0 : d.fuse = 0
    · have e1 : d.fell = true := by unfold Dk.fell; simp [h0]
      have e2 : d.worked = d.felled := by unfold Dk.worked; simp [e1]
      rw [e1, e2]
      have e3 : max d.fuse (-1) = 0 := by omega
      rw [e3] at c3
      have ho := (Only.refl (fun k => k = b) w).here 4 (.bool true)
      have HFN := hide ((unhide H).set (d' := d.felled) ho rfl rfl (by rw [six_setCell (unhide H).blk]; rfl))
      have HO := hide ho
      clear hd e1 e2 e3 ho h0
      go_enter Try.func62, Try.ntmps62
      go_wp2
      go_ret
      exact ⟨rfl, unhide HFN, unhide HO⟩
    · have e1 : d.fell = false := by unfold Dk.fell; simp [hd, h0]
      have e2 : d.worked = d.spent := by unfold Dk.worked; simp [e1]
      rw [e1, e2]
      by_cases hp : 0 < d.fuse
      · have e3 : max d.fuse (-1) = d.fuse := by omega
        rw [e3] at c3
        have ho := ((Only.refl (fun k => k = b) w).here 3 (.int .i64 (d.fuse - 1))).here 5 (.int .i64 (d.works + 1))
        have hs1 : max d.spent.fuse (-1) = d.fuse - 1 := by show max (if 0 < d.fuse then d.fuse - 1 else d.fuse) (-1) = _; rw [if_pos hp]; omega
        have HFN := hide ((unhide H).set (d' := d.spent) ho rfl rfl (by rw [six_setCell (six_setCell (unhide H).blk), hs1]; rfl))
        have HO := hide ho
        clear hd e1 e2 e3 ho hs1
        go_enter Try.func62, Try.ntmps62
        go_wp2
        go_ret
        exact ⟨rfl, unhide HFN, unhide HO⟩
      · have e3 : max d.fuse (-1) = -1 := by omega
        rw [e3] at c3
        have ho := (Only.refl (fun k => k = b) w).here 5 (.int .i64 (d.works + 1))
        have hs1 : max d.spent.fuse (-1) = max d.fuse (-1) := by show max (if 0 < d.fuse then d.fuse - 1 else d.fuse) (-1) = _; rw [if_neg hp]
        have HFN := hide ((unhide H).set (d' := d.spent) ho rfl rfl (by rw [six_setCell (unhide H).blk, hs1]; rfl))
        have HO := hide ho
        clear hd e1 e2 e3 ho hs1 hp
        go_enter Try.func62, Try.ntmps62
        go_wp2
        go_ret
        exact ⟨rfl, unhide HFN, unhide HO⟩
end

end Go.Proofs.Ytoffcbopolonoaa

namespace Go.Proofs.Ytoffcbopolonoaa
open Go.RowKit
set_option linter.unusedSimpArgs false
set_option linter.unusedVariables false

section
variable {w w' : World} {F : Nat → Prop} {b sg sc bg bc : Nat} {pv : Value} {d : Dk} {svs : List Value} {dvs : List (Nat × Value)}

/-- a sector's bytes and its flag are set -/
theorem RLie.hit (h : RLie w F b sg sc bg bc pv d svs dvs) {k : Nat} (hk : k < d.secs.length) (y : Option (List UInt8)) (svs' : List Value) (hs' : w'.ownsRow 0 32 1 (.slice (some ⟨sg, 0, none⟩) d.secs.length sc) d.secs.length svs')
    (hb' : w'.ownsRow 0 4 1 (.slice (some ⟨bg, 0, none⟩) d.secs.length bc) d.secs.length ((d.secs.map (fun s => Value.bool s.isNone)).set k (.bool y.isNone)))
    (ho : Only (fun j => j = sg ∨ j = bg) w w') (hd : ∀ i v, svs'[i]? = some v → RData w' F b sg bg pv v ((d.secs.set k y).getD i none)) :
    RLie w' F b sg sc bg bc pv { d with secs := d.secs.set k y } svs' dvs := by
  have e1 : (d.secs.set k y).length = d.secs.length := List.length_set
  refine ⟨?_, ?_, ?_, ?_, h.dlen, h.sb, h.gb, h.sg', h.pb, h.ps, h.pg, h.fb, h.fs, h.fg, h.fp, hd, ?_⟩
  · show w'.heap[b]? = some (.cells #[.slice (some ⟨sg, 0, none⟩) (d.secs.set k y).length sc, .slice (some ⟨bg, 0, none⟩) (d.secs.set k y).length bc, pv, _, _, _] _ _)
    rw [e1]
    exact ho.heap h.blk (fun e => by rcases e with e | e; exact h.sb e.symm; exact h.gb e.symm)
  · show World.ownsRow _ _ _ _ (.slice _ (d.secs.set k y).length _) (d.secs.set k y).length _
    rw [e1]; exact hs'
  · show World.ownsRow _ _ _ _ (.slice _ (d.secs.set k y).length _) (d.secs.set k y).length ((d.secs.set k y).map _)
    rw [e1, List.map_set]; exact hb'
  · exact ho.owns h.prow (fun j hj e => by rcases e with e | e; exact h.ps (by rw [hj, e]); exact h.pg (by rw [hj, e]))
  · intro i p hp
    obtain ⟨dv, e, hdv⟩ := h.pdat i p hp
    exact ⟨dv, e, hdv.only ho (fun j hj => by rcases hj with e | e; exact Or.inr (Or.inl e); exact Or.inr (Or.inr (Or.inl e)))⟩

theorem getD_set' (s : Secs) (i k : Nat) (y : Option (List UInt8)) (hi : i < s.length) : (s.set i y).getD k none = if i = k then y else s.getD k none := by
  simp only [List.getD_eq_getElem?_getD, List.getElem?_set]
  by_cases e : i = k
  · subst e; simp [hi]
  · simp [e]

set_option maxRecDepth 100000 in
set_option maxHeartbeats 1000000 in
theorem rkDo_any (h : RLie w F b sg sc bg bc pv d svs dvs) (p : Nat × List UInt8) (hp : p.1 < d.secs.length) (dv : Value) (hdv : RData w F b sg bg pv dv (some p.2)) :
    Calls Try.prog 59 #[.pointer (some ⟨b, 0, none⟩), .agg #[.int .i64 p.1, dv]] w fun e w' => e = .returned (.tuple #[]) ∧ RLie w' F b sg sc bg bc pv { d with secs := d.secs.put p } (svs.set p.1 dv) dvs ∧ Only (fun j => j = sg ∨ j = bg) w w' := by
  obtain ⟨k, bs⟩ := p
  simp only at hp hdv
  obtain ⟨ao, al, ac, rfl⟩ : ∃ ao al ac, dv = .slice ao al ac := by
    obtain ⟨ao, c, e, _⟩ := (hdv.has bs rfl).shape
    exact ⟨ao, _, c, e⟩
  obtain ⟨W, hW⟩ : ∃ W, W = (w.alloc (.cells #[.int .i64 k, .slice ao al ac] 106)) := ⟨_, rfl⟩
  have hoW : Only (fun _ => False) w W := by rw [hW]; exact (Only.refl _ _).alloc _
  have hH := (show W.heap[w.heap.size]? = some (.cells #[.int .i64 k, .slice ao al ac] 106 (0, 0)) by rw [hW]; exact heap_alloc_new w _)
  have hlb := lt_of_block h.blk
  have hls := (h.srow.lt sg rfl).2
  have hlg := (h.brow.lt bg rfl).2
  have hLW := h.only hoW (fun _ e => e.elim)
  have hdW := hdv.only hoW (fun _ e => e.elim)
  obtain ⟨c0, c1, c2, c3, c4, c5, fz⟩ := cells_six hLW.blk
  obtain ⟨m0, m1, _, _⟩ := cells_two hH
  have hk0 : (0 : Int) ≤ (k : Int) := Int.natCast_nonneg _
  have hk1 : (k : Int) < (d.secs.length : Int) := by omega
  have hsl : k < svs.length := by have := h.srow.1; omega
  obtain ⟨old, hold⟩ : ∃ old, svs[k]? = some old := ⟨_, List.getElem?_eq_getElem hsl⟩
  have s0 : W.cell? ⟨sg, k, none⟩ = some old := by rw [hLW.srow.cellAt k (by omega), hold]
  have s1 := hLW.srow.frozenAt k
  have H := hide h
  have HLW := hide hLW
  have HDW := hide hdW
  have hsb := h.sb
  have hgb := h.gb
  have hsg := h.sg'
  -- the world behind the first store
  obtain ⟨W2, hW2⟩ : ∃ W2, W2 = (W.setCell ⟨sg, k, none⟩ (.slice ao al ac)).drew := ⟨_, rfl⟩
  have hst := hLW.srow.stored k (.slice ao al ac)
  have ho2 : Only (fun j => j = sg) W W2 := by rw [hW2]; exact ((Only.refl (fun j => j = sg) W).setCell (p := ⟨sg, k, none⟩) (fun _ => rfl) _).drew
  have d1 := ho2.cell c1 (fun e => hsb e.symm)
  have n0 := ho2.cell m0 (fun e : w.heap.size = sg => by omega)
  have hb2 := ho2.owns hLW.brow (fun j hj e => by simp only [Value.ownBlock, Option.some.injEq] at hj; exact hsg (hj.trans e).symm)
  obtain ⟨ob, hob⟩ : ∃ ob, (d.secs.map (fun s => Value.bool s.isNone))[k]? = some (.bool ob) := ⟨(d.secs[k]).isNone, by rw [List.getElem?_map, List.getElem?_eq_getElem hp]; rfl⟩
  have t0 : W2.cell? ⟨bg, k, none⟩ = some (.bool ob) := by rw [hb2.cellAt k (by omega), hob]
  have t1 := hb2.frozenAt k
  have hbt := hb2.stored k (.bool false)
  have ho3 : Only (fun j => j = bg) W2 ((W2.setCell ⟨bg, k, none⟩ (.bool false)).drew) := ((Only.refl (fun j => j = bg) W2).setCell (p := ⟨bg, k, none⟩) (fun _ => rfl) _).drew
  have hs3 := ho3.owns (show W2.ownsRow 0 32 1 (.slice (some ⟨sg, 0, none⟩) d.secs.length sc) d.secs.length (svs.set k (.slice ao al ac)) by rw [hW2]; exact hst.1.drew) (fun j hj e => by simp only [Value.ownBlock, Option.some.injEq] at hj; exact hsg (hj.trans e))
  have hoT : Only (fun j => j = sg ∨ j = bg) w ((W2.setCell ⟨bg, k, none⟩ (.bool false)).drew) := ((hoW.mono (fun _ _ e => e.elim)).trans ho2 (fun _ _ e => Or.inl e)).trans ho3 (fun _ _ e => Or.inr e)
  have hfin := h.hit hp (some bs) (svs.set k (.slice ao al ac)) hs3 hbt.1.drew hoT (by
    intro i v hv
    rw [getD_set' _ _ _ _ hp]
    rw [List.getElem?_set] at hv
    by_cases e : k = i
    · rw [if_pos e] at hv ⊢
      rw [if_pos hsl] at hv
      cases hv
      exact (hdv.only hoT (fun j hj => by rcases hj with e | e; exact Or.inr (Or.inl e); exact Or.inr (Or.inr (Or.inl e))))
    · rw [if_neg e] at hv ⊢
      exact (h.sdat i v hv).only hoT (fun j hj => by rcases hj with e | e; exact Or.inr (Or.inl e); exact Or.inr (Or.inr (Or.inl e))))
  have HFN := hide hfin
  have HOT := hide hoT
  have HW2 := hide hW2
  have HW := hide hW
  clear hfin hoT hW2 hW h hLW hdW hst hb2 hbt ho3 hs3 hold hob ho2 hoW hH hdv
  go_enter Try.func59, Try.ntmps59
  go_wp2
  rw [← unhide HW]
  go_region
  go_wp2
  rw [← unhide HW2]
  go_region
  go_end0
  exact ⟨rfl, unhide HFN, unhide HOT⟩
end

end Go.Proofs.Ytoffcbopolonoaa

namespace Go.Proofs.Ytoffcbopolonoaa
open Go.RowKit
set_option linter.unusedSimpArgs false
set_option linter.unusedVariables false

section
variable {w w' : World} {F : Nat → Prop} {b sg sc bg bc : Nat} {pv : Value} {d : Dk} {svs : List Value} {dvs : List (Nat × Value)}

/-- what pends is done or lost: the list is empty then -/
theorem RLie.emptied {d' : Dk} (h : RLie w F b sg sc bg bc pv d svs dvs) (hs : d'.secs = d.secs) (hp : d'.pend = []) (ho : Only (fun k => k = b) w w')
    (hb : w'.heap[b]? = some (.cells #[.slice (some ⟨sg, 0, none⟩) d.secs.length sc, .slice (some ⟨bg, 0, none⟩) d.secs.length bc, .slice none 0 0, .int .i64 (max d'.fuse (-1)), .bool d'.down, .int .i64 d'.works] 83 (0, 0))) : RLie w' F b sg sc bg bc (.slice none 0 0) d' svs [] := by
  refine ⟨by rw [hs]; exact hb, ?_, ?_, ?_, by rw [hp]; rfl, h.sb, h.gb, h.sg', by simp [Value.ownBlock], by simp [Value.ownBlock], by simp [Value.ownBlock], h.fb, h.fs, h.fg, fun k hk => (by cases hk), ?_, ?_⟩
  · rw [hs]; exact ho.owns h.srow (fun k hk => by simp only [Value.ownBlock, Option.some.injEq] at hk; subst hk; exact h.sb)
  · rw [hs]; exact ho.owns h.brow (fun k hk => by simp only [Value.ownBlock, Option.some.injEq] at hk; subst hk; exact h.gb)
  · rw [hp]; exact World.ownsRow_nil _ _ _ _
  · rw [hs]
    intro k v hv
    have hx := (h.sdat k v hv).only ho (fun j hj => Or.inl hj)
    exact ⟨hx.has, hx.one, fun j hj => by
      obtain ⟨n1, n2, n3, n4, n5, n6⟩ := hx.off j hj
      exact ⟨n1, n2, n3, by simp [Value.ownBlock], n5, n6⟩⟩
  · rw [hp]
    intro k p hq
    cases k <;> cases hq

/-- the k-th of what pends, as cells -/
theorem RLie.pendAt (h : RLie w F b sg sc bg bc pv d svs dvs) {k : Nat} {p : Nat × List UInt8} (hp : d.pend[k]? = some p) : ∃ dv pg pc, pv = .slice (some ⟨pg, 0, none⟩) d.pend.length pc ∧ dvs[k]? = some (p.1, dv) ∧ RData w F b sg bg pv dv (some p.2) ∧ w.cell? ⟨pg, k * 2, none⟩ = some (.int .i64 p.1) ∧ w.cell? ⟨pg, k * 2 + 1, none⟩ = some dv := by
  obtain ⟨dv, hdv, hdat⟩ := h.pdat k p hp
  have hk : k < d.pend.length := (List.getElem?_eq_some_iff.1 hp).1
  obtain ⟨po, pc, hpv⟩ := ownsRow_shape h.prow
  obtain ⟨pg, rfl⟩ := row_form (n := d.pend.length) (by rw [← hpv]; exact h.prow) (by omega)
  have hr := row_range (f := wrt) (by rw [← hpv]; exact h.prow) (fun x _ => wrt_length x) h.dlen k (p.1, dv) hdv
  exact ⟨dv, pg, pc, hpv, hdv, hdat, by simpa using hr 0 _ rfl, hr 1 _ rfl⟩

set_option maxRecDepth 100000 in
set_option maxHeartbeats 1000000 in
theorem rkFlush_any (h : RLie w F b sg sc bg bc pv d svs dvs) (hf : d.Fine) (hwk : d.works ≤ 1000000) :
    Calls Try.prog 83 #[.pointer (some ⟨b, 0, none⟩)] w fun e w' => e = .returned (.int .i64 d.flushE) ∧ (∃ pv' svs' dvs', RLie w' F b sg sc bg bc pv' d.flush svs' dvs') ∧ Only (fun j => j = b ∨ j = sg ∨ j = bg) w w' := by
  have H := hide h
  have HF := hide hf
  have hmn := hf.many
  clear h hf
  cases hfe : d.fell with
  | true =>
    have e1 : d.flushE = 9 := by unfold Dk.flushE; simp [hfe]
    have e2 : d.flush = d.worked := by unfold Dk.flush Dk.worked; simp [hfe]
    rw [e1, e2]
    have HE := hide hfe
    clear e1 e2 hfe
    go_enter Try.func83, Try.ntmps83
    go_wp2_with fail
    refine (rkWork_any (unhide H) (unhide HF) hwk).mono ?_
    rintro e w2 ⟨rfl, h2, ho2⟩
    rw [unhide HE]
    go_wp2_with fail
    go_ret
    exact ⟨rfl, ⟨pv, svs, dvs, h2⟩, ho2.mono (fun _ _ e => Or.inl e)⟩
  | false =>
    have e1 : d.flushE = 0 := by unfold Dk.flushE; simp [hfe]
    have e2 : d.flush = { d.spent with secs := d.secs.putAll d.pend, pend := [] } := by unfold Dk.flush; simp [hfe]
    have e3 : d.worked = d.spent := by unfold Dk.worked; simp [hfe]
    rw [e1, e2]
    have HE := hide hfe
    have HE3 := hide e3
    clear e1 e2 hfe e3
    go_enter Try.func83, Try.ntmps83
    go_wp2_with fail
    refine (rkWork_any (unhide H) (unhide HF) hwk).mono ?_
    rintro e w2 ⟨rfl, h2, ho2⟩
    rw [unhide HE]
    rw [unhide HE3] at h2
    have H2 := hide h2
    have HO2 := hide ho2
    clear h2 ho2
    go_wp2_with fail
    go_loopw [3] (fun i wr => ∃ (k : Nat) (svs' : List Value), k ≤ d.pend.length ∧ i = .int .i64 k ∧ RLie wr F b sg sc bg bc pv { d.spent with secs := d.secs.putAll (d.pend.take k) } svs' dvs ∧ Only (fun j => j = sg ∨ j = bg) w2 wr) (fun i _ => d.pend.length - (intOf i).toNat)
    case atStart => exact ⟨0, svs, Nat.zero_le _, rfl, unhide H2, Only.refl _ _⟩
    case round =>
      obtain ⟨k, svs', hk, rfl, hL, ho⟩ := hrel
      obtain ⟨po, pc, hpv⟩ := ownsRow_shape hL.prow
      obtain ⟨c0, c1, c2, c3, c4, c5, fz⟩ := cells_six hL.blk
      rw [hpv] at c2
      rw [show ({ d.spent with secs := d.secs.putAll (d.pend.take k) } : Dk).pend = d.pend from rfl] at c2 hpv
      by_cases hlt : k < d.pend.length
      · have hpk : d.pend[k]? = some d.pend[k] := List.getElem?_eq_getElem hlt
        generalize d.pend[k] = p at hpk
        have hpf := (unhide HF).pend p (List.mem_of_getElem? hpk)
        obtain ⟨dv, pg, pc', hpv2, hdv, hdat, q0, q1⟩ := hL.pendAt (k := k) (p := p) hpk
        rw [hpv] at hpv2
        simp only [Value.slice.injEq, true_and] at hpv2
        obtain ⟨rfl, hbad, rfl⟩ := hpv2
        clear hbad
        have HL := hide hL
        have HPK := hide hpk
        have HDT := hide hdat
        have HPV := hide hpv
        clear hL hpk hdat hpv hdv
        have hlt' : (k : Int) < (d.pend.length : Int) := by omega
        obtain ⟨pk, bs⟩ := p
        simp only at q0
        go_wp2_with fail
        refine (rkDo_any (unhide HL) (pk, bs) (by show pk < (d.secs.putAll (d.pend.take k)).length; rw [Secs.putAll_length]; exact hpf.1) dv (unhide HDT)).mono ?_
        rintro e w5 ⟨rfl, h5, ho5⟩
        have H5 := hide h5
        have HO5 := hide ho5
        clear h5 ho5
        go_wp2_with fail
        go_roundw
        case rel =>
          refine ⟨k + 1, svs'.set pk dv, by omega, by go_num, ?_, ho.trans (unhide HO5) (fun _ _ e => e)⟩
          rw [Secs.putAll_take _ _ _ _ (unhide HPK)]
          exact unhide H5
        case measure => simp [intOf]; omega
      · obtain rfl : k = d.pend.length := by omega
        rw [List.take_length] at hL
        have HL := hide hL
        clear hL
        go_wp2_with fail
        go_ret
        have hset := (Only.refl (fun k => k = b) wr).here 2 (.slice none 0 0)
        refine ⟨rfl, ⟨.slice none 0 0, svs', [], (unhide HL).emptied (d' := { d.spent with secs := d.secs.putAll d.pend, pend := [] }) rfl rfl hset (by rw [six_setCell (unhide HL).blk]; rfl)⟩, ?_⟩
        exact (((unhide HO2).mono (fun _ _ e => Or.inl e)).trans ho (fun _ _ e => Or.inr e)).trans hset (fun _ _ e => Or.inl e)

set_option maxRecDepth 100000 in
set_option maxHeartbeats 2000000 in
theorem rkCrash_any (h : RLie w F b sg sc bg bc pv d svs dvs) (hf : d.Fine) (hwk : d.works ≤ 1000000) (fv : Value) (fs : List Int) (hfs : HasV w fv (fs.map (.int .i64))) (hfb : fs ≠ [] → ∀ j, blk fv = some j → ¬ F j) :
    Calls Try.prog 23 #[.pointer (some ⟨b, 0, none⟩), fv] w fun e w' => e = .returned (.tuple #[]) ∧ (∃ pv' svs' dvs', RLie w' F b sg sc bg bc pv' (d.crash fs) svs' dvs') ∧ Only (fun j => j = b ∨ j = sg ∨ j = bg) w w' := by
  have H := hide h
  have HF := hide hf
  have HFS := hide hfs
  have HFB := hide hfb
  have hmn := hf.many
  have hFs := h.fs
  have hFg := h.fg
  obtain ⟨fo, fc, rfl, hfl, hfm⟩ := hfs.shape
  rw [List.length_map] at hfl HFS HFB ⊢
  have hfm' : fs.length ≤ 9223372036854775807 := by unfold maxLen at hfm; omega
  clear h hf hfs hfb hfm
  go_enter Try.func23, Try.ntmps23
  go_wp2_with fail
  go_loopw [4] (fun i wr => ∃ (k : Nat) (svs' : List Value), k ≤ d.pend.length ∧ i = .int .i64 k ∧ RLie wr F b sg sc bg bc pv { d with secs := crashTo fs d.pend d.secs k } svs' dvs ∧ Only (fun j => j = sg ∨ j = bg) w wr) (fun i _ => d.pend.length - (intOf i).toNat)
  case atStart => exact ⟨0, svs, Nat.zero_le _, rfl, unhide H, Only.refl _ _⟩
  case round =>
    obtain ⟨k, svs', hk, rfl, hL, ho⟩ := hrel
    obtain ⟨po, pc, hpv⟩ := ownsRow_shape hL.prow
    obtain ⟨c0, c1, c2, c3, c4, c5, fz⟩ := cells_six hL.blk
    rw [hpv] at c2
    rw [show ({ d with secs := crashTo fs d.pend d.secs k } : Dk).pend = d.pend from rfl] at c2 hpv
    by_cases hlt : k < d.pend.length
    · have hpk : d.pend[k]? = some d.pend[k] := List.getElem?_eq_getElem hlt
      generalize d.pend[k] = p at hpk
      have hpf := (unhide HF).pend p (List.mem_of_getElem? hpk)
      obtain ⟨dv, pg, pc', hpv2, hdv, hdat, q0, q1⟩ := hL.pendAt (k := k) (p := p) hpk
      rw [hpv] at hpv2
      simp only [Value.slice.injEq, true_and] at hpv2
      obtain ⟨rfl, rfl⟩ := hpv2
      have hst := crashTo_step fs d.pend d.secs k p hpk
      have hsl := crashTo_length fs d.pend d.secs k
      have hFS := (unhide HFS).only ho (fun hne j hj e => by
        have hnf := unhide HFB (fun e2 => hne (by rw [e2]; rfl)) j hj
        rcases e with e | e
        · exact hnf (e ▸ hFs)
        · exact hnf (e ▸ hFg))
      have HL := hide hL
      have HDT := hide hdat
      have HPV := hide hpv
      have HS := hide hst
      have HSL := hide hsl
      have hlt' : (k : Int) < (d.pend.length : Int) := by omega
      clear hL hpk hdat hpv hdv hst hsl
      obtain ⟨pk, bs⟩ := p
      simp only at q0 hpf
      -- the fate, as the code reckons it
      have hth := fate_three fs k
      by_cases hkl : k < fs.length
      · have hkl' : (k : Int) < (fs.length : Int) := by omega
        obtain ⟨bb, off, rfl, hbad, hc⟩ := hFS.at (by omega)
        clear hbad
        have hck := hc k (by simpa using hkl)
        simp only [List.getElem_map] at hck
        have hfa : fate fs k = fs[k] % 3 := by unfold fate; rw [List.getElem?_eq_getElem hkl]
        generalize fs[k] = f at hck hfa
        clear hc hFS
        have hb1 : -3 < f.tmod 3 := by have := Int.lt_tmod_of_pos f (show (0:Int) < 3 by decide); omega
        have hb2 : f.tmod 3 < 3 := Int.tmod_lt_of_pos f (by decide)
        have hfo := fate_of (f := f)
        rw [← hfa] at hfo
        rcases hth with hc0 | hc1 | hc2
        · rw [hc0] at hfo HS
          clear hc0 hfa
          go_wp2_with fail
          refine (rkDo_any (unhide HL) (pk, bs) (by show pk < (crashTo fs d.pend d.secs k).length; rw [unhide HSL]; exact hpf.1) dv (unhide HDT)).mono ?_
          rintro e w5 ⟨rfl, h5, ho5⟩
          have H5 := hide h5
          have HO5 := hide ho5
          clear h5 ho5
          go_wp2_with fail
          go_roundw
          case rel =>
            refine ⟨k + 1, svs'.set pk dv, by omega, by go_num, ?_, ho.trans (unhide HO5) (fun _ _ e => e)⟩
            rw [unhide HS]
            exact unhide H5
          case measure => simp [intOf]; omega
        · rw [hc1] at hfo HS
          clear hc1 hfa
          go_wp2_with fail
          go_roundw
          case rel =>
            refine ⟨k + 1, svs', by omega, by go_num, ?_, ho⟩
            rw [unhide HS]
            exact unhide HL
          case measure => simp [intOf]; omega
        · rw [hc2] at hfo HS
          clear hc2 hfa
          have hpl : pk < (crashTo fs d.pend d.secs k).length := by rw [unhide HSL]; exact hpf.1
          have hpl' : (pk : Int) < ((crashTo fs d.pend d.secs k).length : Int) := by omega
          have hp0 : (0 : Int) ≤ (pk : Int) := Int.natCast_nonneg _
          obtain ⟨ob, hob⟩ : ∃ ob, ((crashTo fs d.pend d.secs k).map (fun s => Value.bool s.isNone))[pk]? = some (.bool ob) := ⟨((crashTo fs d.pend d.secs k)[pk]).isNone, by rw [List.getElem?_map, List.getElem?_eq_getElem hpl]; rfl⟩
          have t0 : wr.cell? ⟨bg, pk, none⟩ = some (.bool ob) := by rw [(unhide HL).brow.cellAt pk (by show pk < (crashTo fs d.pend d.secs k).length * 1; omega)]; exact hob
          have t1 := (unhide HL).brow.frozenAt pk
          have hbt := (unhide HL).brow.stored pk (.bool true)
          have ho2 : Only (fun j => j = bg) wr ((wr.setCell ⟨bg, pk, none⟩ (.bool true)).drew) := ((Only.refl (fun j => j = bg) wr).setCell (p := ⟨bg, pk, none⟩) (fun _ => rfl) _).drew
          have hs2 := ho2.owns (unhide HL).srow (fun j hj e => by simp only [Value.ownBlock, Option.some.injEq] at hj; exact (unhide HL).sg' (hj.trans e))
          have hfin := (unhide HL).hit (k := pk) hpl none svs' hs2 hbt.1.drew (ho2.mono (fun _ _ e => Or.inr e)) (by
            intro i v hv
            have hx := ((unhide HL).sdat i v hv).only ho2 (fun j hj => Or.inr (Or.inr (Or.inl hj)))
            show RData _ _ _ _ _ _ _ ((List.set (crashTo fs d.pend d.secs k) pk none).getD i none)
            rw [getD_set' _ _ _ _ hpl]
            by_cases e : pk = i
            · rw [if_pos e]
              exact ⟨fun bs e => (by cases e), hx.one, hx.off⟩
            · rw [if_neg e]
              exact hx)
          have HFN := hide hfin
          have HO2 := hide ho2
          clear hfin ho2 hs2 hbt hob
          go_wp2_with fail
          go_region
          go_wp2_with fail
          go_roundw
          case rel =>
            refine ⟨k + 1, svs', by omega, by go_num, ?_, ho.trans ((unhide HO2).mono (fun _ _ e => Or.inr e)) (fun _ _ e => e)⟩
            rw [unhide HS]
            exact unhide HFN
          case measure => simp [intOf]; omega
      · have hkl' : ¬ (k : Int) < (fs.length : Int) := by omega
        have hfa : fate fs k = 1 := by unfold fate; rw [List.getElem?_eq_none (by omega)]
        rw [hfa] at HS
        clear hth hfa hFS
        go_wp2_with fail
        go_roundw
        case rel =>
          refine ⟨k + 1, svs', by omega, by go_num, ?_, ho⟩
          rw [unhide HS]
          exact unhide HL
        case measure => simp [intOf]; omega
    · obtain rfl : k = d.pend.length := by omega
      have HL := hide hL
      clear hL
      go_wp2_with fail
      go_end0
      have hset := (((Only.refl (fun k => k = b) wr).here 2 (.slice none 0 0)).here 4 (.bool false)).here 3 (.int .i64 (-1))
      refine ⟨rfl, ⟨.slice none 0 0, svs', [], (unhide HL).emptied (d' := d.crash fs) rfl rfl hset (by rw [six_setCell (six_setCell (six_setCell (unhide HL).blk))]; rfl)⟩, ?_⟩
      exact (ho.mono (fun _ _ e => Or.inr e)).trans hset (fun _ _ e => Or.inl e)
end

end Go.Proofs.Ytoffcbopolonoaa

namespace Go.Proofs.Ytoffcbopolonoaa
open Go.RowKit
set_option linter.unusedSimpArgs false
set_option linter.unusedVariables false

section
variable {w w' : World} {F : Nat → Prop} {b sg sc bg bc : Nat} {pv : Value} {d : Dk} {svs : List Value} {dvs : List (Nat × Value)}

theorem has_nil (w : World) : Has w (.slice none 0 0) [] := Or.inl ⟨rfl, rfl⟩

set_option maxRecDepth 100000 in
set_option maxHeartbeats 2000000 in
theorem rkRead_any (h : RLie w F b sg sc bg bc pv d svs dvs) (hf : d.Fine) (hwk : d.works ≤ 1000000) (k : Int) :
    Calls Try.prog 51 #[.pointer (some ⟨b, 0, none⟩), .int .i64 k] w fun e w' => ∃ v, e = .returned (.tuple #[v, .int .i64 (d.readE k)]) ∧ Has w v (d.read k) ∧ w' = w := by
  obtain ⟨po, pc, hpv⟩ := ownsRow_shape h.prow
  obtain ⟨c0, c1, c2, c3, c4, c5, fz⟩ := cells_six h.blk
  have H := hide h
  have HF := hide hf
  have hmn := hf.many
  have hn1 := hf.n1
  have hn2 := hf.n2
  clear h hf
  by_cases hk0 : k < 0
  · have ht : d.there k = false := by unfold Dk.there; simp; omega
    have e1 : d.readE k = 1 := by unfold Dk.readE; simp [ht]
    have e2 : d.read k = [] := by unfold Dk.read; simp [ht]
    rw [e1, e2]
    clear ht e1 e2 hpv
    go_enter Try.func51, Try.ntmps51
    go_wp2_with fail
    go_ret2
    exact ⟨.slice none 0 0, rfl, has_nil _, rfl⟩
  · by_cases hk1 : (d.secs.length : Int) ≤ k
    · have ht : d.there k = false := by unfold Dk.there; simp; omega
      have e1 : d.readE k = 1 := by unfold Dk.readE; simp [ht]
      have e2 : d.read k = [] := by unfold Dk.read; simp [ht]
      rw [e1, e2]
      clear ht e1 e2 hpv
      go_enter Try.func51, Try.ntmps51
      go_wp2_with fail
      go_ret2
      exact ⟨.slice none 0 0, rfl, has_nil _, rfl⟩
    · obtain ⟨kn, rfl⟩ : ∃ kn : Nat, k = kn := ⟨k.toNat, by omega⟩
      have hkn : kn < d.secs.length := by omega
      have ht : d.there kn = true := by unfold Dk.there; simp; omega
      cases hd : d.down with
      | true =>
        have e1 : d.readE kn = 9 := by unfold Dk.readE; simp [ht, hd]
        have e2 : d.read kn = [] := by unfold Dk.read; simp [ht, hd]
        rw [e1, e2]
        rw [hd] at c4
        clear ht e1 e2 hd hpv
        go_enter Try.func51, Try.ntmps51
        go_wp2_with fail
        go_ret2
        exact ⟨.slice none 0 0, rfl, has_nil _, rfl⟩
      | false =>
        have e1 : d.readE kn = if (d.look kn).isSome then 0 else 8 := by unfold Dk.readE; simp [ht, hd]
        have e2 : d.read kn = (d.look kn).getD [] := by unfold Dk.read; simp [ht, hd]
        have E1 := hide e1
        have E2 := hide e2
        rw [hd] at c4
        rw [hpv] at c2
        have HPV := hide hpv
        clear ht e1 e2 hd hpv
        go_enter Try.func51, Try.ntmps51
        go_wp2_with fail
        go_loopw [6] (fun i wr => wr = w ∧ ∃ (m : Nat) (z : Int), m ≤ d.pend.length ∧ i = .int .i64 z ∧ z = (m : Int) - 1 ∧ lastOf d.pend kn = lastOf (d.pend.take m) kn) (fun i _ => ((intOf i) + 1).toNat)
        case atStart => exact ⟨rfl, d.pend.length, _, Nat.le_refl _, rfl, rfl, by rw [List.take_length]⟩
        case round =>
          obtain ⟨rfl, m, z, hm, rfl, hz, hlast⟩ := hrel
          cases m with
          | zero =>
            have hlk : d.look kn = d.secs.getD kn none := by
              unfold Dk.look
              rw [hlast]
              rfl
            have hsk : d.secs[kn]? = some d.secs[kn] := List.getElem?_eq_getElem hkn
            have hgd : d.secs.getD kn none = d.secs[kn] := by simp [List.getD, hsk]
            have hsl : kn < svs.length := by have := (unhide H).srow.1; omega
            obtain ⟨sv, hsv⟩ : ∃ sv, svs[kn]? = some sv := ⟨_, List.getElem?_eq_getElem hsl⟩
            have hdat := (unhide H).sdat kn sv hsv
            have s0 : wr.cell? ⟨sg, kn, none⟩ = some sv := by rw [(unhide H).srow.cellAt kn (by omega), hsv]
            have b0 : wr.cell? ⟨bg, kn, none⟩ = some (.bool (d.secs[kn]).isNone) := by rw [(unhide H).brow.cellAt kn (by omega), List.getElem?_map, hsk]; rfl
            rw [hgd] at hlk hdat
            have HLK := hide hlk
            have HDT := hide hdat
            clear hlk hgd hlast hsk hdat hsv
            have hkn' : (kn : Int) < (d.secs.length : Int) := by omega
            obtain rfl : z = -1 := by omega
            clear hz
            generalize d.secs[kn] = s at b0 HLK HDT
            cases s with
            | none =>
              simp only [Option.isNone_none] at b0
              go_wp2_with fail
              go_ret2
              rw [unhide E1, unhide E2, unhide HLK]
              exact ⟨.slice none 0 0, rfl, has_nil _, rfl⟩
            | some bs =>
              simp only [Option.isNone_some] at b0
              go_wp2_with fail
              go_ret2
              rw [unhide E1, unhide E2, unhide HLK]
              exact ⟨sv, rfl, (unhide HDT).has bs rfl, rfl⟩
          | succ m =>
            obtain rfl : z = (m : Int) := by omega
            clear hz
            have hpk : d.pend[m]? = some d.pend[m] := List.getElem?_eq_getElem (by omega)
            generalize d.pend[m] = p at hpk
            obtain ⟨dv, pg, pc', hpv2, hdv, hdat, q0, q1⟩ := (unhide H).pendAt (k := m) (p := p) hpk
            rw [unhide HPV] at hpv2
            simp only [Value.slice.injEq, true_and] at hpv2
            obtain ⟨rfl, rfl⟩ := hpv2
            have hlt := lastOf_take d.pend m kn p hpk
            rw [hlt] at hlast
            have HLA := hide hlast
            have HDT := hide hdat
            clear hlt hlast hpk hdat hdv
            have hm' : (m : Int) < (d.pend.length : Int) := by omega
            have hm0 : (0 : Int) ≤ (m : Int) := Int.natCast_nonneg _
            obtain ⟨pk, bs⟩ := p
            simp only at q0
            by_cases hpe : pk = kn
            · subst hpe
              have hlk : d.look pk = some bs := by
                unfold Dk.look
                rw [unhide HLA, if_pos rfl]
              have HLK := hide hlk
              clear hlk HLA
              go_wp2_with fail
              go_ret2
              rw [unhide E1, unhide E2, unhide HLK]
              exact ⟨dv, rfl, (unhide HDT).has bs rfl, rfl⟩
            · have hpe' : ¬ (pk : Int) = (kn : Int) := by omega
              go_wp2_with fail
              go_roundw
              case rel =>
                refine ⟨trivial, m, _, by omega, rfl, rfl, ?_⟩
                have := unhide HLA
                rw [if_neg hpe] at this
                exact this
              case measure => simp [intOf]
end

end Go.Proofs.Ytoffcbopolonoaa

namespace Go.Proofs.Ytoffcbopolonoaa
open Go.RowKit
set_option linter.unusedSimpArgs false
set_option linter.unusedVariables false

/-- append(v, xv...) of a row that is owned, onto one that is owned -/
theorem run_append_row {P : Program} (w : World) (base base' : Nat) (t ty e : TypeId) (i : TypeInfo) (z : Value) (size bytes : Nat) (ht : P.underlying t = some (.slice e)) (hi : P.info? e = some i) (hz : i.zero = some z)
    (hsize : i.size = size) (hby : i.bytes = bytes) (hzs : z.cells.size = size) (hsz : 0 < size) (v : Value) (n : Nat) (xs : List Value) (hv : w.ownsRow base e size v n xs)
    (xv : Value) (m : Nat) (ys : List Value) (hown : w.ownsRow base' e size xv m ys) (h1 : ∀ u ∈ ys, u.oneCell' = true) (h63 : n + m ≤ maxLen) (hbytes : (n + m) * bytes ≤ 140737488355328) (hbase : base ≤ w.heap.size) :
    ∃ v' w', (Builtin.append_ #[t, t] ty #[v, xv]).run P w = .ok v' w' ∧ w'.ownsRow base e size v' (n + m) (xs ++ ys) ∧ w.grownBy w' v.ownBlock ∧ (v'.ownBlock = v.ownBlock ∨ v'.ownBlock = some w.heap.size) := by
  rcases hown.2 with ⟨rfl, rfl⟩ | ⟨g, cap, cur, rfl, _⟩
  · have hx : ys = [] := List.eq_nil_of_length_eq_zero (by have := hown.1; omega)
    subst hx
    refine ⟨v, w, run_append_owned_none (P := P) w base t ty e i size ht hi _ n xs hv, ?_, ⟨rfl, rfl, rfl, Nat.le_refl _, fun _ _ _ => rfl⟩, Or.inl rfl⟩
    rw [Nat.add_zero, List.append_nil]
    exact hv
  · obtain ⟨v', w', hr, h2, h3, _, h5⟩ := run_append_own_at (P := P) w base t ty e i z size bytes ht hi hz hsize hby hzs hsz v n xs hv ⟨g, 0, none⟩ m cap ys hown.1 (fun j u hu => hown.cells rfl j u hu) h1 h63 hbytes hbase
    exact ⟨v', w', hr, h2, h3, h5⟩

theorem wpList_append_row {P : Program} {w : World} {ops : Array Oper} {rest : List Oper} {o : Oper} {a : Act} {Q : Exit → Act → World → Prop} (hgd : o.guard = none) (s x : Operand) (t : TypeId)
    (ho : o.op = .call { callee := .builtin .append, args := #[s, x], argTypes := #[t, t] })
    (base base' : Nat) (e : TypeId) (i : TypeInfo) (z : Value) (size bytes : Nat) (ht : P.underlying t = some (.slice e)) (hi : P.info? e = some i) (hz : i.zero = some z)
    (hsize : i.size = size) (hby : i.bytes = bytes) (hzs : z.cells.size = size) (hsz : 0 < size) (v : Value) (n : Nat) (xs : List Value) (hs : a.eval s = v) (hv : w.ownsRow base e size v n xs)
    (xv : Value) (m : Nat) (ys : List Value) (hx : a.eval x = xv) (hown : w.ownsRow base' e size xv m ys) (h1 : ∀ u ∈ ys, u.oneCell' = true) (h63 : n + m ≤ maxLen) (hbytes : (n + m) * bytes ≤ 140737488355328) (hbase : base ≤ w.heap.size)
    (h : ∀ v' w', w'.ownsRow base e size v' (n + m) (xs ++ ys) → w.grownBy w' v.ownBlock → (v'.ownBlock = v.ownBlock ∨ v'.ownBlock = some w.heap.size) → wpList P ops Q rest (a.put o.dst v') w') : wpList P ops Q (o :: rest) a w :=
  wpList_plain hgd fun K hK => by
    obtain ⟨v', w', hr, h2, h3, h4⟩ := run_append_row (P := P) w base base' t o.type e i z size bytes ht hi hz hsize hby hzs hsz v n xs hv xv m ys hown h1 h63 hbytes hbase
    unfold Oper.wp execOp
    simp only [ho, resolve, invoke, builtin, Sem.run_bind, Sem.run_pure, Result.andThen_ok, List.map_toArray, List.map_cons, List.map_nil, hs, hx, hr]
    exact hK _ _ (h v' w' h2 h3 h4)

section
variable {w w' : World} {F : Nat → Prop} {b sg sc bg bc : Nat} {pv : Value} {d : Dk} {svs : List Value} {dvs : List (Nat × Value)}

theorem rlie_pushed {w5 : World} {g4 cap4 : Nat} {dv : Value} {F' : Nat → Prop} (h : RLie w F b sg sc bg bc pv d svs dvs) (p : Nat × List UInt8)
    (own : w5.ownsRow 0 106 2 (.slice (some ⟨g4, 0, none⟩) (d.pend.length + 1) cap4) (d.pend.length + 1) (dvs.flatMap wrt ++ wrt (p.1, dv)))
    (ho : Only (fun _ => False) w w5) (hg : w.heap.size ≤ g4) (hdv : Has w5 dv p.2) (hdb : ∀ j, blk dv = some j → w.heap.size ≤ j ∧ j < w5.heap.size ∧ j ≠ g4)
    (hF : ∀ k, F k → F' k) (hF2 : ∀ k, w.heap.size ≤ k → k < w5.heap.size → F' k) :
    RLie (w5.setCell ⟨b, 2, none⟩ (.slice (some ⟨g4, 0, none⟩) (d.pend.length + 1) cap4)) F' b sg sc bg bc (.slice (some ⟨g4, 0, none⟩) (d.pend.length + 1) cap4) { d with pend := d.pend ++ [p] } svs (dvs ++ [(p.1, dv)]) ∧
    Only (fun j => j = b) w (w5.setCell ⟨b, 2, none⟩ (.slice (some ⟨g4, 0, none⟩) (d.pend.length + 1) cap4)) := by
  have hbl := lt_of_block h.blk
  have hsl := (h.srow.lt sg rfl).2
  have hgl := (h.brow.lt bg rfl).2
  have hg5 := (own.lt g4 rfl).2
  have h5 := h.only ho (fun _ e => e.elim)
  have hset := (Only.refl (fun k => k = b) w5).here 2 (.slice (some ⟨g4, 0, none⟩) (d.pend.length + 1) cap4)
  have hall : Only (fun k => k = b) w (w5.setCell ⟨b, 2, none⟩ (.slice (some ⟨g4, 0, none⟩) (d.pend.length + 1) cap4)) := (ho.mono (fun _ _ e => e.elim)).trans hset (fun _ _ e => e)
  have hup : ∀ v s, RData w F b sg bg pv v s → RData (w5.setCell ⟨b, 2, none⟩ (.slice (some ⟨g4, 0, none⟩) (d.pend.length + 1) cap4)) F' b sg bg (.slice (some ⟨g4, 0, none⟩) (d.pend.length + 1) cap4) v s := fun v s hx => by
    have hy := hx.only hall (fun j hj => Or.inl hj)
    exact ⟨hy.has, hy.one, fun j hj => by
      obtain ⟨n1, n2, n3, n4, n5, n6⟩ := hx.off j hj
      exact ⟨n1, n2, n3, by simp only [Value.ownBlock, ne_eq, Option.some.injEq]; omega, (hy.off j hj).2.2.2.2.1, hF j n6⟩⟩
  refine ⟨⟨?_, ?_, ?_, ?_, by simp [h.dlen], h.sb, h.gb, h.sg', ?_, ?_, ?_, hF _ h.fb, hF _ h.fs, hF _ h.fg, ?_, fun k v hv => hup v _ (h.sdat k v hv), ?_⟩, hall⟩
  · rw [six_setCell h5.blk]
    rfl
  · exact hset.owns h5.srow (fun k hk => by simp only [Value.ownBlock, Option.some.injEq] at hk; subst hk; exact h.sb)
  · exact hset.owns h5.brow (fun k hk => by simp only [Value.ownBlock, Option.some.injEq] at hk; subst hk; exact h.gb)
  · have e1 : (d.pend ++ [p]).length = d.pend.length + 1 := by simp
    have e2 : (dvs ++ [(p.1, dv)]).flatMap wrt = dvs.flatMap wrt ++ wrt (p.1, dv) := by simp
    show World.ownsRow _ _ _ _ _ (d.pend ++ [p]).length _
    rw [e1, e2]
    exact hset.owns own (fun k hk e => by simp only [Value.ownBlock, Option.some.injEq] at hk; omega)
  · simp only [Value.ownBlock, ne_eq, Option.some.injEq]; omega
  · simp only [Value.ownBlock, ne_eq, Option.some.injEq]; omega
  · simp only [Value.ownBlock, ne_eq, Option.some.injEq]; omega
  · intro k hk
    simp only [Value.ownBlock, Option.some.injEq] at hk
    subst hk
    exact hF2 _ hg hg5
  · intro k q hq
    have hq' : (d.pend ++ [p])[k]? = some q := hq
    rcases Nat.lt_or_ge k d.pend.length with hk | hk
    · rw [List.getElem?_append_left hk] at hq'
      obtain ⟨dv', e, hd⟩ := h.pdat k q hq'
      exact ⟨dv', by rw [List.getElem?_append_left (by rw [h.dlen]; exact hk)]; exact e, hup _ _ hd⟩
    · have hk2 : k = d.pend.length := by
        have := (List.getElem?_eq_some_iff.1 hq').1
        simp at this
        omega
      subst hk2
      simp at hq'
      subst hq'
      refine ⟨dv, by rw [← h.dlen]; simp, ⟨fun bs e => by cases e; exact hdv.only hset (fun _ j hj e => by have := hdb j hj; omega), hdv.one, fun j hj => ?_⟩⟩
      obtain ⟨m1, m2, m3⟩ := hdb j hj
      have hs5 : (w5.setCell ⟨b, 2, none⟩ (.slice (some ⟨g4, 0, none⟩) (d.pend.length + 1) cap4)).heap.size = w5.heap.size := by simp [World.setCell]
      refine ⟨by omega, by omega, by omega, ?_, by rw [hs5]; exact m2, hF2 j m1 m2⟩
      simp only [Value.ownBlock, ne_eq, Option.some.injEq]
      exact fun e => m3 e.symm

theorem wrt_one {l : List (Nat × Value)} (h : ∀ p ∈ l, p.2.oneCell' = true) : ∀ v ∈ l.flatMap wrt, v.oneCell' = true := by
  intro v hv
  obtain ⟨p, hp, hv⟩ := List.mem_flatMap.1 hv
  simp only [wrt, List.mem_cons, List.not_mem_nil, or_false] at hv
  rcases hv with rfl | rfl
  · rfl
  · exact h p hp

theorem RLie.dvs_one (h : RLie w F b sg sc bg bc pv d svs dvs) : ∀ p ∈ dvs, p.2.oneCell' = true := by
  intro p hp
  obtain ⟨k, hk, e⟩ := List.getElem_of_mem hp
  have hk' : k < d.pend.length := by rw [← h.dlen]; exact hk
  obtain ⟨dv, e2, hd⟩ := h.pdat k _ (List.getElem?_eq_getElem hk')
  rw [List.getElem?_eq_getElem hk, e] at e2
  cases e2
  exact hd.one

/-- what a Write leaves -/
structure RWrote (w w' : World) (F : Nat → Prop) (b sg sc bg bc : Nat) (d' : Dk) (svs : List Value) : Prop where
  ex : ∃ F' pv' dvs', RLie w' F' b sg sc bg bc pv' d' svs dvs' ∧ (∀ j, F' j → (F j ∨ w.heap.size ≤ j)) ∧ (∀ j, F' j → j < w'.heap.size)
  only : Only (fun j => j = b) w w'

theorem RLie.cut (h : RLie w F b sg sc bg bc pv d svs dvs) : RLie w (fun j => F j ∧ j < w.heap.size) b sg sc bg bc pv d svs dvs := by
  have up : ∀ v s, RData w F b sg bg pv v s → RData w (fun j => F j ∧ j < w.heap.size) b sg bg pv v s := fun v s hx => ⟨hx.has, hx.one, fun j hj => by
    obtain ⟨n1, n2, n3, n4, n5, n6⟩ := hx.off j hj
    exact ⟨n1, n2, n3, n4, n5, n6, n5⟩⟩
  exact ⟨h.blk, h.srow, h.brow, h.prow, h.dlen, h.sb, h.gb, h.sg', h.pb, h.ps, h.pg, ⟨h.fb, lt_of_block h.blk⟩, ⟨h.fs, (h.srow.lt _ rfl).2⟩, ⟨h.fg, (h.brow.lt _ rfl).2⟩, fun j hj => ⟨h.fp j hj, (h.prow.lt j hj).2⟩, fun i v hv => up v _ (h.sdat i v hv), fun i p hp => by
    obtain ⟨dv, e, hd⟩ := h.pdat i p hp
    exact ⟨dv, e, up _ _ hd⟩⟩

set_option maxRecDepth 100000 in
set_option maxHeartbeats 2000000 in
theorem rkWrite_any (h : RLie w F b sg sc bg bc pv d svs dvs) (hf : d.Fine) (hwk : d.works ≤ 1000000) (k : Int) (xv : Value) (bs : List UInt8) (hx : Has w xv bs) (hxb : bs ≠ [] → ∀ j, blk xv = some j → ¬ F j) :
    Calls Try.prog 26 #[.pointer (some ⟨b, 0, none⟩), .int .i64 k, xv] w fun e w' => e = .returned (.int .i64 (d.writeE k bs)) ∧ RWrote w w' F b sg sc bg bc (d.write k bs) svs := by
  obtain ⟨xo, xc, hxv, hlc, hm⟩ := hx.shape
  subst hxv
  obtain ⟨c0, c1, c2, c3, c4, c5, fz⟩ := cells_six h.blk
  have hFb := h.fb
  have HX := hide hx
  have H := hide h
  have HF := hide hf
  have hmn := hf.many
  have hn1 := hf.n1
  have hn2 := hf.n2
  clear hx h hf
  have bad : d.there k = false ∨ bs.length ≠ 64 → d.writeE k bs = 1 ∧ d.write k bs = d := fun hb => by
    have hc : ¬ (d.there k = true ∧ bs.length = 64) := fun ⟨a, c⟩ => by rcases hb with hb | hb; rw [hb] at a; cases a; exact hb c
    unfold Dk.writeE Dk.write
    rw [if_neg hc, if_neg hc]
    exact ⟨rfl, rfl⟩
  have stay : RWrote w w F b sg sc bg bc d svs := ⟨⟨_, pv, dvs, (unhide H).cut, fun j hj => Or.inl hj.1, fun j hj => hj.2⟩, Only.refl _ _⟩
  have STAY := hide stay
  have BAD := hide bad
  clear stay bad
  by_cases hk0 : k < 0
  · have hb := unhide BAD (Or.inl (by unfold Dk.there; simp; omega))
    rw [hb.1, hb.2]
    clear hb
    go_enter Try.func26, Try.ntmps26
    go_wp2_with fail
    go_ret
    exact ⟨rfl, unhide STAY⟩
  · by_cases hk1 : (d.secs.length : Int) ≤ k
    · have hb := unhide BAD (Or.inl (by unfold Dk.there; simp; omega))
      rw [hb.1, hb.2]
      clear hb
      go_enter Try.func26, Try.ntmps26
      go_wp2_with fail
      go_ret
      exact ⟨rfl, unhide STAY⟩
    · by_cases hl : bs.length = 64
      · obtain ⟨kn, rfl⟩ : ∃ kn : Nat, k = kn := ⟨k.toNat, by omega⟩
        have ht : d.there kn = true := by unfold Dk.there; simp; omega
        cases hfe : d.fell with
        | true =>
          have e1 : d.writeE kn bs = 9 := by unfold Dk.writeE; simp [ht, hl, hfe]
          have e2 : d.write kn bs = d.worked := by unfold Dk.write Dk.worked; simp [ht, hl, hfe]
          rw [e1, e2]
          have HE := hide hfe
          clear ht e1 e2 hfe STAY
          go_enter Try.func26, Try.ntmps26
          go_wp2_with fail
          refine (rkWork_any (unhide H) (unhide HF) hwk).mono ?_
          rintro e w2 ⟨rfl, h2, ho2⟩
          rw [unhide HE]
          go_wp2_with fail
          go_ret
          exact ⟨rfl, ⟨⟨_, pv, dvs, h2.cut, fun j hj => Or.inl hj.1, fun j hj => hj.2⟩, ho2⟩⟩
        | false =>
          have e1 : d.writeE kn bs = 0 := by unfold Dk.writeE; simp [ht, hl, hfe]
          have e2 : d.write kn bs = { d.spent with pend := d.pend ++ [(kn, bs)] } := by unfold Dk.write; simp [ht, hl, hfe]
          have e3 : d.worked = d.spent := by unfold Dk.worked; simp [hfe]
          rw [e1, e2]
          have HE := hide hfe
          have HE3 := hide e3
          clear ht e1 e2 hfe e3 STAY BAD
          obtain ⟨i0, hi, hz0, hz1, hz2⟩ := info_parts Try.infoWrite
          obtain ⟨i1, hj, hy0, hy1, hy2⟩ := info_parts Try.info5
          go_enter Try.func26, Try.ntmps26
          go_wp2_with fail
          refine (rkWork_any (unhide H) (unhide HF) hwk).mono ?_
          rintro e w2 ⟨rfl, h2, ho2⟩
          rw [unhide HE]
          rw [unhide HE3] at h2
          have hx2 := (unhide HX).only ho2 (fun hne j hj e => hxb hne j hj (e ▸ hFb))
          rw [hl] at hx2
          obtain ⟨e0, e1, e2, e3, e4, e5, fe⟩ := cells_six h2.blk
          have HX2 := hide hx2
          have H2 := hide h2
          have HO2 := hide ho2
          have hbl := lt_of_block h2.blk
          clear h2 ho2 hx2 c0 c1 c2 c3 c4 c5 fz
          have hprow := (unhide H2).prow
          rw [show d.spent.pend = d.pend from rfl] at hprow
          have HPR := hide hprow
          clear hprow
          go_wp2_with (first
            | (at_builtin; refine wpList_append_row rfl (.tmp 27) (.tmp 31) 81 rfl w2.heap.size 0 106 i0 (.agg #[.int .i64 0, .slice none 0 0]) 2 32 Try.underlying81 hi hz0 hz1 hz2 rfl (by decide) _ 0 [] rfl (World.ownsRow_lit w2 #[] 0 (Nat.le_refl _) (Nat.zero_le _) rfl) _ d.pend.length (dvs.flatMap wrt) rfl ((unhide HPR).alloc _) (wrt_one (unhide H2).dvs_one) (by unfold maxLen; omega) (by omega) (by simp) ?_; intro v3 w3 own3 gr3 at3; rw [Nat.zero_add, List.nil_append] at own3; have HW3 := hide own3; have HO3 := hide (((Only.refl (fun _ => False) w2).alloc _).grown gr3 (fun j hj hl => by simp only [Value.ownBlock, Act.eval] at hj; have hj2 : w2.heap.size = j := Option.some.inj hj; omega)); have HX3 := hide ((unhide HX2).only (unhide HO3) (fun _ _ _ h => h)); clear own3 gr3 at3)
            | (at_builtin; refine wpList_append_has rfl (.tmp 34) (.tmp 35) 32 rfl w3.heap.size 5 i1 Try.underlying32 hj hy0 hy1 hy2 _ 0 [] rfl (World.ownsRow_lit w3 #[] 0 (Nat.le_refl _) (Nat.zero_le _) rfl) _ bs rfl ((unhide HX3).only ((Only.refl (fun _ => False) w3).alloc _) (fun _ _ _ h => h)) (by omega) (by simp) ?_; intro ao4 cap4 w4 own4 gr4 at4; rw [Nat.zero_add, hl] at own4; rw [Nat.zero_add, hl]; have HW4 := hide own4; have HO4 := hide (((Only.refl (fun _ => False) w3).alloc _).grown gr4 (fun j hj hl => by simp only [Value.ownBlock, Act.eval] at hj; have hj2 : w3.heap.size = j := Option.some.inj hj; omega)); clear own4 gr4 at4)
            | (at_builtin; refine wpList_append_lies _ rfl (.tmp 32) (.tmp 38) 81 rfl w2.heap.size 106 i0 (.agg #[.int .i64 0, .slice none 0 0]) 2 32 Try.underlying81 hi hz0 hz1 hz2 rfl (by decide) v3 d.pend.length (dvs.flatMap wrt) rfl (((unhide HO4).owns (unhide HW3) (fun _ _ h => h)).alloc _) ⟨w4.heap.size, 0, none⟩ 1 1 (wrt (kn, .slice ao4 64 cap4)) rfl rfl (World.news_of_block (heap_alloc_new w4 _)) (fun u hu => by simp only [wrt, List.mem_cons, List.not_mem_nil, or_false] at hu; rcases hu with rfl | rfl <;> rfl) (by decide) (by unfold maxLen; omega) (by omega) (by have h3 := (unhide HO3).size; have h4 := (unhide HO4).size; simp; omega) (w4.heap.size + 1) (by simp) ?_; intro g6 cap6 w6 own6 gr6 at6 lt6; have HO6 := hide (((((unhide HO3).trans (unhide HO4) (fun _ _ e => e)).alloc _).grown gr6 (fun j hj hl => by have := ((unhide HW3).lt j hj).1; omega))); have f2 := (unhide HO6).cell e2 (fun h => h); have f2z := (cells_six ((unhide HO6).heap (unhide H2).blk (fun h => h))).2.2.2.2.2.2 2))
          go_ret
          have hs3 := (unhide HO3).size
          have hs4 := (unhide HO4).size
          have hs6 := gr6.size
          simp only [World.size_alloc] at hs6
          have hgs : w2.heap.size ≤ g6 := by
            rcases at6 with e | e
            · exact ((unhide HW3).lt g6 e).1
            · omega
          have hb4 : ∀ j, blk (.slice ao4 64 cap4) = some j → w3.heap.size ≤ j ∧ j < w4.heap.size := fun j hj => (unhide HW4).lt j (own_blk (unhide HW4) j hj)
          have hd6 : Has w6 (.slice ao4 64 cap4) bs := by
            have h4 : Has w4 (.slice ao4 64 cap4) bs := Has.ofOwns (n := 64) (by have := unhide HW4; rwa [List.nil_append] at this)
            have h4a := h4.only ((Only.refl (fun _ => False) w4).alloc (.cells #[.int .i64 kn, .slice ao4 64 cap4] 106)) (fun _ _ _ h => h)
            exact h4a.only ((Only.refl (fun j => v3.ownBlock = some j) _).grown gr6 (fun j hj _ => hj)) (fun _ j hj e => by have := (hb4 j hj).1; have := ((unhide HW3).lt j e).2; omega)
          have hfin := rlie_pushed (F' := fun j => (F j ∨ w2.heap.size ≤ j) ∧ j < w6.heap.size) ((unhide H2).cut) (kn, bs) (dv := .slice ao4 64 cap4) (g4 := g6) (cap4 := cap6) (ownsRow_base own6 (Nat.zero_le _)) (unhide HO6) hgs hd6 (fun j hj => by
            have h1 := hb4 j hj
            refine ⟨by omega, by omega, ?_⟩
            rcases at6 with e | e
            · have := ((unhide HW3).lt g6 e).2; omega
            · omega) (fun j hj => ⟨Or.inl hj.1, Nat.lt_of_lt_of_le hj.2 (unhide HO6).size⟩) (fun j h1 h2 => ⟨Or.inr h1, h2⟩)
          have hsw := (unhide HO2).size
          have hse : (w6.setCell ⟨b, 2, none⟩ (.slice (some ⟨g6, 0, none⟩) (d.pend.length + 1) cap6)).heap.size = w6.heap.size := by simp [World.setCell]
          refine ⟨rfl, ⟨⟨_, _, _, hfin.1, fun j hj => ?_, fun j hj => ?_⟩, (unhide HO2).trans hfin.2 (fun _ _ e => e)⟩⟩
          · rcases hj.1 with e | e
            · exact Or.inl e
            · exact Or.inr (by omega)
          · rw [hse]; exact hj.2
      · have hb := unhide BAD (Or.inr hl)
        rw [hb.1, hb.2]
        clear hb
        have hl' : ¬ (bs.length : Int) = 64 := by omega
        go_enter Try.func26, Try.ntmps26
        go_wp2_with fail
        go_ret
        exact ⟨rfl, unhide STAY⟩
end

end Go.Proofs.Ytoffcbopolonoaa

namespace Go.Proofs.Ytoffcbopolonoaa
open Go.RowKit
set_option linter.unusedSimpArgs false
set_option linter.unusedVariables false

theorem Try.infoBool : (Try.prog.info? 4).map (fun i => (i.zero, i.size, i.bytes)) = some (some (.bool false), 1, 1) := by kernel_rfl
theorem Try.infoBytes : (Try.prog.info? 32).map (fun i => (i.zero, i.size, i.bytes)) = some (some (.slice none 0 0), 1, 24) := by kernel_rfl

/-- make([]byte, ..), kept whole -/
def mkRow (x y : Value) : Sem Value := Instr.makeSlice 32 x y
theorem execOp_mkRow (ρ : Operand → Value) (dst : Option Tmp) (x y : Operand) (ty : TypeId) (pos : String) (af : Array Edge) (gd : Option (Nat × Bool)) :
    execOp ρ { dst := dst, op := .makeSlice 32 x y, type := ty, pos := pos, after := af, guard := gd } = (do pure (.value (← mkRow (ρ x) (ρ y)))) := rfl

theorem grownBy_drew {w w' : World} {r : Option Nat} (h : w.drew.grownBy w' r) : w.grownBy w' r := ⟨h.os, h.tape, h.output, h.size, h.block⟩

structure RNew (w wr : World) (B G n k : Nat) (sv : Value) (svs : List Value) : Prop where
  blk : wr.heap[B]? = some (.cells #[sv, .slice (some ⟨G, 0, none⟩) n n, .slice none 0 0, .int .i64 (-1), .bool false, .int .i64 0] 83 (0, 0))
  srow : wr.ownsRow w.heap.size 32 1 sv k svs
  brow : wr.ownsRow w.heap.size 4 1 (.slice (some ⟨G, 0, none⟩) n n) n (List.replicate n (.bool false))
  dat : ∀ v ∈ svs, Has wr v zero64 ∧ ∀ j, _root_.Go.Proofs.Ytoffcbopolonoaa.blk v = some j → w.heap.size ≤ j ∧ j < wr.heap.size ∧ j ≠ B ∧ j ≠ G ∧ sv.ownBlock ≠ some j
  sb : sv.ownBlock ≠ some B
  sg : sv.ownBlock ≠ some G
  gb : G ≠ B
  up : w.heap.size ≤ B
  ug : w.heap.size ≤ G
  only : Only (fun _ => False) w wr

theorem RNew.push {w wr w4 : World} {B G n k : Nat} {sv : Value} {svs : List Value} {g4 cap4 H : Nat} (h : RNew w wr B G n k sv svs)
    (own : w4.ownsRow w.heap.size 32 1 (.slice (some ⟨g4, 0, none⟩) (k + 1) cap4) (k + 1) (svs ++ [.slice (some ⟨H, 0, none⟩) 64 64]))
    (ho : Only (fun j => sv.ownBlock = some j) wr w4) (hat : sv.ownBlock = some g4 ∨ (wr.heap.size ≤ g4 ∧ g4 ≠ H)) (hH : wr.heap.size ≤ H) (hH4 : H < w4.heap.size) (hz : Has w4 (.slice (some ⟨H, 0, none⟩) 64 64) zero64) :
    RNew w (w4.setCell ⟨B, 0, none⟩ (.slice (some ⟨g4, 0, none⟩) (k + 1) cap4)) B G n (k + 1) (.slice (some ⟨g4, 0, none⟩) (k + 1) cap4) (svs ++ [.slice (some ⟨H, 0, none⟩) 64 64]) := by
  have hbl := lt_of_block h.blk
  have hgl := (h.brow.lt G rfl).2
  have hlt : ∀ j, sv.ownBlock = some j → j < wr.heap.size := fun j hj => (h.srow.lt j hj).2
  have hgB : g4 ≠ B := by
    rcases hat with e | e
    · intro e2; subst e2; exact h.sb e
    · omega
  have hgG : g4 ≠ G := by
    rcases hat with e | e
    · intro e2; subst e2; exact h.sg e
    · omega
  have hset := (Only.refl (fun j => j = B) w4).here 0 (.slice (some ⟨g4, 0, none⟩) (k + 1) cap4)
  have hse : (w4.setCell ⟨B, 0, none⟩ (.slice (some ⟨g4, 0, none⟩) (k + 1) cap4)).heap.size = w4.heap.size := by simp [World.setCell]
  have hws := h.only.size
  refine ⟨?_, ?_, ?_, ?_, ?_, ?_, h.gb, h.up, h.ug, ?_⟩
  · rw [six_setCell (ho.heap h.blk h.sb)]
    rfl
  · exact hset.owns own (fun j hj e => by simp only [Value.ownBlock, Option.some.injEq] at hj; omega)
  · exact hset.owns (ho.owns h.brow (fun j hj e => by simp only [Value.ownBlock, Option.some.injEq] at hj; subst hj; exact h.sg e)) (fun j hj e => by simp only [Value.ownBlock, Option.some.injEq] at hj; subst hj; exact h.gb e)
  · intro v hv
    rcases List.mem_append.1 hv with hv | hv
    · obtain ⟨h1, h2⟩ := h.dat v hv
      have h3 := h1.only ho (fun _ j hj => (h2 j hj).2.2.2.2)
      refine ⟨h3.only hset (fun _ j hj e => (h2 j hj).2.2.1 e), fun j hj => ?_⟩
      obtain ⟨m1, m2, m3, m4, m5⟩ := h2 j hj
      refine ⟨m1, by rw [hse]; exact Nat.lt_of_lt_of_le m2 ho.size, m3, m4, ?_⟩
      simp only [Value.ownBlock, ne_eq, Option.some.injEq]
      rcases hat with e | e
      · intro e2; subst e2; exact m5 e
      · omega
    · simp only [List.mem_singleton] at hv
      subst hv
      refine ⟨hz.only hset (fun _ j hj e => by cases hj; have e2 : H = B := e; omega), fun j hj => ?_⟩
      have hj' : H = j := by cases hj; rfl
      subst hj'
      refine ⟨by omega, by rw [hse]; exact hH4, by omega, by omega, ?_⟩
      simp only [Value.ownBlock, ne_eq, Option.some.injEq]
      rcases hat with e | e
      · have := hlt g4 e; omega
      · exact e.2
  · simp only [Value.ownBlock, ne_eq, Option.some.injEq]; exact hgB
  · simp only [Value.ownBlock, ne_eq, Option.some.injEq]; exact hgG
  · exact (h.only.trans ho (fun j hj e => by have := (h.srow.lt j e).1; omega)).trans hset (fun j hj e => by have := h.up; omega)

theorem RNew.done {w wr : World} {B G n : Nat} {sv : Value} {svs : List Value} (h : RNew w wr B G n n sv svs) (hn : 0 < n) : ∃ sg sc, RLie wr (fun j => w.heap.size ≤ j ∧ j < wr.heap.size) B sg sc G n (.slice none 0 0) (Dk.new n) svs [] := by
  obtain ⟨so, sc, hsv⟩ := ownsRow_shape h.srow
  obtain ⟨sg, rfl⟩ := row_form (n := n) (by rw [← hsv]; exact ownsRow_base h.srow (Nat.zero_le _)) hn
  subst hsv
  have hln : (Dk.new n).secs.length = n := by simp [Dk.new]
  have hss := h.srow.lt sg rfl
  have hbb := h.brow.lt G rfl
  refine ⟨sg, sc, ⟨?_, ?_, ?_, World.ownsRow_nil _ _ _ _, rfl, ?_, h.gb, ?_, by simp [Value.ownBlock], by simp [Value.ownBlock], by simp [Value.ownBlock], ⟨h.up, lt_of_block h.blk⟩, hss, hbb, fun k hk => (by cases hk), ?_, fun k p hp => ?_⟩⟩
  · rw [hln]; exact h.blk
  · rw [hln]; exact ownsRow_base h.srow (Nat.zero_le _)
  · rw [hln]
    have e : (Dk.new n).secs.map (fun s => Value.bool s.isNone) = List.replicate n (.bool false) := by simp [Dk.new]
    rw [e]
    exact ownsRow_base h.brow (Nat.zero_le _)
  · have := h.sb; simp only [Value.ownBlock, ne_eq, Option.some.injEq] at this; exact this
  · have := h.sg; simp only [Value.ownBlock, ne_eq, Option.some.injEq] at this; exact this
  · intro k v hv
    obtain ⟨h1, h2⟩ := h.dat v (List.mem_of_getElem? hv)
    refine ⟨fun bs e => ?_, h1.one, fun j hj => ?_⟩
    · have hk : k < n := by have := (List.getElem?_eq_some_iff.1 hv).1; have := h.srow.1; omega
      have hz : (Dk.new n).secs.getD k none = some zero64 := by
        show (List.replicate n (some zero64)).getD k none = some zero64
        rw [List.getD_eq_getElem?_getD, List.getElem?_replicate, if_pos hk]
        rfl
      rw [hz] at e
      cases e
      exact h1
    · obtain ⟨m1, m2, m3, m4, m5⟩ := h2 j hj
      simp only [Value.ownBlock, ne_eq, Option.some.injEq] at m5
      exact ⟨m3, fun e => m5 e.symm, m4, by simp [Value.ownBlock], m2, m1, m2⟩
  · cases k <;> cases hp

/-- a new disk of the reference -/
structure RMade (w w' : World) (B n : Nat) : Prop where
  ex : ∃ G sg sc svs, RLie w' (fun j => w.heap.size ≤ j ∧ j < w'.heap.size) B sg sc G n (.slice none 0 0) (Dk.new n) svs []
  only : Only (fun _ => False) w w'

section
attribute [local go_sem ↓] execOp_mkRow

set_option maxRecDepth 100000 in
set_option maxHeartbeats 2000000 in
theorem rkNew_any (n : Nat) (h1 : 8 ≤ n) (h2 : n ≤ 4096) (w : World) : Calls Try.prog 16 #[.int .i64 n] w fun e w' => ∃ B, e = .returned (.pointer (some ⟨B, 0, none⟩)) ∧ RMade w w' B n := by
  obtain ⟨i0, hi, hz0, hz1, hz2⟩ := info_parts Try.infoBool
  obtain ⟨i1, hj, hy0, hy1, hy2⟩ := info_parts Try.infoBytes
  have hmk : ∃ Z : Array Value, Z = (zero64.map bv).toArray ∧ ∀ w', (mkRow (.int .i64 64) (.int .i64 64)).run Try.prog w' = .ok (.slice (some ⟨w'.heap.size, 0, none⟩) 64 64) (w'.alloc (.cells Z 5)) := by
    obtain ⟨i2, hk, hx0, hx1, hx2⟩ := info_parts Try.info5
    refine ⟨madeCells #[.int .u8 0] 64, ?_, fun w' => ?_⟩
    · apply Array.ext'
      rw [toList_madeCells_one]
      simp [bv, zero64]
    have h := run_make (P := Try.prog) w' 32 5 i2 (.int .u8 0) Try.underlying32 hk hx0 .i64 .i64 64 64 (by omega) (by omega) (by rw [hx2]; omega) (by omega)
    simp only [hx1, Nat.mul_one] at h
    exact h
  obtain ⟨Z, hZ, hmk⟩ := hmk
  have HZ := hide hZ
  clear hZ
  go_enter Try.func16, Try.ntmps16
  go_wp2_with (at_make; refine wpList_make_full _ rfl (.tmp 5) (.tmp 5) 80 rfl w.heap.size 4 i0 (.bool false) 1 Try.underlying80 hi hz0 hz1 .i64 .i64 n n n rfl rfl rfl rfl (by rw [hz2]; omega) (by unfold maxLen; omega) (Nat.le_refl _) ?_; intro w1 own1 gr1; have ho1 : Only (fun _ => False) w w1 := (Only.refl _ _).grown gr1 (fun k h => by cases h))
  have hlt1 := (own1.lt w.heap.size rfl).2
  have hbz : (madeCells (Value.bool false).cells (n * 1)).toList = List.replicate n (.bool false) := by
    rw [Nat.mul_one]
    show (madeCells #[Value.bool false] n).toList = _
    rw [toList_madeCells_one]
  rw [hbz] at own1
  have hN0 : RNew w (w1.alloc (.cells #[.slice none 0 0, .slice (some ⟨w.heap.size, 0, none⟩) n n, .slice none 0 0, .int .i64 (-1), .bool false, .int .i64 0] 83)) w1.heap.size w.heap.size n 0 (.slice none 0 0) [] :=
    ⟨heap_alloc_new w1 _, World.ownsRow_nil _ _ _ _, own1.alloc _, fun v hv => (by cases hv), by simp [Value.ownBlock], by simp [Value.ownBlock], by omega, ho1.size, Nat.le_refl _, ho1.alloc _⟩
  have HN0 := hide hN0
  generalize w1.heap.size = B at *
  clear hN0 own1 gr1 ho1 hbz
  go_loopw [4] (fun i wr => ∃ (k : Nat) (sv : Value) (svs : List Value), k ≤ n ∧ i = .int .i64 k ∧ RNew w wr B w.heap.size n k sv svs) (fun i _ => n - (intOf i).toNat)
  case atStart => exact ⟨0, _, _, Nat.zero_le _, rfl, unhide HN0⟩
  case round =>
    obtain ⟨k, sv, svs, hk, rfl, hN⟩ := hrel
    by_cases hlt : k < n
    · have hlt' : (k : Int) < (n : Int) := by omega
      obtain ⟨c0, c1, c2, c3, c4, c5, fz⟩ := cells_six hN.blk
      have hbl := lt_of_block hN.blk
      have cA : ∀ o, (wr.drew.alloc o).cell? ⟨B, 0, none⟩ = some sv := fun o => by rw [World.cell?_alloc_lt _ _ _ (show (⟨B, 0, none⟩ : Addr).block < wr.drew.heap.size from hbl)]; exact c0
      have cB : ∀ o o', ((wr.drew.alloc o).alloc o').cell? ⟨B, 0, none⟩ = some sv := fun o o' => by rw [World.cell?_alloc_lt _ _ _ (show (⟨B, 0, none⟩ : Addr).block < (wr.drew.alloc o).heap.size by simp; omega)]; exact cA o
      have HN := hide hN
      clear hN
      have hsb := (unhide HN).sb
      have hfz : ∀ o o', ((wr.alloc o).alloc o').frozen? ⟨B, 0, none⟩ = false := fun o o' => by
        rw [World.frozen?_alloc_past _ _ _ (show (⟨B, 0, none⟩ : Addr).block < (wr.alloc o).heap.size by simp; omega), World.frozen?_alloc_past _ _ _ (show (⟨B, 0, none⟩ : Addr).block < wr.heap.size from hbl)]
        exact fz 0
      have HFZ := hide hfz
      have HCB := hide cB
      clear hfz
      go_wp2_with fail
      obtain ⟨W9, hW9⟩ : ∃ W9, W9 = ((wr.alloc (.cells Z 5)).alloc (.cells #[.slice (some ⟨wr.heap.size, 0, none⟩) 64 64] 32)) := ⟨_, rfl⟩
      have hblk9 : W9.heap[wr.heap.size + 1]? = some (.cells #[.slice (some ⟨wr.heap.size, 0, none⟩) 64 64] 32 (0, 0)) := by
        rw [hW9]
        have := heap_alloc_new (wr.alloc (.cells Z 5)) (.cells #[.slice (some ⟨wr.heap.size, 0, none⟩) 64 64] 32)
        simpa using this
      have HNEWS := hide (World.news_of_block hblk9)
      have HOWN : Hid (W9.ownsRow w.heap.size 32 1 sv k svs) := by rw [hW9]; exact ((unhide HN).srow.alloc _).alloc _
      have ho9 : Only (fun _ => False) wr W9 := by rw [hW9]; exact ((Only.refl _ _).alloc _).alloc _
      have hs9 : W9.heap.size = wr.heap.size + 2 := by rw [hW9]; simp
      have hb9 : w.heap.size ≤ W9.heap.size := Nat.le_trans (unhide HN).only.size ho9.size
      have hz9 : Has W9 (.slice (some ⟨wr.heap.size, 0, none⟩) 64 64) zero64 := by
        rw [hW9]
        have h := has_row (w := wr.alloc (.cells Z 5)) (heap_alloc_new wr _) (unhide HZ) zero64_length (by unfold maxLen; omega)
        exact h.only ((Only.refl (fun _ => False) _).alloc _) (fun _ _ _ h => h)
      have c9 := ho9.cell c0 (fun h => h)
      have f9 : W9.frozen? ⟨B, 0, none⟩ = false := (cells_six (ho9.heap (unhide HN).blk (fun h => h))).2.2.2.2.2.2 0
      have HZ9 := hide hz9
      have HC9 := hide c9
      have HF9 := hide f9
      have HW9 := hide hW9
      subst hW9
      clear hz9 c9 f9 hblk9
      go_region_law (refine step_append_lies _ rfl (.tmp 18) (.tmp 20) 23 rfl w.heap.size 32 i1 (.slice none 0 0) 1 24 Try.underlying23 hj hy0 hy1 hy2 rfl (by decide) sv k svs rfl (unhide HOWN) ⟨wr.heap.size + 1, 0, none⟩ 1 1 [.slice (some ⟨wr.heap.size, 0, none⟩) 64 64] rfl rfl (unhide HNEWS) (fun u hu => by simp only [List.mem_cons, List.not_mem_nil, or_false] at hu; subst hu; rfl) (by decide) (by unfold maxLen; omega) (by omega) hb9 (wr.heap.size + 2) hs9 ?_; intro g4 cap4 w4 own4 gr4 at4 lt4; have k4 : w4.cell? ⟨B, 0, none⟩ = some sv := gr4.cell (unhide HC9) (fun e => hsb e.symm); have z4 : w4.frozen? ⟨B, 0, none⟩ = false := (gr4.frozen_far ⟨B, 0, none⟩ (show B < _ from Nat.lt_of_lt_of_le hbl ho9.size) (fun e => hsb e.symm)).trans (unhide HF9))
      all_goals
        have gr5 := grownBy_drew gr4
        have ho4 : Only (fun j => sv.ownBlock = some j) wr w4 := (ho9.mono (fun _ _ e => e.elim)).grown gr5 (fun j hj _ => hj)
        have hnb : ∀ j, sv.ownBlock = some j → j < wr.heap.size := fun j hj => ((unhide HN).srow.lt j hj).2
        have hg9 := gr5.size
        have hP := (unhide HN).push own4 ho4 (by
          rcases at4 with e | e
          · exact Or.inl e
          · exact Or.inr ⟨by omega, by omega⟩) (Nat.le_refl _) (Nat.lt_of_lt_of_le (by rw [hs9]; omega) hg9) ((unhide HZ9).only ((Only.refl (fun j => sv.ownBlock = some j) _).grown gr5 (fun j hj _ => hj)) (fun _ j hj e => by have hj2 : wr.heap.size = j := Option.some.inj hj; have := hnb j e; omega))
        have HP := hide hP
        clear hP
        go_wp2_with fail
        go_roundw
        case rel => exact ⟨k + 1, _, _, by omega, by go_num, unhide HP⟩
        case measure => simp [intOf]; omega
    · obtain rfl : k = n := by omega
      have hlt' : ¬ (k : Int) < (k : Int) := by omega
      go_wp2_with fail
      go_ret
      obtain ⟨sg, sc, hR⟩ := hN.done (by omega)
      exact ⟨B, rfl, ⟨⟨w.heap.size, sg, sc, svs, hR⟩, hN.only⟩⟩
end

end Go.Proofs.Ytoffcbopolonoaa

namespace Go.Proofs.Ytoffcbopolonoaa
open Go.RowKit
set_option linter.unusedSimpArgs false
set_option linter.unusedVariables false

structure Rks (w0 w : World) (F : Nat → Prop) (b : Nat) (d : Dk) : Prop where
  lie : ∃ sg sc bg bc pv svs dvs, RLie w F b sg sc bg bc pv d svs dvs
  fine : d.Fine
  lt : ∀ k, F k → k < w.heap.size
  up : ∀ k, F k → w0.heap.size ≤ k
  only : Only (fun _ => False) w0 w

structure RWent (w0 w w' : World) (F F' : Nat → Prop) (b : Nat) (d' : Dk) : Prop where
  rk : Rks w0 w' F' b d'
  only : Only F w w'
  grew : ∀ k, F' k → F k ∨ w.heap.size ≤ k

section
variable {w0 w w' : World} {F : Nat → Prop} {b : Nat} {d : Dk}

theorem Rks.later (h : Rks w0 w F b d) {S : Nat → Prop} (ho : Only S w w') (hS : ∀ k, k < w.heap.size → S k → ¬ F k ∧ w0.heap.size ≤ k) : Rks w0 w' F b d := by
  obtain ⟨sg, sc, bg, bc, pv, svs, dvs, hl⟩ := h.lie
  have ho' : Only (fun k => S k ∧ k < w.heap.size) w w' := ⟨ho.os, ho.tape, ho.output, ho.size, fun k hk hn => ho.block k hk (fun hs => hn ⟨hs, hk⟩)⟩
  exact ⟨⟨sg, sc, bg, bc, pv, svs, dvs, hl.only ho' (fun j hj => (hS j hj.2 hj.1).1)⟩, h.fine, fun k hk => Nat.lt_of_lt_of_le (h.lt k hk) ho.size, h.up,
    h.only.trans ho (fun i hi hs => by have := hS i (Nat.lt_of_lt_of_le hi h.only.size) hs; omega)⟩
theorem Rks.same (h : Rks w0 w F b d) (ho : Only (fun _ => False) w w') : Rks w0 w' F b d := h.later ho (fun _ _ e => e.elim)

theorem rwent_of (h : Rks w0 w F b d) {d' : Dk} (hf : d'.Fine) {sg sc bg bc : Nat} {pv : Value} {svs : List Value} {dvs : List (Nat × Value)} (hl : RLie w' F b sg sc bg bc pv d' svs dvs) (ho : Only F w w') : RWent w0 w w' F F b d' :=
  ⟨⟨⟨sg, sc, bg, bc, pv, svs, dvs, hl⟩, hf, fun k hk => Nat.lt_of_lt_of_le (h.lt k hk) ho.size, h.up, h.only.trans ho (fun i hi hs => by have := h.up i hs; omega)⟩, ho, fun k hk => Or.inl hk⟩

theorem rks_fuse (h : Rks w0 w F b d) (n : Int) (h1 : -9223372036854775808 ≤ n) (h2 : n ≤ 9223372036854775807) : Calls Try.prog 21 #[.pointer (some ⟨b, 0, none⟩), .int .i64 n] w fun e w' => e = .returned (.tuple #[]) ∧ RWent w0 w w' F F b (d.fused n) := by
  obtain ⟨sg, sc, bg, bc, pv, svs, dvs, hl⟩ := h.lie
  refine (rkFuse_any hl n).mono ?_
  rintro e w' ⟨rfl, h', ho⟩
  exact ⟨rfl, rwent_of h (h.fine.fused n h1 h2) h' (ho.mono (fun _ _ e => e ▸ hl.fb))⟩
theorem rks_flush (h : Rks w0 w F b d) (hw : d.works ≤ 1000000) : Calls Try.prog 83 #[.pointer (some ⟨b, 0, none⟩)] w fun e w' => e = .returned (.int .i64 d.flushE) ∧ RWent w0 w w' F F b d.flush := by
  obtain ⟨sg, sc, bg, bc, pv, svs, dvs, hl⟩ := h.lie
  refine (rkFlush_any hl h.fine hw).mono ?_
  rintro e w' ⟨rfl, ⟨pv', svs', dvs', h'⟩, ho⟩
  refine ⟨rfl, rwent_of h h.fine.flush h' (ho.mono (fun j _ e => ?_))⟩
  rcases e with rfl | rfl | rfl
  · exact hl.fb
  · exact hl.fs
  · exact hl.fg
theorem rks_crash (h : Rks w0 w F b d) (hw : d.works ≤ 1000000) (fv : Value) (fs : List Int) (hx : HasV w fv (fs.map (.int .i64))) (hxb : fs ≠ [] → ∀ j, blk fv = some j → ¬ F j) :
    Calls Try.prog 23 #[.pointer (some ⟨b, 0, none⟩), fv] w fun e w' => e = .returned (.tuple #[]) ∧ RWent w0 w w' F F b (d.crash fs) := by
  obtain ⟨sg, sc, bg, bc, pv, svs, dvs, hl⟩ := h.lie
  refine (rkCrash_any hl h.fine hw fv fs hx hxb).mono ?_
  rintro e w' ⟨rfl, ⟨pv', svs', dvs', h'⟩, ho⟩
  refine ⟨rfl, rwent_of h (h.fine.crash fs) h' (ho.mono (fun j _ e => ?_))⟩
  rcases e with rfl | rfl | rfl
  · exact hl.fb
  · exact hl.fs
  · exact hl.fg
theorem rks_write (h : Rks w0 w F b d) (hw : d.works ≤ 1000000) (k : Int) (xv : Value) (bs : List UInt8) (hx : Has w xv bs) (hxb : bs ≠ [] → ∀ j, blk xv = some j → ¬ F j) :
    Calls Try.prog 26 #[.pointer (some ⟨b, 0, none⟩), .int .i64 k, xv] w fun e w' => e = .returned (.int .i64 (d.writeE k bs)) ∧ ∃ F', RWent w0 w w' F F' b (d.write k bs) := by
  obtain ⟨sg, sc, bg, bc, pv, svs, dvs, hl⟩ := h.lie
  refine (rkWrite_any hl h.fine hw k xv bs hx hxb).mono ?_
  rintro e w' ⟨rfl, hw⟩
  obtain ⟨F', pv', dvs', h', g1, g2⟩ := hw.ex
  have hs := h.only.size
  have ho : Only F w w' := hw.only.mono (fun _ _ e => e ▸ hl.fb)
  refine ⟨rfl, F', ⟨⟨sg, sc, bg, bc, pv', svs, dvs', h'⟩, h.fine.write k bs, g2, fun j hj => ?_, h.only.trans ho (fun i hi hs => by have := h.up i hs; omega)⟩, ho, g1⟩
  rcases g1 j hj with e | e
  · exact h.up j e
  · omega
theorem rks_read (h : Rks w0 w F b d) (hw : d.works ≤ 1000000) (k : Int) :
    Calls Try.prog 51 #[.pointer (some ⟨b, 0, none⟩), .int .i64 k] w fun e w' => ∃ v, e = .returned (.tuple #[v, .int .i64 (d.readE k)]) ∧ Has w v (d.read k) ∧ w' = w := by
  obtain ⟨sg, sc, bg, bc, pv, svs, dvs, hl⟩ := h.lie
  exact rkRead_any hl h.fine hw k
theorem rks_new (n : Nat) (h1 : 8 ≤ n) (h2 : n ≤ 4096) (w w0 : World) (h0 : Only (fun _ => False) w0 w) : Calls Try.prog 16 #[.int .i64 n] w fun e w' => ∃ B, e = .returned (.pointer (some ⟨B, 0, none⟩)) ∧ Rks w0 w' (fun j => w.heap.size ≤ j ∧ j < w'.heap.size) B (Dk.new n) ∧ Only (fun _ => False) w w' := by
  refine (rkNew_any n h1 h2 w).mono ?_
  rintro e w' ⟨B, rfl, hm⟩
  obtain ⟨G, sg, sc, svs, hl⟩ := hm.ex
  have := h0.size
  exact ⟨B, rfl, ⟨⟨sg, sc, G, n, _, svs, [], hl⟩, Dk.Fine.new n h1 h2, fun k hk => hk.2, fun k hk => by omega, h0.trans hm.only (fun _ _ e => e)⟩, hm.only⟩
end

/-- both disks, apart -/
structure Both (w0 w : World) (F G : Nat → Prop) (B R : Nat) (dd dr : Dk) : Prop where
  dk : Dks w0 w F B dd
  rk : Rks w0 w G R dr
  apart : ∀ k, F k → ¬ G k

section
variable {w0 w w' : World} {F G F' G' : Nat → Prop} {B R : Nat} {dd dr d' : Dk}
theorem Both.same (h : Both w0 w F G B R dd dr) (ho : Only (fun _ => False) w w') : Both w0 w' F G B R dd dr := ⟨h.dk.same ho, h.rk.same ho, h.apart⟩
theorem Both.went (h : Both w0 w F G B R dd dr) (hw : Went w0 w w' F F' B d') : Both w0 w' F' G B R d' dr :=
  ⟨hw.dk, h.rk.later hw.only (fun k _ hk => ⟨h.apart k hk, h.dk.up k hk⟩), fun k hk hg => by
    rcases hw.grew k hk with e | e
    · exact h.apart k e hg
    · have := h.rk.lt k hg; omega⟩
theorem Both.rwent (h : Both w0 w F G B R dd dr) (hw : RWent w0 w w' G G' R d') : Both w0 w' F G' B R dd d' :=
  ⟨h.dk.later hw.only (fun k _ hk => ⟨fun e => h.apart k e hk, h.rk.up k hk⟩), hw.rk, fun k hk hg => by
    rcases hw.grew k hg with e | e
    · exact h.apart k hk e
    · have := h.dk.lt k hk; omega⟩
/-- a third one, apart from both, was turned -/
theorem Both.beside (h : Both w0 w F G B R dd dr) {C : Nat → Prop} (ho : Only C w w') (hC : ∀ k, k < w.heap.size → C k → ¬ F k ∧ ¬ G k ∧ w0.heap.size ≤ k) : Both w0 w' F G B R dd dr :=
  ⟨h.dk.later ho (fun k hk hc => ⟨(hC k hk hc).1, (hC k hk hc).2.2⟩), h.rk.later ho (fun k hk hc => ⟨(hC k hk hc).2.1, (hC k hk hc).2.2⟩), h.apart⟩
end

end Go.Proofs.Ytoffcbopolonoaa
