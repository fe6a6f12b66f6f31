/-
  The reference's do, Flush, Read.
-/
import Derived.Test.YtjhcmhdekppplaaRkMem
import Derived.Test.YtjhcmhdekppplaaDkRead
import Derived.BigRegion
namespace Go.Proofs.Ytjhcmhdekppplaa
open Go.RowKit
set_option linter.unusedSimpArgs false
set_option linter.unusedVariables false

section
variable {w w' : World} {F : Nat → Prop} {b sg sc bg bc : Nat} {pv : Value} {d : Dk} {svs : List Value} {dvs : List (Nat × Value)}

/-- a sector's bytes and its flag are set -/
theorem RLie.hit (h : RLie w F b sg sc bg bc pv d svs dvs) {k : Nat} (hk : k < d.secs.length) (y : Option (List UInt8)) (svs' : List Value) (hs' : w'.ownsRow 0 28 1 (.slice (some ⟨sg, 0, none⟩) d.secs.length sc) d.secs.length svs')
    (hb' : w'.ownsRow 0 4 1 (.slice (some ⟨bg, 0, none⟩) d.secs.length bc) d.secs.length ((d.secs.map (fun s => Value.bool s.isNone)).set k (.bool y.isNone)))
    (ho : Only (fun j => j = sg ∨ j = bg) w w') (hd : ∀ i v, svs'[i]? = some v → RData w' F b sg bg pv v ((d.secs.set k y).getD i none)) :
    RLie w' F b sg sc bg bc pv { d with secs := d.secs.set k y } svs' dvs := by
  have e1 : (d.secs.set k y).length = d.secs.length := List.length_set
  refine ⟨?_, ?_, ?_, ?_, h.dlen, h.sb, h.gb, h.sg', h.pb, h.ps, h.pg, h.fb, h.fs, h.fg, h.fp, hd, ?_⟩
  · show w'.heap[b]? = some (.cells #[.slice (some ⟨sg, 0, none⟩) (d.secs.set k y).length sc, .slice (some ⟨bg, 0, none⟩) (d.secs.set k y).length bc, pv, _, _, _] _ _)
    rw [e1]
    exact ho.heap h.blk (fun e => by rcases e with e | e; exact h.sb e.symm; exact h.gb e.symm)
  · show World.ownsRow _ _ _ _ (.slice _ (d.secs.set k y).length _) (d.secs.set k y).length _
    rw [e1]; exact hs'
  · show World.ownsRow _ _ _ _ (.slice _ (d.secs.set k y).length _) (d.secs.set k y).length ((d.secs.set k y).map _)
    rw [e1, List.map_set]; exact hb'
  · exact ho.owns h.prow (fun j hj e => by rcases e with e | e; exact h.ps (by rw [hj, e]); exact h.pg (by rw [hj, e]))
  · intro i p hp
    obtain ⟨dv, e, hdv⟩ := h.pdat i p hp
    exact ⟨dv, e, hdv.only ho (fun j hj => by rcases hj with e | e; exact Or.inr (Or.inl e); exact Or.inr (Or.inr (Or.inl e)))⟩

theorem getD_set' (s : Secs) (i k : Nat) (y : Option (List UInt8)) (hi : i < s.length) : (s.set i y).getD k none = if i = k then y else s.getD k none := by
  simp only [List.getD_eq_getElem?_getD, List.getElem?_set]
  by_cases e : i = k
  · subst e; simp [hi]
  · simp [e]

set_option maxRecDepth 100000 in
set_option maxHeartbeats 1000000 in
theorem rkDo_any (h : RLie w F b sg sc bg bc pv d svs dvs) (p : Nat × List UInt8) (hp : p.1 < d.secs.length) (dv : Value) (hdv : RData w F b sg bg pv dv (some p.2)) :
    Calls Try.prog 36 #[.pointer (some ⟨b, 0, none⟩), .agg #[.int .i64 p.1, dv]] w fun e w' => e = .returned (.tuple #[]) ∧ RLie w' F b sg sc bg bc pv { d with secs := d.secs.put p } (svs.set p.1 dv) dvs ∧ Only (fun j => j = sg ∨ j = bg) w w' := by
  obtain ⟨k, bs⟩ := p
  simp only at hp hdv
  obtain ⟨ao, al, ac, rfl⟩ : ∃ ao al ac, dv = .slice ao al ac := by
    obtain ⟨ao, c, e, _⟩ := (hdv.has bs rfl).shape
    exact ⟨ao, _, c, e⟩
  obtain ⟨W, hW⟩ : ∃ W, W = (w.alloc (.cells #[.int .i64 k, .slice ao al ac] 51)) := ⟨_, rfl⟩
  have hoW : Only (fun _ => False) w W := by rw [hW]; exact (Only.refl _ _).alloc _
  have hH := (show W.heap[w.heap.size]? = some (.cells #[.int .i64 k, .slice ao al ac] 51 (0, 0)) by rw [hW]; exact heap_alloc_new w _)
  have hlb := lt_of_block h.blk
  have hls := (h.srow.lt sg rfl).2
  have hlg := (h.brow.lt bg rfl).2
  have hLW := h.only hoW (fun _ e => e.elim)
  have hdW := hdv.only hoW (fun _ e => e.elim)
  obtain ⟨c0, c1, c2, c3, c4, c5, fz⟩ := cells_six hLW.blk
  obtain ⟨m0, m1, _, _⟩ := cells_two hH
  have hk0 : (0 : Int) ≤ (k : Int) := Int.natCast_nonneg _
  have hk1 : (k : Int) < (d.secs.length : Int) := by omega
  have hsl : k < svs.length := by have := h.srow.1; omega
  obtain ⟨old, hold⟩ : ∃ old, svs[k]? = some old := ⟨_, List.getElem?_eq_getElem hsl⟩
  have s0 : W.cell? ⟨sg, k, none⟩ = some old := by rw [hLW.srow.cellAt k (by omega), hold]
  have s1 := hLW.srow.frozenAt k
  have H := hide h
  have HLW := hide hLW
  have HDW := hide hdW
  have hsb := h.sb
  have hgb := h.gb
  have hsg := h.sg'
  -- the world behind the first store
  obtain ⟨W2, hW2⟩ : ∃ W2, W2 = (W.setCell ⟨sg, k, none⟩ (.slice ao al ac)).drew := ⟨_, rfl⟩
  have hst := hLW.srow.stored k (.slice ao al ac)
  have ho2 : Only (fun j => j = sg) W W2 := by rw [hW2]; exact ((Only.refl (fun j => j = sg) W).setCell (p := ⟨sg, k, none⟩) (fun _ => rfl) _).drew
  have d1 := ho2.cell c1 (fun e => hsb e.symm)
  have n0 := ho2.cell m0 (fun e : w.heap.size = sg => by omega)
  have hb2 := ho2.owns hLW.brow (fun j hj e => by simp only [Value.ownBlock, Option.some.injEq] at hj; exact hsg (hj.trans e).symm)
  obtain ⟨ob, hob⟩ : ∃ ob, (d.secs.map (fun s => Value.bool s.isNone))[k]? = some (.bool ob) := ⟨(d.secs[k]).isNone, by rw [List.getElem?_map, List.getElem?_eq_getElem hp]; rfl⟩
  have t0 : W2.cell? ⟨bg, k, none⟩ = some (.bool ob) := by rw [hb2.cellAt k (by omega), hob]
  have t1 := hb2.frozenAt k
  have hbt := hb2.stored k (.bool false)
  have ho3 : Only (fun j => j = bg) W2 ((W2.setCell ⟨bg, k, none⟩ (.bool false)).drew) := ((Only.refl (fun j => j = bg) W2).setCell (p := ⟨bg, k, none⟩) (fun _ => rfl) _).drew
  have hs3 := ho3.owns (show W2.ownsRow 0 28 1 (.slice (some ⟨sg, 0, none⟩) d.secs.length sc) d.secs.length (svs.set k (.slice ao al ac)) by rw [hW2]; exact hst.1.drew) (fun j hj e => by simp only [Value.ownBlock, Option.some.injEq] at hj; exact hsg (hj.trans e))
  have hoT : Only (fun j => j = sg ∨ j = bg) w ((W2.setCell ⟨bg, k, none⟩ (.bool false)).drew) := ((hoW.mono (fun _ _ e => e.elim)).trans ho2 (fun _ _ e => Or.inl e)).trans ho3 (fun _ _ e => Or.inr e)
  have hfin := h.hit hp (some bs) (svs.set k (.slice ao al ac)) hs3 hbt.1.drew hoT (by
    intro i v hv
    rw [getD_set' _ _ _ _ hp]
    rw [List.getElem?_set] at hv
    by_cases e : k = i
    · rw [if_pos e] at hv ⊢
      rw [if_pos hsl] at hv
      cases hv
      exact (hdv.only hoT (fun j hj => by rcases hj with e | e; exact Or.inr (Or.inl e); exact Or.inr (Or.inr (Or.inl e))))
    · rw [if_neg e] at hv ⊢
      exact (h.sdat i v hv).only hoT (fun j hj => by rcases hj with e | e; exact Or.inr (Or.inl e); exact Or.inr (Or.inr (Or.inl e))))
  have HFN := hide hfin
  have HOT := hide hoT
  have HW2 := hide hW2
  have HW := hide hW
  clear hfin hoT hW2 hW h hLW hdW hst hb2 hbt ho3 hs3 hold hob ho2 hoW hH hdv
  go_enter Try.func36, Try.ntmps36
  go_wp2
  rw [← unhide HW]
  go_region
  go_wp2
  rw [← unhide HW2]
  go_region
  go_end0
  exact ⟨rfl, unhide HFN, unhide HOT⟩
end

end Go.Proofs.Ytjhcmhdekppplaa
