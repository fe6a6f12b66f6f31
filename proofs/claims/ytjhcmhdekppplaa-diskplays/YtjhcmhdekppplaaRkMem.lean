/-
  The reference's disk as it lies in memory; its small methods.
-/
import Derived.Test.YtjhcmhdekppplaaDkAt
namespace Go.Proofs.Ytjhcmhdekppplaa
open Go.RowKit
set_option linter.unusedSimpArgs false
set_option linter.unusedVariables false

/-- bytes that lie apart from what is written -/
structure RData (w : World) (F : Nat → Prop) (b sg bg : Nat) (pv : Value) (v : Value) (s : Option (List UInt8)) : Prop where
  has : ∀ bs, s = some bs → Has w v bs
  one : v.oneCell' = true
  off : ∀ j, blk v = some j → j ≠ b ∧ j ≠ sg ∧ j ≠ bg ∧ pv.ownBlock ≠ some j ∧ j < w.heap.size ∧ F j

/-- disk d of the reference lies at block b -/
structure RLie (w : World) (F : Nat → Prop) (b sg sc bg bc : Nat) (pv : Value) (d : Dk) (svs : List Value) (dvs : List (Nat × Value)) : Prop where
  blk : w.heap[b]? = some (.cells #[.slice (some ⟨sg, 0, none⟩) d.secs.length sc, .slice (some ⟨bg, 0, none⟩) d.secs.length bc, pv, .int .i64 (max d.fuse (-1)), .bool d.down, .int .i64 d.works] 49 (0, 0))
  srow : w.ownsRow 0 28 1 (.slice (some ⟨sg, 0, none⟩) d.secs.length sc) d.secs.length svs
  brow : w.ownsRow 0 4 1 (.slice (some ⟨bg, 0, none⟩) d.secs.length bc) d.secs.length (d.secs.map (fun s => .bool s.isNone))
  prow : w.ownsRow 0 51 2 pv d.pend.length (dvs.flatMap wrt)
  dlen : dvs.length = d.pend.length
  sb : sg ≠ b
  gb : bg ≠ b
  sg' : sg ≠ bg
  pb : pv.ownBlock ≠ some b
  ps : pv.ownBlock ≠ some sg
  pg : pv.ownBlock ≠ some bg
  fb : F b
  fs : F sg
  fg : F bg
  fp : ∀ k, pv.ownBlock = some k → F k
  sdat : ∀ (k : Nat) (v : Value), svs[k]? = some v → RData w F b sg bg pv v (d.secs.getD k none)
  pdat : ∀ (k : Nat) (p : Nat × List UInt8), d.pend[k]? = some p → ∃ dv, dvs[k]? = some (p.1, dv) ∧ RData w F b sg bg pv dv (some p.2)

theorem cells_six {w : World} {b : Nat} {c0 c1 c2 c3 c4 c5 : Value} {t : TypeId} (h : w.heap[b]? = some (.cells #[c0, c1, c2, c3, c4, c5] t (0, 0))) :
    w.cell? ⟨b, 0, none⟩ = some c0 ∧ w.cell? ⟨b, 1, none⟩ = some c1 ∧ w.cell? ⟨b, 2, none⟩ = some c2 ∧ w.cell? ⟨b, 3, none⟩ = some c3 ∧ w.cell? ⟨b, 4, none⟩ = some c4 ∧ w.cell? ⟨b, 5, none⟩ = some c5 ∧ ∀ i, w.frozen? ⟨b, i, none⟩ = false := by
  simp [World.cell?, World.frozen?, h]

section
variable {w w' : World} {F : Nat → Prop} {b sg sc bg bc : Nat} {pv : Value} {d : Dk} {svs : List Value} {dvs : List (Nat × Value)}

theorem RData.only {S : Nat → Prop} {v : Value} {s : Option (List UInt8)} (h : RData w F b sg bg pv v s) (ho : Only S w w') (hS : ∀ j, S j → j = b ∨ j = sg ∨ j = bg ∨ pv.ownBlock = some j ∨ ¬ F j) : RData w' F b sg bg pv v s :=
  ⟨fun bs e => (h.has bs e).only ho (fun _ k hk hs => by
      obtain ⟨n1, n2, n3, n4, _, n6⟩ := h.off k hk
      rcases hS k hs with e | e | e | e | e
      · exact n1 e
      · exact n2 e
      · exact n3 e
      · exact n4 e
      · exact e n6), h.one, fun j hj => by
    obtain ⟨n1, n2, n3, n4, n5, n6⟩ := h.off j hj
    exact ⟨n1, n2, n3, n4, Nat.lt_of_lt_of_le n5 ho.size, n6⟩⟩

theorem RLie.only {S : Nat → Prop} (h : RLie w F b sg sc bg bc pv d svs dvs) (ho : Only S w w') (hS : ∀ j, S j → ¬ F j) : RLie w' F b sg sc bg bc pv d svs dvs :=
  ⟨ho.heap h.blk (fun e => hS _ e h.fb), ho.owns h.srow (fun k hk e => by simp only [Value.ownBlock, Option.some.injEq] at hk; subst hk; exact hS _ e h.fs),
    ho.owns h.brow (fun k hk e => by simp only [Value.ownBlock, Option.some.injEq] at hk; subst hk; exact hS _ e h.fg), ho.owns h.prow (fun k hk e => hS _ e (h.fp k hk)),
    h.dlen, h.sb, h.gb, h.sg', h.pb, h.ps, h.pg, h.fb, h.fs, h.fg, h.fp, fun k v hv => (h.sdat k v hv).only ho (fun j hj => Or.inr (Or.inr (Or.inr (Or.inr (hS j hj))))),
    fun k p hp => by
      obtain ⟨dv, e, hd⟩ := h.pdat k p hp
      exact ⟨dv, e, hd.only ho (fun j hj => Or.inr (Or.inr (Or.inr (Or.inr (hS j hj)))))⟩⟩

/-- cells of the disk's own block alone were set -/
theorem RLie.set {d' : Dk} (h : RLie w F b sg sc bg bc pv d svs dvs) (ho : Only (fun k => k = b) w w') (hs : d'.secs = d.secs) (hp : d'.pend = d.pend)
    (hb : w'.heap[b]? = some (.cells #[.slice (some ⟨sg, 0, none⟩) d.secs.length sc, .slice (some ⟨bg, 0, none⟩) d.secs.length bc, pv, .int .i64 (max d'.fuse (-1)), .bool d'.down, .int .i64 d'.works] 49 (0, 0))) : RLie w' F b sg sc bg bc pv d' svs dvs := by
  refine ⟨by rw [hs]; exact hb, ?_, ?_, ?_, by rw [hp]; exact h.dlen, h.sb, h.gb, h.sg', h.pb, h.ps, h.pg, h.fb, h.fs, h.fg, h.fp, ?_, ?_⟩
  · rw [hs]; exact ho.owns h.srow (fun k hk => by simp only [Value.ownBlock, Option.some.injEq] at hk; subst hk; exact h.sb)
  · rw [hs]; exact ho.owns h.brow (fun k hk => by simp only [Value.ownBlock, Option.some.injEq] at hk; subst hk; exact h.gb)
  · rw [hp]; exact ho.owns h.prow (fun k hk e => h.pb (by rw [hk, e]))
  · rw [hs]; exact fun k v hv => (h.sdat k v hv).only ho (fun j hj => Or.inl hj)
  · rw [hp]
    intro k p hq
    obtain ⟨dv, e, hd⟩ := h.pdat k p hq
    exact ⟨dv, e, hd.only ho (fun j hj => Or.inl hj)⟩

theorem six_setCell {i : Nat} {cs : Array Value} {u : Value} {t : TypeId} (h : w.heap[b]? = some (.cells cs t (0, 0))) : (w.setCell ⟨b, i, none⟩ u).heap[b]? = some (.cells (cs.setIfInBounds i u) t (0, 0)) := two_setCell h

theorem rkDown_any (h : RLie w F b sg sc bg bc pv d svs dvs) : Calls Try.prog 28 #[.pointer (some ⟨b, 0, none⟩)] w fun e w' => e = .returned (.bool d.down) ∧ w' = w := by
  obtain ⟨c0, c1, c2, c3, c4, c5, fz⟩ := cells_six h.blk
  clear h
  go_enter Try.func28, Try.ntmps28
  go_wp2
  go_ret
  exact ⟨rfl, rfl⟩

theorem rkFuse_any (h : RLie w F b sg sc bg bc pv d svs dvs) (n : Int) : Calls Try.prog 23 #[.pointer (some ⟨b, 0, none⟩), .int .i64 n] w fun e w' => e = .returned (.tuple #[]) ∧ RLie w' F b sg sc bg bc pv (d.fused n) svs dvs ∧ Only (fun k => k = b) w w' := by
  obtain ⟨c0, c1, c2, c3, c4, c5, fz⟩ := cells_six h.blk
  have H := hide h
  clear h
  have ho := (Only.refl (fun k => k = b) w).here 3 (.int .i64 (max n (-1)))
  have hfin := (unhide H).set (d' := d.fused n) ho rfl rfl (by rw [six_setCell (unhide H).blk]; rfl)
  have HFN := hide hfin
  have HO := hide ho
  clear hfin ho
  by_cases hn : n < -1
  · have e : max n (-1) = -1 := by omega
    rw [e] at HFN HO
    have hn' : ¬ -1 < n := by omega
    clear e
    go_enter Try.func23, Try.ntmps23
    go_wp2
    go_end0
    exact ⟨rfl, unhide HFN, unhide HO⟩
  · have e : max n (-1) = n := by omega
    rw [e] at HFN HO
    clear e
    go_enter Try.func23, Try.ntmps23
    go_wp2
    go_end0
    exact ⟨rfl, unhide HFN, unhide HO⟩

theorem rkWork_any (h : RLie w F b sg sc bg bc pv d svs dvs) (hf : d.Fine) (hw : d.works ≤ 1000000) : Calls Try.prog 35 #[.pointer (some ⟨b, 0, none⟩)] w fun e w' => e = .returned (.bool (!d.fell)) ∧ RLie w' F b sg sc bg bc pv d.worked svs dvs ∧ Only (fun k => k = b) w w' := by
  obtain ⟨c0, c1, c2, c3, c4, c5, fz⟩ := cells_six h.blk
  have H := hide h
  have hl1 := hf.f1
  have hl2 := hf.f2
  clear h
  cases hd : d.down with
  | true =>
    have e1 : d.fell = true := by unfold Dk.fell; simp [hd]
    have e2 : d.worked = d.felled := by unfold Dk.worked; simp [e1]
    rw [e1, e2]
    rw [hd] at c4
    have ho := (Only.refl (fun k => k = b) w).here 4 (.bool true)
    have HFN := hide ((unhide H).set (d' := d.felled) ho rfl rfl (by rw [six_setCell (unhide H).blk]; rfl))
    have HO := hide ho
    clear hd e1 e2 ho
    go_enter Try.func35, Try.ntmps35
    go_wp2
    go_ret
    exact ⟨rfl, unhide HFN, unhide HO⟩
  | false =>
    rw [hd] at c4
    by_cases h0 : d.fuse = 0
    · have e1 : d.fell = true := by unfold Dk.fell; simp [h0]
      have e2 : d.worked = d.felled := by unfold Dk.worked; simp [e1]
      rw [e1, e2]
      have e3 : max d.fuse (-1) = 0 := by omega
      rw [e3] at c3
      have ho := (Only.refl (fun k => k = b) w).here 4 (.bool true)
      have HFN := hide ((unhide H).set (d' := d.felled) ho rfl rfl (by rw [six_setCell (unhide H).blk]; rfl))
      have HO := hide ho
      clear hd e1 e2 e3 ho h0
      go_enter Try.func35, Try.ntmps35
      go_wp2
      go_ret
      exact ⟨rfl, unhide HFN, unhide HO⟩
    · have e1 : d.fell = false := by unfold Dk.fell; simp [hd, h0]
      have e2 : d.worked = d.spent := by unfold Dk.worked; simp [e1]
      rw [e1, e2]
      by_cases hp : 0 < d.fuse
      · have e3 : max d.fuse (-1) = d.fuse := by omega
        rw [e3] at c3
        have ho := ((Only.refl (fun k => k = b) w).here 3 (.int .i64 (d.fuse - 1))).here 5 (.int .i64 (d.works + 1))
        have hs1 : max d.spent.fuse (-1) = d.fuse - 1 := by show max (if 0 < d.fuse then d.fuse - 1 else d.fuse) (-1) = _; rw [if_pos hp]; omega
        have HFN := hide ((unhide H).set (d' := d.spent) ho rfl rfl (by rw [six_setCell (six_setCell (unhide H).blk), hs1]; rfl))
        have HO := hide ho
        clear hd e1 e2 e3 ho hs1
        go_enter Try.func35, Try.ntmps35
        go_wp2
        go_ret
        exact ⟨rfl, unhide HFN, unhide HO⟩
      · have e3 : max d.fuse (-1) = -1 := by omega
        rw [e3] at c3
        have ho := (Only.refl (fun k => k = b) w).here 5 (.int .i64 (d.works + 1))
        have hs1 : max d.spent.fuse (-1) = max d.fuse (-1) := by show max (if 0 < d.fuse then d.fuse - 1 else d.fuse) (-1) = _; rw [if_neg hp]
        have HFN := hide ((unhide H).set (d' := d.spent) ho rfl rfl (by rw [six_setCell (unhide H).blk, hs1]; rfl))
        have HO := hide ho
        clear hd e1 e2 e3 ho hs1 hp
        go_enter Try.func35, Try.ntmps35
        go_wp2
        go_ret
        exact ⟨rfl, unhide HFN, unhide HO⟩
end

end Go.Proofs.Ytjhcmhdekppplaa
