/-
  Contract of disk's Write.
-/
import Derived.Test.YtmcobkcnpnfobaaDkDo
import Derived.Test.YtmcobkcnpnfobaaDkOps
namespace Go.Proofs.Ytmcobkcnpnfobaa
open Go.RowKit
set_option linter.unusedSimpArgs false
set_option linter.unusedVariables false

/-- a load of 65 cells, and a row of one such element, kept whole -/
def loadPen (v : Value) : Sem Value := Instr.loadAt 97 v
def rowPen (v : Value) : Sem Value := Instr.buildSlice 71 1 #[(0, v)]
theorem execOp_loadPen (ρ : Operand → Value) (dst : Option Tmp) (x : Operand) (ty : TypeId) (pos : String) (af : Array Edge) (gd : Option (Nat × Bool)) :
    execOp ρ { dst := dst, op := .load 97 x, type := ty, pos := pos, after := af, guard := gd } = (do pure (.value (← loadPen (ρ x)))) := rfl
theorem execOp_rowPen (ρ : Operand → Value) (dst : Option Tmp) (x : Operand) (ty : TypeId) (pos : String) (af : Array Edge) (gd : Option (Nat × Bool)) :
    execOp ρ { dst := dst, op := .buildSlice 71 1 #[(0, x)], type := ty, pos := pos, after := af, guard := gd } = (do pure (.value (← rowPen (ρ x)))) := by
  unfold execOp rowPen
  simp only [List.map_toArray, List.map_cons, List.map_nil]

section
attribute [local go_sem ↓] execOp_loadPen execOp_rowPen
variable {w : World} {b g cap : Nat} {pv : Value} {d : Dk}

theorem Lie.pushed {w4 : World} {g4 cap4 : Nat} (h : Lie w b g cap pv d) (p : Nat × List UInt8) (own : w4.ownsRow 0 97 65 (.slice (some ⟨g4, 0, none⟩) (d.pend.length + 1) cap4) (d.pend.length + 1) (d.pend.flatMap pen ++ pen p))
    (ho : Only (fun j => pv.ownBlock = some j) w w4) (hat : pv.ownBlock = some g4 ∨ w.heap.size ≤ g4) :
    Lie (w4.setCell ⟨b, 1, none⟩ (.slice (some ⟨g4, 0, none⟩) (d.pend.length + 1) cap4)) b g cap (.slice (some ⟨g4, 0, none⟩) (d.pend.length + 1) cap4) { d with pend := d.pend ++ [p] } ∧
    Only (fun j => j = b ∨ pv.ownBlock = some j) w (w4.setCell ⟨b, 1, none⟩ (.slice (some ⟨g4, 0, none⟩) (d.pend.length + 1) cap4)) := by
  have hbl := lt_of_block h.blk
  have hgl : g < w.heap.size := (h.secs.lt g rfl).2
  have hb4 : g4 ≠ b := by
    rcases hat with e | e
    · intro e2; subst e2; exact h.pb e
    · omega
  have hg4 : g4 ≠ g := by
    rcases hat with e | e
    · intro e2; subst e2; exact h.pg e
    · omega
  have hblk4 := ho.heap h.blk h.pb
  have hs4 : w4.ownsRow 0 101 65 (.slice (some ⟨g, 0, none⟩) d.secs.length cap) d.secs.length (d.secs.flatMap sec) := ho.owns h.secs (fun k hk => by simp only [Value.ownBlock, Option.some.injEq] at hk; subst hk; exact h.pg)
  have hset := (Only.refl (fun k => k = b) w4).here 1 (.slice (some ⟨g4, 0, none⟩) (d.pend.length + 1) cap4)
  refine ⟨⟨?_, ?_, ?_, h.gb, ?_, ?_⟩, ?_⟩
  · rw [five_setCell hblk4]
    rfl
  · exact hset.owns hs4 (fun k hk e => by simp only [Value.ownBlock, Option.some.injEq] at hk; exact h.gb (hk.trans e))
  · have e1 : (d.pend ++ [p]).length = d.pend.length + 1 := by simp
    have e2 : (d.pend ++ [p]).flatMap pen = d.pend.flatMap pen ++ pen p := by simp
    show World.ownsRow _ _ _ _ _ (d.pend ++ [p]).length ((d.pend ++ [p]).flatMap pen)
    rw [e1, e2]
    exact hset.owns own (fun k hk e => by simp only [Value.ownBlock, Option.some.injEq] at hk; exact hb4 (hk.trans e))
  · simp only [Value.ownBlock, ne_eq, Option.some.injEq]
    exact hb4
  · simp only [Value.ownBlock, ne_eq, Option.some.injEq]
    exact hg4
  · exact (ho.mono (fun _ _ e => Or.inr e)).trans hset (fun _ _ e => Or.inl e)

set_option maxRecDepth 100000 in
set_option maxHeartbeats 1000000 in
theorem dkWrite_any (h : Lie w b g cap pv d) (hf : d.Fine) (hwk : d.works ≤ 1000000) (k : Int) (xv : Value) (bs : List UInt8) (hx : Has w xv bs) (hxb : bs ≠ [] → ∀ j, blk xv = some j → j ≠ b) :
    Calls Try.prog 113 #[.pointer (some ⟨b, 0, none⟩), .int .i64 k, xv] w fun e w' => e = .returned (.int .i64 (d.writeE k bs)) ∧ ∃ pv', Lie w' b g cap pv' (d.write k bs) ∧ (pv'.ownBlock = pv.ownBlock ∨ ∃ j, pv'.ownBlock = some j ∧ w.heap.size ≤ j) ∧ Only (fun j => j = b ∨ pv.ownBlock = some j) w w' := by
  obtain ⟨xo, xc, hxv, hlc, hm⟩ := hx.shape
  subst hxv
  have HX := hide hx
  have H := hide h
  have HF := hide hf
  clear hx h hf
  cases ht : d.there k with
  | false =>
    have e1 : d.writeE k bs = 1 := by unfold Dk.writeE; simp [ht]
    have e2 : d.write k bs = d := by unfold Dk.write; simp [ht]
    rw [e1, e2]
    have HT := hide ht
    clear ht e1 e2
    go_enter Try.func113, Try.ntmps113
    go_wp2_with fail
    refine (dkHas_any (unhide H) k).mono ?_
    rintro e w1 ⟨rfl, rfl⟩
    rw [unhide HT]
    go_wp2_with fail
    go_ret
    exact ⟨rfl, pv, unhide H, Or.inl rfl, Only.refl _ _⟩
  | true =>
    by_cases hl : bs.length = 64
    · cases hfe : d.fell with
      | true =>
        have e1 : d.writeE k bs = 9 := by unfold Dk.writeE; simp [ht, hl, hfe]
        have e2 : d.write k bs = d.worked := by unfold Dk.write Dk.worked; simp [ht, hl, hfe]
        rw [e1, e2]
        have HT := hide ht
        have HE := hide hfe
        clear ht e1 e2 hfe
        go_enter Try.func113, Try.ntmps113
        go_wp2_with fail
        refine (dkHas_any (unhide H) k).mono ?_
        rintro e w1 ⟨rfl, rfl⟩
        rw [unhide HT]
        go_wp2_with fail
        refine (dkWork_any (unhide H) (unhide HF) hwk).mono ?_
        rintro e w2 ⟨rfl, h2, ho2⟩
        rw [unhide HE]
        go_wp2_with fail
        go_ret
        exact ⟨rfl, pv, h2, Or.inl rfl, ho2.mono (fun _ _ e => Or.inl e)⟩
      | false =>
        have e1 : d.writeE k bs = 0 := by unfold Dk.writeE; simp [ht, hl, hfe]
        have e2 : d.write k bs = { d.spent with pend := d.pend ++ [(k.toNat, bs)] } := by unfold Dk.write; simp [ht, hl, hfe]
        have e3 : d.worked = d.spent := by unfold Dk.worked; simp [hfe]
        have hk : 0 ≤ k ∧ k < d.secs.length := by simpa [Dk.there] using ht
        obtain ⟨kn, rfl⟩ : ∃ kn : Nat, k = kn := ⟨k.toNat, by omega⟩
        rw [e1, e2]
        have HT := hide ht
        have HE := hide hfe
        have HE3 := hide e3
        clear ht e1 e2 hfe e3 hk
        obtain ⟨i0, hi, hz0, hz1, hz2⟩ := info_parts Try.infoPen
        obtain ⟨zs, hzl, hzp, hbl⟩ : ∃ zs : List Value, zs.length = 64 ∧ (∀ w, (zeroValue 97).run Try.prog w = .ok (.agg (Value.int .i64 0 :: zs).toArray) w) ∧ (Value.int .i64 kn :: zs).all (·.oneCell') = true := ⟨zero64.map bv, rfl, Try.zeroPen, rfl⟩
        go_enter Try.func113, Try.ntmps113
        go_wp2_with fail
        refine (dkHas_any (unhide H) kn).mono ?_
        rintro e w1 ⟨rfl, rfl⟩
        rw [unhide HT]
        go_wp2_with fail
        refine (dkWork_any (unhide H) (unhide HF) hwk).mono ?_
        rintro e w2 ⟨rfl, h2, ho2⟩
        rw [unhide HE]
        rw [unhide HE3] at h2
        have hx2 := (unhide HX).only ho2 (fun hne k hk e => hxb hne k hk e)
        rw [hl] at hx2
        have HX2 := hide hx2
        clear hx2
        have H2 := hide h2
        have HO2 := hide ho2
        clear h2 ho2
        go_wp2_with (first
          | (refine wpList_store_new rfl 97 (.tmp 7) (.tmp 21) rfl w2 (Value.int .i64 0 :: zs).toArray (Value.int .i64 kn :: zs).toArray rfl rfl rfl (by rw [Try.sizePen]; simp [hzl]) (by simp) (by simpa using hbl) ?_)
          | (refine wpList_copy_new rfl (.tmp 23) (.tmp 24) 30 rfl 5 Try.underlying30 Try.size5 w2 97 (Value.int .i64 kn) zs 64 hzl rfl rfl _ bs rfl (unhide HX2) hl (by omega) ?_))
        obtain ⟨W, hW⟩ : ∃ W, W = w2.alloc (.cells (Value.int .i64 kn :: bs.map bv).toArray 97) := ⟨_, rfl⟩
        rw [← hW]
        obtain ⟨ps, hps⟩ : ∃ ps, ps = pen (kn, bs) := ⟨_, rfl⟩
        have hpl : ps.length = 65 := by rw [hps]; exact pen_length hl
        have hp1 : ∀ v ∈ ps, v.oneCell' = true := by rw [hps]; exact pen_one _
        have hr : W.rangeAt w2.heap.size 0 ps := by rw [hW, hps]; exact range_new w2 _ _
        have hl1 : (loadPen (.pointer (some ⟨w2.heap.size, 0, none⟩))).run Try.prog W.drew = .ok (.agg ps.toArray) W.drew :=
          run_loadAt_mid (P := Try.prog) W.drew w2.heap.size 0 97 ps _ (by simpa using hr) Try.underlying97 rfl (by rw [Try.sizePen, hpl])
        have hoW : Only (fun _ => False) w2 W := by rw [hW]; exact (Only.refl _ _).alloc _
        have hLW := (unhide H2).only hoW (fun h => h) (fun h => h) (fun _ _ h => h)
        have hbs : ∀ w', (rowPen (.agg ps.toArray)).run Try.prog w' = .ok (.slice (some ⟨w'.heap.size, 0, none⟩) 1 1) (w'.alloc (.cells ps.toArray 97)) := by rw [hps]; exact buildSlice_pen (kn, bs) hl
        have hbW : b < W.heap.size := lt_of_block hLW.blk
        have hc1 : W.cell? ⟨b, 1, none⟩ = some pv := (cells_five hLW.blk).2.1
        have hc2 : ∀ o, (W.drew.alloc o).cell? ⟨b, 1, none⟩ = some pv := fun o => by rw [World.cell?_alloc_lt _ _ _ (show (⟨b, 1, none⟩ : Addr).block < W.drew.heap.size from hbW)]; exact hc1
        have hfz : W.frozen? ⟨b, 1, none⟩ = false := (cells_five hLW.blk).2.2.2.2.2 1
        have HLW := hide hLW
        have HPS := hide hps
        have HW := hide hW
        clear hps hW hr hLW
        have hmn := (unhide HF).many
        have hfz2 : ∀ o, (W.alloc o).frozen? ⟨b, 1, none⟩ = false := fun o => by rw [World.frozen?_alloc_past _ _ _ (show (⟨b, 1, none⟩ : Addr).block < W.heap.size from hbW)]; exact hfz
        have hpb : pv.ownBlock ≠ some b := (unhide HLW).pb
        have hown : (W.drew.alloc (.cells ps.toArray 97)).ownsRow 0 97 65 pv d.pend.length (d.pend.flatMap pen) := (unhide HLW).pend.drew.alloc _
        have hnews : ∀ j u, ps[j]? = some u → (W.drew.alloc (.cells ps.toArray 97)).cell? ((⟨W.heap.size, 0, none⟩ : Addr).add j) = some u := World.news_of_block (heap_alloc_new W.drew _)
        have hmx : d.pend.length + 1 ≤ maxLen := by unfold maxLen; omega
        have HN := hide hnews
        have HO := hide hown
        clear hnews hown
        go_region_law (refine step_append_lies _ rfl (.tmp 30) (.tmp 32) 71 rfl 0 97 i0 (.agg (pen (0, zero64)).toArray) 65 72 Try.underlying71 hi hz0 hz1 hz2 rfl (by decide) pv d.pend.length (d.pend.flatMap pen) rfl (unhide HO) ⟨W.heap.size, 0, none⟩ 1 1 ps rfl (by rw [hpl]) (unhide HN) hp1 (by decide) hmx (by omega) (Nat.zero_le _) (W.heap.size + 1) (by simp) ?_; intro g4 cap4 w4 own4 gr4 at4 lt4; have c4 : w4.cell? ⟨b, 1, none⟩ = some pv := gr4.cell (hc2 _) (fun e => hpb e.symm); have f4 : w4.frozen? ⟨b, 1, none⟩ = false := (gr4.frozen_far ⟨b, 1, none⟩ (by simp; omega) (fun e => hpb e.symm)).trans (hfz2 _))
        all_goals go_wp2_with fail
        all_goals go_ret
        all_goals
          have ho4 : Only (fun j => pv.ownBlock = some j) W w4 := (((Only.refl _ W).drew).alloc _).grown gr4 (fun k hk _ => hk)
          have hps := unhide HPS
          subst hps
          have hfin := (unhide HLW).pushed (kn, bs) own4 ho4 (by rcases at4 with e | e; exact Or.inl e; exact Or.inr (by omega))
          refine ⟨rfl, .slice (some ⟨g4, 0, none⟩) (d.pend.length + 1) cap4, hfin.1, ?_, ?_⟩
          · rcases at4 with e | e
            · exact Or.inl e.symm
            · exact Or.inr ⟨g4, rfl, by have := (unhide HO2).size; have := hoW.size; omega⟩
          · exact (((unhide HO2).mono (fun _ _ e => Or.inl e)).trans hoW (fun _ _ e => e.elim)).trans hfin.2 (fun _ _ e => e)
    · have e1 : d.writeE k bs = 1 := by unfold Dk.writeE; simp [hl]
      have e2 : d.write k bs = d := by unfold Dk.write; simp [hl]
      rw [e1, e2]
      have HT := hide ht
      have hl' : ¬ (bs.length : Int) = 64 := by omega
      clear ht e1 e2
      go_enter Try.func113, Try.ntmps113
      go_wp2_with fail
      refine (dkHas_any (unhide H) k).mono ?_
      rintro e w1 ⟨rfl, rfl⟩
      rw [unhide HT]
      go_wp2_with fail
      go_ret
      exact ⟨rfl, pv, unhide H, Or.inl rfl, Only.refl _ _⟩
end

end Go.Proofs.Ytmcobkcnpnfobaa
