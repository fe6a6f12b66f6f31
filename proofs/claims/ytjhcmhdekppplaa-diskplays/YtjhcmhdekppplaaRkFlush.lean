/-
  The reference's Flush, Crash.
-/
import Derived.Test.YtjhcmhdekppplaaRkDo
import Derived.Test.YtjhcmhdekppplaaDkCrash
namespace Go.Proofs.Ytjhcmhdekppplaa
open Go.RowKit
set_option linter.unusedSimpArgs false
set_option linter.unusedVariables false

section
variable {w w' : World} {F : Nat → Prop} {b sg sc bg bc : Nat} {pv : Value} {d : Dk} {svs : List Value} {dvs : List (Nat × Value)}

/-- what pends is done or lost: the list is empty then -/
theorem RLie.emptied {d' : Dk} (h : RLie w F b sg sc bg bc pv d svs dvs) (hs : d'.secs = d.secs) (hp : d'.pend = []) (ho : Only (fun k => k = b) w w')
    (hb : w'.heap[b]? = some (.cells #[.slice (some ⟨sg, 0, none⟩) d.secs.length sc, .slice (some ⟨bg, 0, none⟩) d.secs.length bc, .slice none 0 0, .int .i64 (max d'.fuse (-1)), .bool d'.down, .int .i64 d'.works] 49 (0, 0))) : RLie w' F b sg sc bg bc (.slice none 0 0) d' svs [] := by
  refine ⟨by rw [hs]; exact hb, ?_, ?_, ?_, by rw [hp]; rfl, h.sb, h.gb, h.sg', by simp [Value.ownBlock], by simp [Value.ownBlock], by simp [Value.ownBlock], h.fb, h.fs, h.fg, fun k hk => (by cases hk), ?_, ?_⟩
  · rw [hs]; exact ho.owns h.srow (fun k hk => by simp only [Value.ownBlock, Option.some.injEq] at hk; subst hk; exact h.sb)
  · rw [hs]; exact ho.owns h.brow (fun k hk => by simp only [Value.ownBlock, Option.some.injEq] at hk; subst hk; exact h.gb)
  · rw [hp]; exact World.ownsRow_nil _ _ _ _
  · rw [hs]
    intro k v hv
    have hx := (h.sdat k v hv).only ho (fun j hj => Or.inl hj)
    exact ⟨hx.has, hx.one, fun j hj => by
      obtain ⟨n1, n2, n3, n4, n5, n6⟩ := hx.off j hj
      exact ⟨n1, n2, n3, by simp [Value.ownBlock], n5, n6⟩⟩
  · rw [hp]
    intro k p hq
    cases k <;> cases hq

/-- the k-th of what pends, as cells -/
theorem RLie.pendAt (h : RLie w F b sg sc bg bc pv d svs dvs) {k : Nat} {p : Nat × List UInt8} (hp : d.pend[k]? = some p) : ∃ dv pg pc, pv = .slice (some ⟨pg, 0, none⟩) d.pend.length pc ∧ dvs[k]? = some (p.1, dv) ∧ RData w F b sg bg pv dv (some p.2) ∧ w.cell? ⟨pg, k * 2, none⟩ = some (.int .i64 p.1) ∧ w.cell? ⟨pg, k * 2 + 1, none⟩ = some dv := by
  obtain ⟨dv, hdv, hdat⟩ := h.pdat k p hp
  have hk : k < d.pend.length := (List.getElem?_eq_some_iff.1 hp).1
  obtain ⟨po, pc, hpv⟩ := ownsRow_shape h.prow
  obtain ⟨pg, rfl⟩ := row_form (n := d.pend.length) (by rw [← hpv]; exact h.prow) (by omega)
  have hr := row_range (f := wrt) (by rw [← hpv]; exact h.prow) (fun x _ => wrt_length x) h.dlen k (p.1, dv) hdv
  exact ⟨dv, pg, pc, hpv, hdv, hdat, by simpa using hr 0 _ rfl, hr 1 _ rfl⟩

set_option maxRecDepth 100000 in
set_option maxHeartbeats 1000000 in
theorem rkFlush_any (h : RLie w F b sg sc bg bc pv d svs dvs) (hf : d.Fine) (hwk : d.works ≤ 1000000) :
    Calls Try.prog 20 #[.pointer (some ⟨b, 0, none⟩)] w fun e w' => e = .returned (.int .i64 d.flushE) ∧ (∃ pv' svs' dvs', RLie w' F b sg sc bg bc pv' d.flush svs' dvs') ∧ Only (fun j => j = b ∨ j = sg ∨ j = bg) w w' := by
  have H := hide h
  have HF := hide hf
  have hmn := hf.many
  clear h hf
  cases hfe : d.fell with
  | true =>
    have e1 : d.flushE = 9 := by unfold Dk.flushE; simp [hfe]
    have e2 : d.flush = d.worked := by unfold Dk.flush Dk.worked; simp [hfe]
    rw [e1, e2]
    have HE := hide hfe
    clear e1 e2 hfe
    go_enter Try.func20, Try.ntmps20
    go_wp2_with fail
    refine (rkWork_any (unhide H) (unhide HF) hwk).mono ?_
    rintro e w2 ⟨rfl, h2, ho2⟩
    rw [unhide HE]
    go_wp2_with fail
    go_ret
    exact ⟨rfl, ⟨pv, svs, dvs, h2⟩, ho2.mono (fun _ _ e => Or.inl e)⟩
  | false =>
    have e1 : d.flushE = 0 := by unfold Dk.flushE; simp [hfe]
    have e2 : d.flush = { d.spent with secs := d.secs.putAll d.pend, pend := [] } := by unfold Dk.flush; simp [hfe]
    have e3 : d.worked = d.spent := by unfold Dk.worked; simp [hfe]
    rw [e1, e2]
    have HE := hide hfe
    have HE3 := hide e3
    clear e1 e2 hfe e3
    go_enter Try.func20, Try.ntmps20
    go_wp2_with fail
    refine (rkWork_any (unhide H) (unhide HF) hwk).mono ?_
    rintro e w2 ⟨rfl, h2, ho2⟩
    rw [unhide HE]
    rw [unhide HE3] at h2
    have H2 := hide h2
    have HO2 := hide ho2
    clear h2 ho2
    go_wp2_with fail
    go_loopw [3] (fun i wr => ∃ (k : Nat) (svs' : List Value), k ≤ d.pend.length ∧ i = .int .i64 k ∧ RLie wr F b sg sc bg bc pv { d.spent with secs := d.secs.putAll (d.pend.take k) } svs' dvs ∧ Only (fun j => j = sg ∨ j = bg) w2 wr) (fun i _ => d.pend.length - (intOf i).toNat)
    case atStart => exact ⟨0, svs, Nat.zero_le _, rfl, unhide H2, Only.refl _ _⟩
    case round =>
      obtain ⟨k, svs', hk, rfl, hL, ho⟩ := hrel
      obtain ⟨po, pc, hpv⟩ := ownsRow_shape hL.prow
      obtain ⟨c0, c1, c2, c3, c4, c5, fz⟩ := cells_six hL.blk
      rw [hpv] at c2
      rw [show ({ d.spent with secs := d.secs.putAll (d.pend.take k) } : Dk).pend = d.pend from rfl] at c2 hpv
      by_cases hlt : k < d.pend.length
      · have hpk : d.pend[k]? = some d.pend[k] := List.getElem?_eq_getElem hlt
        generalize d.pend[k] = p at hpk
        have hpf := (unhide HF).pend p (List.mem_of_getElem? hpk)
        obtain ⟨dv, pg, pc', hpv2, hdv, hdat, q0, q1⟩ := hL.pendAt (k := k) (p := p) hpk
        rw [hpv] at hpv2
        simp only [Value.slice.injEq, true_and] at hpv2
        obtain ⟨rfl, hbad, rfl⟩ := hpv2
        clear hbad
        have HL := hide hL
        have HPK := hide hpk
        have HDT := hide hdat
        have HPV := hide hpv
        clear hL hpk hdat hpv hdv
        have hlt' : (k : Int) < (d.pend.length : Int) := by omega
        obtain ⟨pk, bs⟩ := p
        simp only at q0
        go_wp2_with fail
        refine (rkDo_any (unhide HL) (pk, bs) (by show pk < (d.secs.putAll (d.pend.take k)).length; rw [Secs.putAll_length]; exact hpf.1) dv (unhide HDT)).mono ?_
        rintro e w5 ⟨rfl, h5, ho5⟩
        have H5 := hide h5
        have HO5 := hide ho5
        clear h5 ho5
        go_wp2_with fail
        go_roundw
        case rel =>
          refine ⟨k + 1, svs'.set pk dv, by omega, by go_num, ?_, ho.trans (unhide HO5) (fun _ _ e => e)⟩
          rw [Secs.putAll_take _ _ _ _ (unhide HPK)]
          exact unhide H5
        case measure => simp [intOf]; omega
      · obtain rfl : k = d.pend.length := by omega
        rw [List.take_length] at hL
        have HL := hide hL
        clear hL
        go_wp2_with fail
        go_ret
        have hset := (Only.refl (fun k => k = b) wr).here 2 (.slice none 0 0)
        refine ⟨rfl, ⟨.slice none 0 0, svs', [], (unhide HL).emptied (d' := { d.spent with secs := d.secs.putAll d.pend, pend := [] }) rfl rfl hset (by rw [six_setCell (unhide HL).blk]; rfl)⟩, ?_⟩
        exact (((unhide HO2).mono (fun _ _ e => Or.inl e)).trans ho (fun _ _ e => Or.inr e)).trans hset (fun _ _ e => Or.inl e)

set_option maxRecDepth 100000 in
set_option maxHeartbeats 2000000 in
theorem rkCrash_any (h : RLie w F b sg sc bg bc pv d svs dvs) (hf : d.Fine) (hwk : d.works ≤ 1000000) (fv : Value) (fs : List Int) (hfs : HasV w fv (fs.map (.int .i64))) (hfb : fs ≠ [] → ∀ j, blk fv = some j → ¬ F j) :
    Calls Try.prog 24 #[.pointer (some ⟨b, 0, none⟩), fv] w fun e w' => e = .returned (.tuple #[]) ∧ (∃ pv' svs' dvs', RLie w' F b sg sc bg bc pv' (d.crash fs) svs' dvs') ∧ Only (fun j => j = b ∨ j = sg ∨ j = bg) w w' := by
  have H := hide h
  have HF := hide hf
  have HFS := hide hfs
  have HFB := hide hfb
  have hmn := hf.many
  have hFs := h.fs
  have hFg := h.fg
  obtain ⟨fo, fc, rfl, hfl, hfm⟩ := hfs.shape
  rw [List.length_map] at hfl HFS HFB ⊢
  have hfm' : fs.length ≤ 9223372036854775807 := by unfold maxLen at hfm; omega
  clear h hf hfs hfb hfm
  go_enter Try.func24, Try.ntmps24
  go_wp2_with fail
  go_loopw [4] (fun i wr => ∃ (k : Nat) (svs' : List Value), k ≤ d.pend.length ∧ i = .int .i64 k ∧ RLie wr F b sg sc bg bc pv { d with secs := crashTo fs d.pend d.secs k } svs' dvs ∧ Only (fun j => j = sg ∨ j = bg) w wr) (fun i _ => d.pend.length - (intOf i).toNat)
  case atStart => exact ⟨0, svs, Nat.zero_le _, rfl, unhide H, Only.refl _ _⟩
  case round =>
    obtain ⟨k, svs', hk, rfl, hL, ho⟩ := hrel
    obtain ⟨po, pc, hpv⟩ := ownsRow_shape hL.prow
    obtain ⟨c0, c1, c2, c3, c4, c5, fz⟩ := cells_six hL.blk
    rw [hpv] at c2
    rw [show ({ d with secs := crashTo fs d.pend d.secs k } : Dk).pend = d.pend from rfl] at c2 hpv
    by_cases hlt : k < d.pend.length
    · have hpk : d.pend[k]? = some d.pend[k] := List.getElem?_eq_getElem hlt
      generalize d.pend[k] = p at hpk
      have hpf := (unhide HF).pend p (List.mem_of_getElem? hpk)
      obtain ⟨dv, pg, pc', hpv2, hdv, hdat, q0, q1⟩ := hL.pendAt (k := k) (p := p) hpk
      rw [hpv] at hpv2
      simp only [Value.slice.injEq, true_and] at hpv2
      obtain ⟨rfl, rfl⟩ := hpv2
      have hst := crashTo_step fs d.pend d.secs k p hpk
      have hsl := crashTo_length fs d.pend d.secs k
      have hFS := (unhide HFS).only ho (fun hne j hj e => by
        have hnf := unhide HFB (fun e2 => hne (by rw [e2]; rfl)) j hj
        rcases e with e | e
        · exact hnf (e ▸ hFs)
        · exact hnf (e ▸ hFg))
      have HL := hide hL
      have HDT := hide hdat
      have HPV := hide hpv
      have HS := hide hst
      have HSL := hide hsl
      have hlt' : (k : Int) < (d.pend.length : Int) := by omega
      clear hL hpk hdat hpv hdv hst hsl
      obtain ⟨pk, bs⟩ := p
      simp only at q0 hpf
      -- the fate, as the code reckons it
      have hth := fate_three fs k
      by_cases hkl : k < fs.length
      · have hkl' : (k : Int) < (fs.length : Int) := by omega
        obtain ⟨bb, off, rfl, hbad, hc⟩ := hFS.at (by omega)
        clear hbad
        have hck := hc k (by simpa using hkl)
        simp only [List.getElem_map] at hck
        have hfa : fate fs k = fs[k] % 3 := by unfold fate; rw [List.getElem?_eq_getElem hkl]
        generalize fs[k] = f at hck hfa
        clear hc hFS
        have hb1 : -3 < f.tmod 3 := by have := Int.lt_tmod_of_pos f (show (0:Int) < 3 by decide); omega
        have hb2 : f.tmod 3 < 3 := Int.tmod_lt_of_pos f (by decide)
        have hfo := fate_of (f := f)
        rw [← hfa] at hfo
        rcases hth with hc0 | hc1 | hc2
        · rw [hc0] at hfo HS
          clear hc0 hfa
          go_wp2_with fail
          refine (rkDo_any (unhide HL) (pk, bs) (by show pk < (crashTo fs d.pend d.secs k).length; rw [unhide HSL]; exact hpf.1) dv (unhide HDT)).mono ?_
          rintro e w5 ⟨rfl, h5, ho5⟩
          have H5 := hide h5
          have HO5 := hide ho5
          clear h5 ho5
          go_wp2_with fail
          go_roundw
          case rel =>
            refine ⟨k + 1, svs'.set pk dv, by omega, by go_num, ?_, ho.trans (unhide HO5) (fun _ _ e => e)⟩
            rw [unhide HS]
            exact unhide H5
          case measure => simp [intOf]; omega
        · rw [hc1] at hfo HS
          clear hc1 hfa
          go_wp2_with fail
          go_roundw
          case rel =>
            refine ⟨k + 1, svs', by omega, by go_num, ?_, ho⟩
            rw [unhide HS]
            exact unhide HL
          case measure => simp [intOf]; omega
        · rw [hc2] at hfo HS
          clear hc2 hfa
          have hpl : pk < (crashTo fs d.pend d.secs k).length := by rw [unhide HSL]; exact hpf.1
          have hpl' : (pk : Int) < ((crashTo fs d.pend d.secs k).length : Int) := by omega
          have hp0 : (0 : Int) ≤ (pk : Int) := Int.natCast_nonneg _
          obtain ⟨ob, hob⟩ : ∃ ob, ((crashTo fs d.pend d.secs k).map (fun s => Value.bool s.isNone))[pk]? = some (.bool ob) := ⟨((crashTo fs d.pend d.secs k)[pk]).isNone, by rw [List.getElem?_map, List.getElem?_eq_getElem hpl]; rfl⟩
          have t0 : wr.cell? ⟨bg, pk, none⟩ = some (.bool ob) := by rw [(unhide HL).brow.cellAt pk (by show pk < (crashTo fs d.pend d.secs k).length * 1; omega)]; exact hob
          have t1 := (unhide HL).brow.frozenAt pk
          have hbt := (unhide HL).brow.stored pk (.bool true)
          have ho2 : Only (fun j => j = bg) wr ((wr.setCell ⟨bg, pk, none⟩ (.bool true)).drew) := ((Only.refl (fun j => j = bg) wr).setCell (p := ⟨bg, pk, none⟩) (fun _ => rfl) _).drew
          have hs2 := ho2.owns (unhide HL).srow (fun j hj e => by simp only [Value.ownBlock, Option.some.injEq] at hj; exact (unhide HL).sg' (hj.trans e))
          have hfin := (unhide HL).hit (k := pk) hpl none svs' hs2 hbt.1.drew (ho2.mono (fun _ _ e => Or.inr e)) (by
            intro i v hv
            have hx := ((unhide HL).sdat i v hv).only ho2 (fun j hj => Or.inr (Or.inr (Or.inl hj)))
            show RData _ _ _ _ _ _ _ ((List.set (crashTo fs d.pend d.secs k) pk none).getD i none)
            rw [getD_set' _ _ _ _ hpl]
            by_cases e : pk = i
            · rw [if_pos e]
              exact ⟨fun bs e => (by cases e), hx.one, hx.off⟩
            · rw [if_neg e]
              exact hx)
          have HFN := hide hfin
          have HO2 := hide ho2
          clear hfin ho2 hs2 hbt hob
          go_wp2_with fail
          go_region
          go_wp2_with fail
          go_roundw
          case rel =>
            refine ⟨k + 1, svs', by omega, by go_num, ?_, ho.trans ((unhide HO2).mono (fun _ _ e => Or.inr e)) (fun _ _ e => e)⟩
            rw [unhide HS]
            exact unhide HFN
          case measure => simp [intOf]; omega
      · have hkl' : ¬ (k : Int) < (fs.length : Int) := by omega
        have hfa : fate fs k = 1 := by unfold fate; rw [List.getElem?_eq_none (by omega)]
        rw [hfa] at HS
        clear hth hfa hFS
        go_wp2_with fail
        go_roundw
        case rel =>
          refine ⟨k + 1, svs', by omega, by go_num, ?_, ho⟩
          rw [unhide HS]
          exact unhide HL
        case measure => simp [intOf]; omega
    · obtain rfl : k = d.pend.length := by omega
      have HL := hide hL
      clear hL
      go_wp2_with fail
      go_end0
      have hset := (((Only.refl (fun k => k = b) wr).here 2 (.slice none 0 0)).here 4 (.bool false)).here 3 (.int .i64 (-1))
      refine ⟨rfl, ⟨.slice none 0 0, svs', [], (unhide HL).emptied (d' := d.crash fs) rfl rfl hset (by rw [six_setCell (six_setCell (six_setCell (unhide HL).blk))]; rfl)⟩, ?_⟩
      exact (ho.mono (fun _ _ e => Or.inr e)).trans hset (fun _ _ e => Or.inl e)
end

end Go.Proofs.Ytjhcmhdekppplaa
