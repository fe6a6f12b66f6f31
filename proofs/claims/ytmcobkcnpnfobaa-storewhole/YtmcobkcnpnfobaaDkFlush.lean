/-
  Contracts of disk's Flush, fateOf, Crash.
-/
import Derived.Test.YtmcobkcnpnfobaaDkWrite
namespace Go.Proofs.Ytmcobkcnpnfobaa
open Go.RowKit
set_option linter.unusedSimpArgs false
set_option linter.unusedVariables false

section
variable {w : World} {b g cap : Nat} {pv : Value} {d : Dk}

/-- what pends is done or lost: the list is empty then -/
theorem Lie.emptied {d' : Dk} (h : Lie w b g cap pv d) (hs : d'.secs = d.secs) (hp : d'.pend = []) {w' : World} (ho : Only (fun k => k = b) w w')
    (hb : w'.heap[b]? = some (.cells #[.slice (some ⟨g, 0, none⟩) d.secs.length cap, .slice none 0 0, .int .i64 d'.fuse, .bool d'.down, .int .i64 d'.works] 73 (0, 0))) : Lie w' b g cap (.slice none 0 0) d' := by
  refine ⟨by rw [hs]; exact hb, ?_, ?_, h.gb, by simp [Value.ownBlock], by simp [Value.ownBlock]⟩
  · rw [hs]
    exact ho.owns h.secs (fun k hk => by simp only [Value.ownBlock, Option.some.injEq] at hk; subst hk; exact h.gb)
  · rw [hp]
    exact World.ownsRow_nil _ _ _ _

theorem row_form {po : Option Addr} {pc n e m : Nat} {xs : List Value} (own : w.ownsRow 0 e m (.slice po n pc) n xs) (h0 : 0 < n) : ∃ pg, po = some ⟨pg, 0, none⟩ := by
  obtain ⟨pg, pc, hv, _⟩ := own.form h0
  simp only [Value.slice.injEq] at hv
  exact ⟨pg, hv.1⟩

theorem pend_shape (h : Lie w b g cap pv d) : ∃ po pc, pv = .slice po d.pend.length pc := ownsRow_shape h.pend

set_option maxRecDepth 100000 in
set_option maxHeartbeats 1000000 in
theorem dkFlush_any (h : Lie w b g cap pv d) (hf : d.Fine) (hwk : d.works ≤ 1000000) :
    Calls Try.prog 114 #[.pointer (some ⟨b, 0, none⟩)] w fun e w' => e = .returned (.int .i64 d.flushE) ∧ ∃ pv', Lie w' b g cap pv' d.flush ∧ (pv'.ownBlock = pv.ownBlock ∨ pv'.ownBlock = none) ∧ Only (fun j => j = b ∨ j = g) w w' := by
  have H := hide h
  have HF := hide hf
  have hmn := hf.many
  clear h hf
  cases hfe : d.fell with
  | true =>
    have e1 : d.flushE = 9 := by unfold Dk.flushE; simp [hfe]
    have e2 : d.flush = d.worked := by unfold Dk.flush Dk.worked; simp [hfe]
    rw [e1, e2]
    have HE := hide hfe
    clear e1 e2 hfe
    go_enter Try.func114, Try.ntmps114
    go_wp2_with fail
    refine (dkWork_any (unhide H) (unhide HF) hwk).mono ?_
    rintro e w2 ⟨rfl, h2, ho2⟩
    rw [unhide HE]
    go_wp2_with fail
    go_ret
    exact ⟨rfl, pv, h2, Or.inl rfl, ho2.mono (fun _ _ e => Or.inl e)⟩
  | false =>
    have e1 : d.flushE = 0 := by unfold Dk.flushE; simp [hfe]
    have e2 : d.flush = { d.spent with secs := d.secs.putAll d.pend, pend := [] } := by unfold Dk.flush; simp [hfe]
    have e3 : d.worked = d.spent := by unfold Dk.worked; simp [hfe]
    rw [e1, e2]
    have HE := hide hfe
    have HE3 := hide e3
    clear e1 e2 hfe e3
    obtain ⟨po, pc, hpv⟩ := pend_shape (unhide H)
    subst hpv
    obtain ⟨zs, hzl, hzp, hbl⟩ : ∃ zs : List Value, zs.length = 64 ∧ (∀ w, (zeroValue 97).run Try.prog w = .ok (.agg (Value.int .i64 0 :: zs).toArray) w) ∧ zs.all (·.oneCell') = true := ⟨zero64.map bv, rfl, Try.zeroPen, rfl⟩
    go_enter Try.func114, Try.ntmps114
    go_wp2_with fail
    refine (dkWork_any (unhide H) (unhide HF) hwk).mono ?_
    rintro e w2 ⟨rfl, h2, ho2⟩
    rw [unhide HE]
    rw [unhide HE3] at h2
    obtain ⟨c0, c1, c2, c3, c4, fz⟩ := cells_five h2.blk
    have H2 := hide h2
    have HO2 := hide ho2
    clear h2 ho2
    go_wp2_with fail
    go_loopw [13] (fun i wr => ∃ k : Nat, k ≤ d.pend.length ∧ i = .int .i64 k ∧ Lie wr b g cap (.slice po d.pend.length pc) { d.spent with secs := d.secs.putAll (d.pend.take k) } ∧ Only (fun j => j = g) w2 wr) (fun i _ => d.pend.length - (intOf i).toNat)
    case atStart => exact ⟨0, Nat.zero_le _, rfl, unhide H2, Only.refl _ _⟩
    case round =>
      obtain ⟨k, hk, rfl, hL, ho⟩ := hrel
      by_cases hlt : k < d.pend.length
      · have hpk : d.pend[k]? = some d.pend[k] := List.getElem?_eq_getElem hlt
        generalize d.pend[k] = p at hpk
        have hpf := (unhide HF).pend p (List.mem_of_getElem? hpk)
        obtain ⟨pg, rfl⟩ := row_form (n := d.pend.length) hL.pend (by omega)
        have hrng := row_range hL.pend (fun x hx => pen_length ((unhide HF).pend x hx).2) rfl k p hpk
        have hpl := pen_length hpf.2
        have hp1 := pen_one p
        obtain ⟨ps, hps⟩ : ∃ ps, ps = pen p := ⟨_, rfl⟩
        rw [← hps] at hrng hpl hp1
        have HL := hide hL
        have HPS := hide hps
        have HPK := hide hpk
        clear hL hps hpk
        have hlt' : (k : Int) < (d.pend.length : Int) := by omega
        go_wp2_with (first
          | (refine wpList_load_mid rfl 97 (.tmp 15) rfl pg (k * 65) rfl ps _ hrng Try.underlying97 rfl (by rw [Try.sizePen, hpl]) ?_)
          | (refine wpList_store_new rfl 97 (.tmp 4) (.tmp 16) rfl wr (Value.int .i64 0 :: zs).toArray ps.toArray rfl rfl rfl (by rw [Try.sizePen]; simp [hpl]) (by simp [hpl, hzl]) (all_oneCell_toArray hp1) ?_)
          | (refine wpList_load_mid rfl 97 (.tmp 4) rfl wr.heap.size 0 rfl ps _ (range_new wr ps.toArray _) Try.underlying97 rfl (by rw [Try.sizePen, hpl]) ?_))
        have hoa : Only (fun _ => False) wr (wr.alloc (.cells ps.toArray 97)) := (Only.refl _ _).alloc _
        have hfk : Dk.Fine { d.spent with secs := d.secs.putAll (d.pend.take k) } := (unhide HF).spent.withSecs (Secs.Fine.putAll (unhide HF).secs _ (fun q hq => ((unhide HF).pend q (List.mem_of_mem_take hq)).2)) (Secs.putAll_length _ _)
        rw [unhide HPS]
        rw [unhide HPS] at hoa
        refine (dkDo_any ((unhide HL).only hoa (fun h => h) (fun h => h) (fun _ _ h => h)) hfk p (by show p.1 < (d.secs.putAll (d.pend.take k)).length; rw [Secs.putAll_length]; exact hpf.1) hpf.2).mono ?_
        rintro e w5 ⟨rfl, h5, ho5⟩
        have H5 := hide h5
        have HO5 := hide ho5
        clear h5 ho5
        go_wp2_with fail
        go_roundw
        case rel =>
          refine ⟨k + 1, by omega, by go_num, ?_, ho.trans ((hoa.mono (fun _ _ h => h.elim)).trans (unhide HO5) (fun _ _ e => e)) (fun _ _ e => e)⟩
          have hq := unhide H5
          rw [Secs.putAll_take _ _ _ _ (unhide HPK)]
          exact hq
        case measure => simp [intOf]; omega
      · obtain rfl : k = d.pend.length := by omega
        rw [List.take_length] at hL
        obtain ⟨c0, c1, c2, c3, c4, fz⟩ := cells_five hL.blk
        have HL := hide hL
        clear hL
        go_wp2_with fail
        go_ret
        have hset := (Only.refl (fun k => k = b) wr).here 1 (.slice none 0 0)
        refine ⟨rfl, .slice none 0 0, (unhide HL).emptied (d' := { d.spent with secs := d.secs.putAll d.pend, pend := [] }) rfl rfl hset (by rw [five_setCell (unhide HL).blk]; rfl), Or.inr rfl, ?_⟩
        exact (((unhide HO2).mono (fun _ _ e => Or.inl e)).trans ho (fun _ _ e => Or.inr e)).trans hset (fun _ _ e => Or.inl e)

theorem fate_of {f : Int} : (f.tmod 3 + 3) % 3 = f % 3 := by
  have h1 := Int.emod_nonneg f (show (3 : Int) ≠ 0 by decide)
  have h2 := Int.emod_lt_of_pos f (show (0 : Int) < 3 by decide)
  have h3 : f.tmod 3 = f % 3 ∨ f.tmod 3 = f % 3 - 3 := by
    rw [Int.tmod_eq_emod]
    split <;> simp
  rcases h3 with e | e <;> rw [e] <;> omega

set_option maxRecDepth 100000 in
theorem dkFateOf_any (fv : Value) (fs : List Int) (hfs : HasV w fv (fs.map (.int .i64))) (i : Nat) (hi : i ≤ 1000000) :
    Calls Try.prog 45 #[fv, .int .i64 i] w fun e w' => e = .returned (.int .i64 (fate fs i)) ∧ w' = w := by
  obtain ⟨fo, fc, rfl, hl, hm⟩ := hfs.shape
  rw [List.length_map] at hl hfs ⊢
  have hm' : fs.length ≤ 9223372036854775807 := by unfold maxLen at hm; omega
  by_cases hlt : i < fs.length
  · have hfi : fate fs i = fs[i] % 3 := by unfold fate; rw [List.getElem?_eq_getElem hlt]
    rw [hfi]
    obtain ⟨bb, off, rfl, hbad, hc⟩ := hfs.at (by omega)
    clear hbad
    have hci := hc i (by simpa using hlt)
    simp only [List.getElem_map] at hci
    generalize fs[i] = f at hci ⊢
    have HE := hide (fate_of (f := f))
    have hb : -3 < f.tmod 3 ∧ f.tmod 3 < 3 := ⟨by have := Int.tmod_lt_of_pos f (show (0:Int) < 3 by decide); have := Int.lt_tmod_of_pos f (show (0:Int) < 3 by decide); omega, Int.tmod_lt_of_pos f (by decide)⟩
    obtain ⟨hb1, hb2⟩ := hb
    have hlt' : (i : Int) < (fs.length : Int) := by omega
    clear hc hfs hfi hm hm'
    go_enter Try.func45, Try.ntmps45
    go_wp2_with fail
    go_ret
    rw [unhide HE]
    exact ⟨rfl, rfl⟩
  · have hfi : fate fs i = 1 := by unfold fate; rw [List.getElem?_eq_none (by omega)]
    rw [hfi]
    have hge : (fs.length : Int) ≤ (i : Int) := by omega
    clear hfi hfs
    go_enter Try.func45, Try.ntmps45
    go_wp2
    go_ret
    exact ⟨rfl, rfl⟩
end

end Go.Proofs.Ytmcobkcnpnfobaa
