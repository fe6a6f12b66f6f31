/-
  Contract of disk's Crash.
-/
import Derived.Test.YtmcobkcnpnfobaaDkFlush
namespace Go.Proofs.Ytmcobkcnpnfobaa
open Go.RowKit
set_option linter.unusedSimpArgs false
set_option linter.unusedVariables false

section
variable {w : World} {b g cap : Nat} {pv : Value} {d : Dk}

theorem crashTo_step (fs : List Int) (l : Pends) (s : Secs) (k : Nat) (p) (h : l[k]? = some p) : crashTo fs l s (k + 1) = (crashTo fs l s k).hit (fate fs k) p := by
  rw [crashTo, h]

theorem fate_three (fs : List Int) (k : Nat) : fate fs k = 0 ∨ fate fs k = 1 ∨ fate fs k = 2 := by
  unfold fate
  split
  · simp
  · rename_i f _
    have h1 := Int.emod_nonneg f (show (3 : Int) ≠ 0 by decide)
    have h2 := Int.emod_lt_of_pos f (show (0 : Int) < 3 by decide)
    omega

set_option maxRecDepth 100000 in
set_option maxHeartbeats 2000000 in
theorem dkCrash_any (h : Lie w b g cap pv d) (hf : d.Fine) (hwk : d.works ≤ 1000000) (fv : Value) (fs : List Int) (hfs : HasV w fv (fs.map (.int .i64))) (hfb : fs ≠ [] → ∀ j, blk fv = some j → j ≠ b ∧ j ≠ g) :
    Calls Try.prog 23 #[.pointer (some ⟨b, 0, none⟩), fv] w fun e w' => e = .returned (.tuple #[]) ∧ Lie w' b g cap (.slice none 0 0) (d.crash fs) ∧ Only (fun j => j = b ∨ j = g) w w' := by
  have H := hide h
  have HF := hide hf
  have HFS := hide hfs
  have HFB := hide hfb
  have hmn := hf.many
  clear h hf hfs hfb
  obtain ⟨po, pc, hpv⟩ := pend_shape (unhide H)
  subst hpv
  obtain ⟨c0, c1, c2, c3, c4, fz⟩ := cells_five (unhide H).blk
  obtain ⟨zs, hzl, hzp, hbl⟩ : ∃ zs : List Value, zs.length = 64 ∧ (∀ w, (zeroValue 97).run Try.prog w = .ok (.agg (Value.int .i64 0 :: zs).toArray) w) ∧ zs.all (·.oneCell') = true := ⟨zero64.map bv, rfl, Try.zeroPen, rfl⟩
  go_enter Try.func23, Try.ntmps23
  go_wp2_with fail
  clear c0 c1 c2 c3 c4
  go_loopw [11] (fun i wr => ∃ k : Nat, k ≤ d.pend.length ∧ i = .int .i64 k ∧ Lie wr b g cap (.slice po d.pend.length pc) { d with secs := crashTo fs d.pend d.secs k } ∧ Only (fun j => j = g) w wr) (fun i _ => d.pend.length - (intOf i).toNat)
  case atStart => exact ⟨0, Nat.zero_le _, rfl, unhide H, Only.refl _ _⟩
  case round =>
    obtain ⟨k, hk, rfl, hL, ho⟩ := hrel
    by_cases hlt : k < d.pend.length
    · have hpk : d.pend[k]? = some d.pend[k] := List.getElem?_eq_getElem hlt
      generalize d.pend[k] = p at hpk
      have hpf := (unhide HF).pend p (List.mem_of_getElem? hpk)
      obtain ⟨pg, rfl⟩ := row_form (n := d.pend.length) hL.pend (by omega)
      have hrng := row_range hL.pend (fun x hx => pen_length ((unhide HF).pend x hx).2) rfl k p hpk
      have hpl := pen_length hpf.2
      have hp1 := pen_one p
      obtain ⟨ps, hps⟩ : ∃ ps, ps = pen p := ⟨_, rfl⟩
      rw [← hps] at hrng hpl hp1
      have hfk : Dk.Fine { d with secs := crashTo fs d.pend d.secs k } := (unhide HF).withSecs (Secs.Fine.crash (unhide HF).secs fs _ (fun q hq => ((unhide HF).pend q hq).2) k) (crashTo_length _ _ _ _)
      have hFS := (unhide HFS).only ho (fun hne j hj => (unhide HFB (fun e => hne (by rw [e]; rfl)) j hj).2)
      have hst := crashTo_step fs d.pend d.secs k p hpk
      have hsl := crashTo_length fs d.pend d.secs k
      have HL := hide hL
      have HFK := hide hfk
      have HPS := hide hps
      have HPK := hide hpk
      have HS := hide hst
      have HFS2 := hide hFS
      have HSL := hide hsl
      clear hL hps hpk hst hfk hFS hsl
      have hlt' : (k : Int) < (d.pend.length : Int) := by omega
      have hoa : Only (fun _ => False) wr (wr.alloc (.cells ps.toArray 97)) := (Only.refl _ _).alloc _
      have hLa := (unhide HL).only hoa (fun h => h) (fun h => h) (fun _ _ h => h)
      have HLA := hide hLa
      clear hLa
      rcases fate_three fs k with hf0 | hf1 | hf2
      · rw [hf0] at HS
        have HF0 := hide hf0
        clear hf0
        go_wp2_with (first
          | (refine wpList_load_mid rfl 97 (.tmp 14) rfl pg (k * 65) rfl ps _ hrng Try.underlying97 rfl (by rw [Try.sizePen, hpl]) ?_)
          | (refine wpList_store_new rfl 97 (.tmp 5) (.tmp 15) rfl wr (Value.int .i64 0 :: zs).toArray ps.toArray rfl rfl rfl (by rw [Try.sizePen]; simp [hpl]) (by simp [hpl, hzl]) (all_oneCell_toArray hp1) ?_))
        refine (dkFateOf_any fv fs ((unhide HFS2).only hoa (fun _ _ _ h => h)) k (by omega)).mono ?_
        rintro e w5 ⟨rfl, rfl⟩
        rw [unhide HF0]
        go_wp2_with (refine wpList_load_mid rfl 97 (.tmp 5) rfl wr.heap.size 0 rfl ps _ (range_new wr ps.toArray _) Try.underlying97 rfl (by rw [Try.sizePen, hpl]) ?_)
        have HLA' := HLA
        have hoa' := hoa
        rw [unhide HPS] at HLA' hoa' ⊢
        refine (dkDo_any (unhide HLA') (unhide HFK) p (by show p.1 < (crashTo fs d.pend d.secs k).length; rw [unhide HSL]; exact hpf.1) hpf.2).mono ?_
        rintro e w6 ⟨rfl, h6, ho6⟩
        have H6 := hide h6
        have HO6 := hide ho6
        clear h6 ho6
        go_wp2_with fail
        go_roundw
        case rel =>
          refine ⟨k + 1, by omega, by go_num, ?_, ho.trans ((hoa'.mono (fun _ _ h => h.elim)).trans (unhide HO6) (fun _ _ e => e)) (fun _ _ e => e)⟩
          rw [unhide HS]
          exact unhide H6
        case measure => simp [intOf]; omega
      · rw [hf1] at HS
        have HF0 := hide hf1
        clear hf1
        go_wp2_with (first
          | (refine wpList_load_mid rfl 97 (.tmp 14) rfl pg (k * 65) rfl ps _ hrng Try.underlying97 rfl (by rw [Try.sizePen, hpl]) ?_)
          | (refine wpList_store_new rfl 97 (.tmp 5) (.tmp 15) rfl wr (Value.int .i64 0 :: zs).toArray ps.toArray rfl rfl rfl (by rw [Try.sizePen]; simp [hpl]) (by simp [hpl, hzl]) (all_oneCell_toArray hp1) ?_))
        refine (dkFateOf_any fv fs ((unhide HFS2).only hoa (fun _ _ _ h => h)) k (by omega)).mono ?_
        rintro e w5 ⟨rfl, rfl⟩
        rw [unhide HF0]
        go_wp2_with fail
        go_roundw
        case rel =>
          refine ⟨k + 1, by omega, by go_num, ?_, ho.trans (hoa.mono (fun _ _ h => h.elim)) (fun _ _ e => e)⟩
          rw [unhide HS]
          exact unhide HLA
        case measure => simp [intOf]; omega
      · rw [hf2] at HS
        have HF0 := hide hf2
        clear hf2
        go_wp2_with (first
          | (refine wpList_load_mid rfl 97 (.tmp 14) rfl pg (k * 65) rfl ps _ hrng Try.underlying97 rfl (by rw [Try.sizePen, hpl]) ?_)
          | (refine wpList_store_new rfl 97 (.tmp 5) (.tmp 15) rfl wr (Value.int .i64 0 :: zs).toArray ps.toArray rfl rfl rfl (by rw [Try.sizePen]; simp [hpl]) (by simp [hpl, hzl]) (all_oneCell_toArray hp1) ?_))
        refine (dkFateOf_any fv fs ((unhide HFS2).only hoa (fun _ _ _ h => h)) k (by omega)).mono ?_
        rintro e w5 ⟨rfl, rfl⟩
        rw [unhide HF0]
        go_wp2_with fail
        obtain ⟨W, hW⟩ : ∃ W, W = wr.alloc (.cells ps.toArray 97) := ⟨_, rfl⟩
        have hLW := unhide HLA
        rw [← hW] at hLW ⊢
        have hlb := lt_of_block (unhide HL).blk
        have hlg : g < wr.heap.size := ((unhide HL).secs.lt g rfl).2
        have hwc : W.cell? ⟨wr.heap.size, 0, none⟩ = some (.int .i64 p.1) := by
          rw [hW, cell_of_row _ _ _ _ _ _ (heap_alloc_new wr _), unhide HPS]
          rfl
        have hc0 := (cells_five hLW.blk).1
        have hth := row_there hLW.secs p.1 (by show p.1 < (crashTo fs d.pend d.secs k).length; rw [unhide HSL]; exact hpf.1)
        have hk0 : (0 : Int) ≤ (p.1 : Int) := Int.natCast_nonneg _
        have hk1 : (p.1 : Int) < ((crashTo fs d.pend d.secs k).length : Int) := by rw [unhide HSL]; have := hpf.1; omega
        have hgb := (unhide HL).gb
        have hfin := fun (w' : World) (ho : Only (fun _ => False) W w') => hLW.put (unhide HFK) p.1 none (fun bs e => by cases e) (by show p.1 < (crashTo fs d.pend d.secs k).length; rw [unhide HSL]; exact hpf.1) ho
        have HFIN := hide hfin
        have hoW : Only (fun _ => False) wr W := by rw [hW]; exact hoa
        have n1 : ¬ wr.heap.size = g := by omega
        have n2 : ¬ b = g := fun e => hgb e.symm
        obtain ⟨ts, hts⟩ : ∃ ts, ts = sec none := ⟨_, rfl⟩
        obtain ⟨Z, hz, hZl, hZs⟩ : ∃ Z : List Value, (∀ w, (zeroValue 101).run Try.prog w = .ok (.agg Z.toArray) w) ∧ Z.length = 65 ∧ Z.set 64 (.bool true) = ts := ⟨sec (some zero64), Try.zeroSec, rfl, by rw [hts]; rfl⟩
        have htl : ts.length = 65 := by rw [hts]; rfl
        have ht1 : ∀ v ∈ ts, v.oneCell' = true := by rw [hts]; exact sec_one _
        have hst : (storeCells ⟨g, p.1 * 65, none⟩ ts).run Try.prog W.drew = .ok () (W.drew.setCells g (p.1 * 65) ts) := run_storeCells_there (by rw [htl]; simpa using hth) ht1
        have HTS := hide hts
        clear hts hfin hW hLW
        generalize hpk1 : p.1 = pk at *
        have HPK1 := hide hpk1
        clear hpk1
        generalize (crashTo fs d.pend d.secs k).length = sn at *
        go_region_held (fun w' => w'.cell? ⟨wr.heap.size, 0, none⟩ = some (.int .i64 pk) ∧ w'.cell? ⟨b, 0, none⟩ = some (.slice (some ⟨g, 0, none⟩) sn cap) ∧ w'.there g (pk * 65) 65) ((go_split_ands; simp only [World.rangeAt_drew, World.there_drew, World.cell?_drew] at *; refine ⟨?_, ?_, ?_⟩ <;> first | assumption | (apply World.there_setCells; assumption) | (rw [World.cell?_setCells_out _ _ _ _ _ (fun e _ => absurd e (by assumption))]; assumption))) (fail)
        have hf2 := unhide HFIN W.drew ((Only.refl _ W).drew)
        rw [← unhide HTS] at hf2
        have HF2 := hide hf2
        clear hf2 hst
        go_wp2_with fail
        go_roundw
        case rel =>
          refine ⟨k + 1, by omega, by go_num, ?_, (ho.trans (hoW.mono (fun _ _ h => h.elim)) (fun _ _ e => e)).trans (unhide HF2).2 (fun _ _ e => e)⟩
          have e : Secs.hit (crashTo fs d.pend d.secs k) 2 p = List.set (crashTo fs d.pend d.secs k) pk none := by
            unfold Secs.hit
            rw [unhide HPK1]
            rfl
          rw [unhide HS, e]
          exact (unhide HF2).1
        case measure => simp [intOf]; omega
    · obtain rfl : k = d.pend.length := by omega
      obtain ⟨c0, c1, c2, c3, c4, fz⟩ := cells_five hL.blk
      have HL := hide hL
      clear hL
      go_wp2_with fail
      go_end0
      have hset := (((Only.refl (fun k => k = b) wr).here 1 (.slice none 0 0)).here 2 (.int .i64 (-1))).here 3 (.bool false)
      refine ⟨rfl, (unhide HL).emptied (d' := d.crash fs) rfl rfl hset (by rw [five_setCell (five_setCell (five_setCell (unhide HL).blk))]; rfl), ?_⟩
      exact (ho.mono (fun _ _ e => Or.inr e)).trans hset (fun _ _ e => Or.inl e)
end

end Go.Proofs.Ytmcobkcnpnfobaa
