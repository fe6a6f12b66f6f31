/-
  Contracts of disk's do, fateOf, Write, Flush, Crash.
-/
import Derived.Test.YtmcobkcnpnfobaaDkC
namespace Go.Proofs.Ytmcobkcnpnfobaa
open Go.RowKit
set_option linter.unusedSimpArgs false
set_option linter.unusedVariables false

section
variable {w : World} {b g cap : Nat} {pv : Value} {d : Dk}

theorem Lie.put {w' : World} (h : Lie w b g cap pv d) (hf : d.Fine) (k : Nat) (y : Option (List UInt8)) (hy : ∀ bs, y = some bs → bs.length = 64) (hk : k < d.secs.length) (ho : Only (fun _ => False) w w') :
    Lie (w'.setCells g (k * 65) (sec y)) b g cap pv { d with secs := d.secs.set k y } ∧ Only (fun k => k = g) w (w'.setCells g (k * 65) (sec y)) := by
  have h' := h.only ho (fun h => h) (fun h => h) (fun _ _ h => h)
  have hset : Only (fun k => k = g) w' (w'.setCells g (k * 65) (sec y)) := Only.setCells (S := fun k => k = g) (fun _ => rfl) _ _ _ (Only.refl _ _)
  refine ⟨⟨?_, ?_, ?_, h.gb, h.pb, h.pg⟩, (ho.mono (fun _ _ h => h.elim)).trans hset (fun _ _ h => h)⟩
  · rw [List.length_set]
    exact hset.heap h'.blk (fun e => h.gb e.symm)
  · rw [List.length_set]
    exact row_set h'.secs (fun x hx => sec_length (fun bs e => hf.secs x hx bs e)) rfl k hk y (sec_length hy)
  · exact hset.owns h'.pend (fun j hj e => h.pg (by rw [hj, e]))

set_option maxRecDepth 100000 in
set_option maxHeartbeats 1000000 in
theorem dkDo_any (h : Lie w b g cap pv d) (hf : d.Fine) (p : Nat × List UInt8) (hp : p.1 < d.secs.length) (hl : p.2.length = 64) :
    Calls Try.prog 46 #[.pointer (some ⟨b, 0, none⟩), .agg (pen p).toArray] w fun e w' => e = .returned (.tuple #[]) ∧ Lie w' b g cap pv { d with secs := d.secs.put p } ∧ Only (fun k => k = g) w w' := by
  obtain ⟨k, bs⟩ := p
  simp only at hp hl
  have H := hide h
  have HF := hide hf
  have hlt := lt_of_block h.blk
  have hgt : g < w.heap.size := (h.secs.lt g rfl).2
  have hth := row_there h.secs k hp
  obtain ⟨c0, c1, c2, c3, c4, fz⟩ := cells_five h.blk
  have hgb := h.gb
  clear h hf
  have hk0 : (0 : Int) ≤ (k : Int) := Int.natCast_nonneg _
  have hk1 : (k : Int) < (d.secs.length : Int) := by omega
  obtain ⟨P, hP⟩ : ∃ P, P = (pen (k, bs)).toArray := ⟨_, rfl⟩
  have hPc : (Value.agg P).cells = P := rfl
  obtain ⟨cs, hcs⟩ : ∃ cs, cs = bs.map bv := ⟨_, rfl⟩
  have hcl : cs.length = 64 := by rw [hcs]; simpa using hl
  have hPr : (w.alloc (.cells P 97)).rangeAt w.heap.size 1 cs ∧ (w.alloc (.cells P 97)).cell? ⟨w.heap.size, 0, none⟩ = some (.int .i64 k) := by
    subst hP
    constructor
    · intro j v hv
      rw [cell_of_row _ _ _ _ _ _ (heap_alloc_new w _)]
      subst hcs
      simpa [pen, Nat.add_comm] using hv
    · rw [cell_of_row _ _ _ _ _ _ (heap_alloc_new w _)]
      rfl
  obtain ⟨hr, hc⟩ := hPr
  have hb0 : (w.alloc (.cells P 97)).cell? ⟨b, 0, none⟩ = some (.slice (some ⟨g, 0, none⟩) d.secs.length cap) := by rw [World.cell?_alloc_lt _ _ _ hlt]; exact c0
  have hth' := World.there_alloc hth (.cells P 97)
  obtain ⟨ss, hss⟩ : ∃ ss, ss = sec (some bs) := ⟨_, rfl⟩
  obtain ⟨Z, hz, hZl, hfold⟩ : ∃ Z : List Value, (∀ w, (zeroValue 101).run Try.prog w = .ok (.agg Z.toArray) w) ∧ Z.length = 65 ∧ cs.zipIdx.foldl (fun (cs : Array Value) (x : Value × Nat) => cs.setIfInBounds x.2 x.1) Z.toArray = ss.toArray :=
    ⟨sec (some zero64), Try.zeroSec, rfl, by subst hcs; subst hss; exact fold_sec bs hl⟩
  have hsl : ss.length = 65 := by rw [hss]; exact sec_length (fun b e => by cases e; exact hl)
  have hs1 : ∀ v ∈ ss, v.oneCell' = true := by rw [hss]; exact sec_one _
  have HSS := hide hss
  have HCS := hide hcs
  have HP := hide hP
  rw [← hP]
  clear hss hcs hP c0 c1 c2 c3 c4 hth
  have hu := Try.underlying95
  have hu2 := Try.underlying101
  have hi : (Try.prog.info? 95).map (·.size) = some cs.length := by rw [Try.sizeBlk, hcl]
  have hi2 : (Try.prog.info? 101).map (·.size) = some ss.length := by rw [Try.sizeSec, hsl]
  have ho : Only (fun _ => False) w (w.alloc (.cells P 97)) := (Only.refl _ _).alloc _
  have n1 : ¬ w.heap.size = g := by omega
  have n2 : ¬ b = g := fun e => hgb e.symm
  have hst : (storeCells ⟨g, k * 65, none⟩ ss).run Try.prog (w.alloc (.cells P 97)).drew = .ok () ((w.alloc (.cells P 97)).drew.setCells g (k * 65) ss) := run_storeCells_there (by rw [hsl]; simpa using hth') hs1
  go_enter Try.func46, Try.ntmps46
  go_wp2
  go_region_held (fun w' => w'.rangeAt w.heap.size 1 cs ∧ w'.cell? ⟨w.heap.size, 0, none⟩ = some (.int .i64 k) ∧ w'.cell? ⟨b, 0, none⟩ = some (.slice (some ⟨g, 0, none⟩) d.secs.length cap) ∧ w'.there g (k * 65) 65) ((go_split_ands; simp only [World.rangeAt_drew, World.there_drew, World.cell?_drew] at *; refine ⟨?_, ?_, ?_, ?_⟩ <;> first | assumption | (apply World.there_setCells; assumption) | (refine World.rangeAt_setCells_apart (by assumption) _ _ _ (by omega)) | (rw [World.cell?_setCells_out _ _ _ _ _ (fun e _ => absurd e (by assumption))]; assumption))) (fail)
  go_end0
  have hfin := (unhide H).put (unhide HF) k (some bs) (fun b e => by cases e; exact hl) hp (ho.drew)
  rw [← unhide HSS] at hfin
  exact ⟨rfl, hfin.1, hfin.2⟩

end

end Go.Proofs.Ytmcobkcnpnfobaa
