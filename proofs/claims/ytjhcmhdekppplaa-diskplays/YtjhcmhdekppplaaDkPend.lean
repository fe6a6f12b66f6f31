/-
  Contract of disk's Pending: all that pends, in order, in new memory.
-/
import Derived.Test.YtjhcmhdekppplaaDkRead
namespace Go.Proofs.Ytjhcmhdekppplaa
open Go.RowKit
set_option linter.unusedSimpArgs false
set_option linter.unusedVariables false

theorem Try.infoWrite : (Try.prog.info? 51).map (fun i => (i.zero, i.size, i.bytes)) = some (some (.agg #[.int .i64 0, .slice none 0 0]), 2, 32) := by kernel_rfl

/-- a Write's cells -/
def wrt (p : Nat × Value) : List Value := [.int .i64 p.1, p.2]

theorem Only.range {S : Nat → Prop} {w w' : World} (h : Only S w w') {b o : Nat} {cs : List Value} (hr : w.rangeAt b o cs) (hS : ¬ S b) : w'.rangeAt b o cs := fun j v hv => h.cell (hr j v hv) hS

/-- v holds the writes l: each Data reads as it should, apart from the blocks in A -/
structure Writes (w : World) (base : Nat) (v : Value) (l : Pends) (A : Nat → Prop) (dvs : List (Nat × Value)) : Prop where
  own : w.ownsRow base 51 2 v dvs.length (dvs.flatMap wrt)
  len : dvs.length = l.length
  each : ∀ (k : Nat) (p : Nat × List UInt8), l[k]? = some p → ∃ dv, dvs[k]? = some (p.1, dv) ∧ Has w dv p.2 ∧ ∀ j, blk dv = some j → ¬ A j ∧ v.ownBlock ≠ some j ∧ j < w.heap.size
  one : ∀ p ∈ dvs, p.2.oneCell' = true

theorem Has.one {w : World} {v : Value} {bs : List UInt8} (h : Has w v bs) : v.oneCell' = true := by
  obtain ⟨ao, c, rfl, _⟩ := h.shape
  rfl

theorem wrt_length (p) : (wrt p).length = 2 := rfl

theorem own_blk {w : World} {base e m n : Nat} {v : Value} {xs : List Value} (h : w.ownsRow base e m v n xs) (j : Nat) (hj : blk v = some j) : v.ownBlock = some j := by
  obtain ⟨ao, cap, rfl⟩ := ownsRow_shape h
  cases ao with
  | none => cases hj
  | some a => exact hj

theorem Writes.push {w w6 : World} {base : Nat} {v dv : Value} {l : Pends} {A : Nat → Prop} {dvs : List (Nat × Value)} {g4 cap4 : Nat} (h : Writes w base v l A dvs) (p : Nat × List UInt8)
    (own : w6.ownsRow base 51 2 (.slice (some ⟨g4, 0, none⟩) (dvs.length + 1) cap4) (dvs.length + 1) (dvs.flatMap wrt ++ wrt (p.1, dv))) (ho : Only (fun j => v.ownBlock = some j) w w6) (hdv : Has w6 dv p.2)
    (hA : ∀ j, blk dv = some j → ¬ A j ∧ g4 ≠ j ∧ j < w6.heap.size) (hat : v.ownBlock = some g4 ∨ w.heap.size ≤ g4) : Writes w6 base (.slice (some ⟨g4, 0, none⟩) (dvs.length + 1) cap4) (l ++ [p]) A (dvs ++ [(p.1, dv)]) := by
  refine ⟨by simpa using own, by simp [h.len], ?_, ?_⟩
  · intro k q hq
    rcases Nat.lt_or_ge k l.length with hk | hk
    · rw [List.getElem?_append_left hk] at hq
      obtain ⟨dv', h1, h2, h3⟩ := h.each k q hq
      have hk' : k < dvs.length := by rw [h.len]; exact hk
      refine ⟨dv', by rw [List.getElem?_append_left hk']; exact h1, h2.only ho (fun _ j hj => (h3 j hj).2.1), fun j hj => ⟨(h3 j hj).1, ?_, Nat.lt_of_lt_of_le (h3 j hj).2.2 ho.size⟩⟩
      simp only [Value.ownBlock, ne_eq, Option.some.injEq]
      rcases hat with e | e
      · intro e2; subst e2; exact (h3 g4 hj).2.1 e
      · have := (h3 j hj).2.2; omega
    · have hk2 : k = l.length := by
        have := (List.getElem?_eq_some_iff.1 hq).1
        simp at this
        omega
      subst hk2
      simp at hq
      subst hq
      refine ⟨dv, by rw [← h.len]; simp, hdv, fun j hj => ⟨(hA j hj).1, ?_, (hA j hj).2.2⟩⟩
      simp only [Value.ownBlock, ne_eq, Option.some.injEq]
      exact (hA j hj).2.1
  · intro q hq
    rcases List.mem_append.1 hq with hq | hq
    · exact h.one q hq
    · simp at hq
      subst hq
      exact hdv.one

section
variable {w : World} {b g cap : Nat} {pv : Value} {d : Dk}

set_option maxRecDepth 100000 in
set_option maxHeartbeats 2000000 in
theorem dkPending_any (h : Lie w b g cap pv d) (hf : d.Fine) (hwk : d.works ≤ 1000000) :
    Calls Try.prog 13 #[.pointer (some ⟨b, 0, none⟩)] w fun e w' => ∃ v dvs, e = .returned v ∧ Writes w' w.heap.size v d.pend (fun j => j < w.heap.size) dvs ∧ Only (fun _ => False) w w' := by
  obtain ⟨c0, c1, c2, c3, c4, fz⟩ := cells_five h.blk
  have H := hide h
  have HF := hide hf
  have hmn := hf.many
  clear h hf
  obtain ⟨po, pc, hpv⟩ := pend_shape (unhide H)
  subst hpv
  obtain ⟨i0, hi, hz0, hz1, hz2⟩ := info_parts Try.infoWrite
  obtain ⟨zs, hzl, hzp, hbl⟩ : ∃ zs : List Value, zs.length = 64 ∧ (∀ w, (zeroValue 66).run Try.prog w = .ok (.agg (Value.int .i64 0 :: zs).toArray) w) ∧ zs.all (·.oneCell') = true := ⟨zero64.map bv, rfl, Try.zeroPen, rfl⟩
  go_enter Try.func13, Try.ntmps13
  go_wp2_with (at_make; refine wpList_make_own _ rfl (.const (.int .i64 0)) (.tmp 10) 32 rfl w.heap.size 51 i0 (.agg #[.int .i64 0, .slice none 0 0]) 2 Try.underlying32 hi hz0 hz1 .i64 .i64 d.pend.length d.pend.length rfl rfl (by omega) (by rw [hz2]; omega) (by unfold maxLen; omega) (Nat.le_refl _) ?_; intro w1 own1 gr1; have ho1 : Only (fun _ => False) w w1 := (Only.refl _ _).grown gr1 (fun k h => by cases h); have d1 := ho1.cell c1 (fun h => h))
  have HL1 := hide ((unhide H).only ho1 (fun h => h) (fun h => h) (fun _ _ h => h))
  clear c0 c1 c2 c3 c4 d1
  go_loopw [3, 17] (fun v i wr => ∃ (k : Nat) (dvs : List (Nat × Value)), k ≤ d.pend.length ∧ i = .int .i64 k ∧ Writes wr w.heap.size v (d.pend.take k) (fun j => j < w.heap.size) dvs ∧ Only (fun _ => False) w wr) (fun _ i _ => d.pend.length - (intOf i).toNat)
  case atStart => exact ⟨0, [], Nat.zero_le _, rfl, ⟨own1, rfl, fun k p hp => by simp at hp, fun p hp => by cases hp⟩, ho1⟩
  case round =>
    obtain ⟨k, dvs, hk, rfl, hW, ho⟩ := hrel
    by_cases hlt : k < d.pend.length
    · have hpk : d.pend[k]? = some d.pend[k] := List.getElem?_eq_getElem hlt
      generalize d.pend[k] = p at hpk
      have hpf := (unhide HF).pend p (List.mem_of_getElem? hpk)
      have hL := (unhide H).only ho (fun h => h) (fun h => h) (fun _ _ h => h)
      obtain ⟨pg, rfl⟩ := row_form (n := d.pend.length) hL.pend (by omega)
      have hrng := row_range hL.pend (fun x hx => pen_length ((unhide HF).pend x hx).2) rfl k p hpk
      have hpl := pen_length hpf.2
      have hp1 := pen_one p
      obtain ⟨ps, hps⟩ : ∃ ps, ps = pen p := ⟨_, rfl⟩
      rw [← hps] at hrng hpl hp1
      have HL := hide hL
      have HPK := hide hpk
      have hlt' : (k : Int) < (d.pend.length : Int) := by omega
      have hdl : dvs.length = k := by rw [hW.len]; simp; omega
      have hoa : Only (fun _ => False) wr (wr.alloc (.cells ps.toArray 66)) := (Only.refl _ _).alloc _
      obtain ⟨W, hWa⟩ : ∃ W, W = wr.alloc (.cells ps.toArray 66) := ⟨_, rfl⟩
      have hpp := pen_parts (w := W) (gg := wr.heap.size) (o := 0) (p := p) (by rw [hWa, ← hps]; exact range_new wr _ _)
      obtain ⟨hc, hr⟩ := hpp
      obtain ⟨cs, hcs⟩ : ∃ cs, cs = p.2.map bv := ⟨_, rfl⟩
      rw [← hcs, Nat.zero_add] at hr
      have hcl : cs.length = 64 := by rw [hcs]; simpa using hpf.2
      have HW := hide hW
      have HPS := hide hps
      have HCS := hide hcs
      clear hL hpk hps hcs hW
      go_wp2_with (first
        | (refine wpList_load_mid rfl 66 (.tmp 19) rfl pg (k * 65) rfl ps _ hrng Try.underlying66 rfl (by rw [Try.sizePen, hpl]) ?_)
        | (refine wpList_store_new rfl 66 (.tmp 5) (.tmp 20) rfl wr (Value.int .i64 0 :: zs).toArray ps.toArray rfl rfl rfl (by rw [Try.sizePen]; simp [hpl]) (by simp [hpl, hzl]) (all_oneCell_toArray hp1) ?_))
      have hoW : Only (fun _ => False) wr W := by rw [hWa]; exact hoa
      have hHl : wr.heap.size < W.heap.size := by rw [hWa]; simp
      rw [← hWa]
      clear hrng hoa hWa
      have hu := Try.underlying64
      have hi2 : (Try.prog.info? 64).map (·.size) = some cs.length := by rw [Try.sizeBlk, hcl]
      have hWW : W.ownsRow w.heap.size 51 2 u3 k (dvs.flatMap wrt) := by have := hoW.owns (unhide HW).own (fun _ _ h => h); rwa [hdl] at this
      have HWW := hide hWW
      have hnb : ∀ j, u3.ownBlock = some j → j < wr.heap.size := fun j hj => ((unhide HW).own.lt j hj).2
      have HNB := hide hnb
      have hul : ¬ u3.ownBlock = some wr.heap.size := fun e => by have := hnb _ e; omega
      generalize hq1 : p.1 = q1 at hc
      have HQ1 := hide hq1
      clear hq1 hnb hWW
      have hws : w.heap.size ≤ wr.heap.size := ho.size
      have HBY : Hid (∀ w', Calls Try.prog 32 #[.agg cs.toArray] w' fun e w'' => ∃ v, e = .returned v ∧ Owns w'.heap.size w'' v p.2 ∧ Only (fun _ => False) w' w'') := hide (fun w' => by rw [unhide HCS]; exact dkBytes_any p.2 hpf.2 w')
      have hmx : k + 1 ≤ maxLen := by unfold maxLen; omega
      go_region_held_law (fun w' => w'.cell? ⟨wr.heap.size, 0, none⟩ = some (.int .i64 q1) ∧ w'.rangeAt wr.heap.size 1 cs) ((go_split_ands; (try simp only [World.rangeAt_drew, World.cell?_drew] at *); refine ⟨?_, ?_⟩ <;> first | assumption | (apply World.rangeAt_alloc; assumption) | (rw [World.cell?_alloc_lt _ _ _ (show wr.heap.size < _ from hl5)]; assumption)))
        (first
          | (refine step_append_lies _ rfl (.tmp 21) (.tmp 28) 32 rfl w.heap.size 51 i0 (.agg #[.int .i64 0, .slice none 0 0]) 2 32 Try.underlying32 hi hz0 hz1 hz2 rfl (by decide) u3 k (dvs.flatMap wrt) rfl ((unhide HR5).alloc _) ⟨w5.heap.size, 0, none⟩ 1 1 (wrt (q1, .slice ao5 64 c5)) rfl rfl (World.news_of_block (heap_alloc_new w5 _)) (fun u hu => by simp only [wrt, List.mem_cons, List.not_mem_nil, or_false] at hu; rcases hu with rfl | rfl <;> rfl) (by decide) hmx (by omega) (by simp; omega) (w5.heap.size + 1) (by simp) ?_; intro g6 cap6 w6 own6 gr6 at6 lt6; have s6c : w6.cell? ⟨wr.heap.size, 0, none⟩ = some (.int .i64 q1) := gr6.cell (by rw [World.cell?_alloc_lt _ _ _ (show wr.heap.size < _ from hl5)]; exact s5c) (fun e => hul e.symm); have s6r : w6.rangeAt wr.heap.size 1 cs := fun j v hv => gr6.cell (World.rangeAt_alloc s5r _ j v hv) (fun e => hul e.symm))
          | (go_at_call 32; refine (unhide HBY _).mono ?_; rintro e w5 ⟨v5, rfl, own5, ho5⟩; obtain ⟨ao5, c5, hv5⟩ := ownsRow_shape own5.out; rw [hpf.2] at hv5; subst hv5; have s5c := ho5.cell (show W.drew.cell? ⟨wr.heap.size, 0, none⟩ = some (.int .i64 q1) from hc) (fun h => h); have s5r := ho5.range (show W.drew.rangeAt wr.heap.size 1 cs from hr) (fun h => h); have hl5 : wr.heap.size < w5.heap.size := Nat.lt_of_lt_of_le hHl ho5.size; have HR5 := hide (ho5.owns (unhide HWW).drew (fun _ _ h => h)); have O5 := hide own5; clear own5))
      have hps2 : p.2 ≠ [] := fun e => by have := hpf.2; rw [e] at this; simp at this
      have hb5 : ∀ j, blk (.slice ao5 64 c5) = some j → W.heap.size ≤ j ∧ j < w5.heap.size := fun j hj => (unhide O5).out.lt j (own_blk (unhide O5).out j hj)
      have ho6 : Only (fun j => u3.ownBlock = some j) wr w6 := ((((hoW.drew).trans ho5 (fun _ _ h => h)).mono (fun _ _ h => h.elim)).alloc _).grown gr6 (fun j hj _ => hj)
      have hh6 : Has w6 (.slice ao5 64 c5) p.2 := by
        have h5 := Has.ofOwns (unhide O5).out
        have h5a := h5.only ((Only.refl (fun _ => False) w5).alloc (.cells #[.int .i64 q1, .slice ao5 64 c5] 51)) (fun _ _ _ h => h)
        exact h5a.only ((Only.refl (fun j => u3.ownBlock = some j) _).grown gr6 (fun j hj _ => hj)) (fun _ j hj e => by have := (hb5 j hj).1; have := unhide HNB j e; omega)
      have hfin := (unhide HW).push p (dv := .slice ao5 64 c5) (g4 := g6) (cap4 := cap6) (by rw [hdl, unhide HQ1]; exact own6) ho6 hh6 (fun j hj => by
        have h1 := hb5 j hj
        have h2 := gr6.size
        have h3 : (w5.alloc (.cells #[.int .i64 q1, .slice ao5 64 c5] 51)).heap.size = w5.heap.size + 1 := by simp
        refine ⟨by omega, ?_, by omega⟩
        rcases at6 with e | e
        · have := unhide HNB g6 e; omega
        · omega) (by rcases at6 with e | e; exact Or.inl e; exact Or.inr (by omega))
      rw [hdl] at hfin
      have HFN := hide hfin
      clear hfin
      go_wp2_with fail
      go_roundw
      case rel =>
        refine ⟨k + 1, dvs ++ [(p.1, .slice ao5 64 c5)], by omega, by go_num, ?_, ?_⟩
        · have e : d.pend.take (k + 1) = d.pend.take k ++ [p] := by rw [List.take_add_one, unhide HPK]; rfl
          rw [e]
          exact unhide HFN
        · exact ho.trans ho6 (fun j hj e => by have := ((unhide HW).own.lt j e).1; omega)
      case measure => simp [intOf]; omega
    · obtain rfl : k = d.pend.length := by omega
      rw [List.take_length] at hW
      go_wp2_with fail
      go_ret
      exact ⟨u3, dvs, rfl, hW, ho⟩
end

end Go.Proofs.Ytjhcmhdekppplaa
