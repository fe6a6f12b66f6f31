/-
  The reference's fails and put.
  The reference's Reset and Append.
  The reference's Append.
-/
import Derived.Test.YtoffcbopolonoaaRfOne
import Derived.Deep.DeepCutAuto
import Derived.Deep.CutBlock
import Derived.Deep.RegionHeld
import Derived.Deep.RegionWith
namespace Go.Proofs.Ytoffcbopolonoaa
open Go.RowKit
set_option linter.unusedSimpArgs false
set_option linter.unusedVariables false

theorem Dk.writeE_nine (d : Dk) (k : Nat) (bs : List UInt8) (hk : k < d.secs.length) (hb : bs.length = 64) (h : d.writeE k bs ≠ 0) : d.writeE k bs = 9 := by
  have ht : d.there k = true := by unfold Dk.there; rw [decide_eq_true_eq]; omega
  unfold Dk.writeE at h ⊢
  rw [if_pos ⟨ht, hb⟩] at h ⊢
  split at h
  · rw [if_pos ‹_›]
  · exact absurd rfl h
theorem Dk.flushE_nine (d : Dk) (h : d.flushE ≠ 0) : d.flushE = 9 := by
  unfold Dk.flushE at h ⊢
  split at h
  · rw [if_pos ‹_›]
  · exact absurd rfl h

namespace Wal

/-- a call has turned the reference's log and its disk alone -/
structure RLWent (w0 w w' : World) (F : Nat → Prop) (F' : Nat → Prop) (R L : Nat) (d' : Dk) (l' : Lg) (s' : Int) : Prop where
  lg : RLogs w0 w' F' R L d' l' s'
  only : Only (fun k => F k ∨ k = L) w w'
  grew : ∀ k, F' k → F k ∨ w.heap.size ≤ k

section
variable {w0 w w' : World} {F : Nat → Prop} {R L : Nat} {d : Dk} {l : Lg} {s : Int}

theorem RLogs.went (h : RLogs w0 w F R L d l s) {F' : Nat → Prop} {d' : Dk} (hw : RWent w0 w w' F F' R d') (hl : d'.secs.length = d.secs.length) (hwk : d'.works ≤ 900000) : RLWent w0 w w' F F' R L d' l s := by
  have hlt := h.lt
  refine ⟨⟨hw.rk, hw.only.heap h.lg h.off, h.slot, fun e => ?_, h.up, by rw [half_len hl]; exact h.fine, hwk⟩, hw.only.mono (fun _ _ e => Or.inl e), hw.grew⟩
  rcases hw.grew L e with e | e
  · exact h.off e
  · omega

theorem RLWent.refl (h : RLogs w0 w F R L d l s) : RLWent w0 w w F F R L d l s := ⟨h, Only.refl _ _, fun _ e => Or.inl e⟩

theorem RLWent.trans {w1 w2 : World} {F1 F2 : Nat → Prop} {d1 d2 : Dk} {l1 l2 : Lg} {s1 s2 : Int} (h : RLWent w0 w w1 F F1 R L d1 l1 s1) (k : RLWent w0 w1 w2 F1 F2 R L d2 l2 s2) : RLWent w0 w w2 F F2 R L d2 l2 s2 := by
  have hs := h.only.size
  refine ⟨k.lg, h.only.trans k.only (fun i hi e => ?_), fun i e => ?_⟩
  · rcases e with e | e
    · rcases h.grew i e with e | e
      · exact Or.inl e
      · omega
    · exact Or.inr e
  · rcases k.grew i e with e | e
    · exact h.grew i e
    · exact Or.inr (by omega)

theorem RLWent.has {F' : Nat → Prop} {d' : Dk} {l' : Lg} {s' : Int} (h : RLWent w0 w w' F F' R L d' l' s') {v : Value} {bs : List UInt8} (hv : Has w v bs) (hb : bs ≠ [] → ∀ j, blk v = some j → ¬ F j ∧ j ≠ L) : Has w' v bs ∧ (bs ≠ [] → ∀ j, blk v = some j → ¬ F' j ∧ j ≠ L) :=
  ⟨hv.only h.only (fun hne k hk e => by rcases e with e | e; exact (hb hne k hk).1 e; exact (hb hne k hk).2 e), fun hne j hj => ⟨fun hF => by
    rcases h.grew j hF with e | e
    · exact (hb hne j hj).1 e
    · have := hv.blk_lt hne j hj; omega, (hb hne j hj).2⟩⟩

theorem RLWent.box {w1 : World} {F' : Nat → Prop} {d' : Dk} {l' : Lg} {s' : Int} (ho : Only (fun _ => False) w w1) (h : RLWent w0 w1 w' F F' R L d' l' s') : RLWent w0 w w' F F' R L d' l' s' :=
  ⟨h.lg, (ho.mono (fun _ _ e => e.elim)).trans h.only (fun _ _ e => e), fun k e => by have := ho.size; rcases h.grew k e with e | e; exact Or.inl e; exact Or.inr (by omega)⟩
theorem RLWent.same {w1 : World} {F' : Nat → Prop} {d' : Dk} {l' : Lg} {s' : Int} (h : RLWent w0 w w1 F F' R L d' l' s') (ho : Only (fun _ => False) w1 w') : RLWent w0 w w' F F' R L d' l' s' :=
  ⟨h.lg.same ho, h.only.trans ho (fun _ _ e => e.elim), h.grew⟩

theorem RLWent.turn {w1 w2 : World} {F' : Nat → Prop} {d' : Dk} {l' l2 : Lg} {s' s2 : Int} (h : RLWent w0 w w1 F F' R L d' l' s') (ha : RLgAt w2 L R l2 s2) (o2 : Only (fun k => k = L) w1 w2) (hs : slotOk s2 l2.next) (hf : l2.Fine d'.half) : RLWent w0 w w2 F F' R L d' l2 s2 := by
  refine ⟨⟨h.lg.rk.later o2 (fun k hk e => ⟨fun hF => h.lg.off (e ▸ hF), e ▸ h.lg.up⟩), ha, hs, h.lg.off, h.lg.up, hf, h.lg.works⟩, h.only.trans o2 (fun _ _ e => Or.inr e), h.grew⟩

theorem RLgAt.kill {w : World} (h : RLgAt w L R l s) : RLgAt (w.setCell ⟨L, 5, none⟩ (.bool true)) L R { l with dead := true } s := by
  unfold RLgAt
  rw [two_setCell h]
  rfl

theorem rfails_any (h : RLogs w0 w F R L d l s) : Calls Try.prog 82 #[.pointer (some ⟨L, 0, none⟩)] w fun e w' => e = .returned (.int .i64 9) ∧ RLWent w0 w w' F F R L d { l with dead := true } s := by
  obtain ⟨c0, c1, c2, c3, c4, c5, cf⟩ := h.lg.cells
  have H := hide h
  clear h
  go_enter Try.func82, Try.ntmps82
  go_wp2
  go_ret
  exact ⟨rfl, (RLWent.refl (unhide H)).turn (unhide H).lg.kill ((Only.refl _ _).here _ _) (unhide H).slot ⟨(unhide H).fine.epoch, (unhide H).fine.area, (unhide H).fine.used, (unhide H).fine.next⟩⟩

theorem wr_head (d : Dk) (k : Nat) (h : Hd) : wr d k h.lay = if d.writeE k h.lay = 0 then ((d.write k h.lay).flush, (d.write k h.lay).flushE) else (d.write k h.lay, d.writeE k h.lay) := by
  have hc : chunk h.lay 0 = h.lay := by
    unfold chunk
    rw [Nat.zero_mul, List.drop_zero, List.take_of_length_le (by rw [Hd.lay_length]; exact Nat.le_refl _)]
  unfold wr
  rw [Hd.lay_length]
  show wrFrom k h.lay 1 0 d = _
  simp only [wrFrom, hc, Nat.add_zero]

/-- behind the loop's k-th round -/
def PutAt (w0 w wr : World) (F : Nat → Prop) (R L : Nat) (d : Dk) (l : Lg) (s : Int) (hd : Hd) (sa n : Nat) (laid : List UInt8) (k : Nat) : Prop :=
  ∃ F' d', RLWent w0 w wr F F' R L d' l s ∧ wr.heap[w.heap.size]? = some (.cells #[.int .u64 hd.epoch, .int .i64 hd.area, .int .i64 hd.used] 36 (0, 0)) ∧ ¬ F' w.heap.size ∧ Hid (wrFrom sa laid n 0 d = wrFrom sa laid (n - k) k d') ∧ d'.works ≤ d.works + k ∧ Hid (d'.secs.length = d.secs.length)

set_option maxHeartbeats 4000000 in
set_option maxRecDepth 100000 in
theorem rput_any (h : RLogs w0 w F R L d l s) (hd : Hd) (hE : hd.epoch < 18446744073709551616) (hA : hd.area ≤ 1) (hU : hd.used ≤ d.half) (at' : Nat) (n : Nat) (hin : at' + n ≤ d.half) (xv : Value) (laid : List UInt8) (hx : Has w xv laid) (hxb : laid ≠ [] → ∀ j, blk xv = some j → ¬ F j ∧ j ≠ L) (hll : laid.length = n * 64) (hwk : d.works + n + 3 ≤ 900000) :
    Calls Try.prog 56 #[.pointer (some ⟨L, 0, none⟩), xv, .int .i64 at', hv hd] w fun e w' => e = .returned (.int .i64 (commit l d hd (start d hd.area + at') laid).e) ∧ ∃ F' s', RLWent w0 w w' F F' R L (commit l d hd (start d hd.area + at') laid).dk (commit l d hd (start d hd.area + at') laid).lg s' := by
  have hh := half_le d h.rk.fine
  have hfn := h.fine.next
  have H := hide h
  have HX := hide hx
  have HXB := hide hxb
  have hoL : ¬ L = w.heap.size := by have := h.lt; omega
  have hFH : ¬ F w.heap.size := fun e => by have := h.rk.lt _ e; omega
  have hn2 : n ≤ 2047 := by omega
  obtain ⟨am, ham⟩ : ∃ am, am = hd.area * d.half := ⟨_, rfl⟩
  have hamh : am ≤ d.half := by rw [ham]; have : hd.area * d.half ≤ 1 * d.half := Nat.mul_le_mul_right _ hA; omega
  have hwm : IntKind.i64.wrap ((hd.area : Int) * (d.half : Int)) = (am : Int) := by
    have e : (hd.area : Int) * (d.half : Int) = (am : Int) := by rw [ham]; simp
    rw [e, IntKind.wrap_i64]; omega
  obtain ⟨st, hste⟩ : ∃ st, st = start d hd.area := ⟨_, rfl⟩
  have hsta : st = 2 + am := by rw [hste, ham]; rfl
  have hwp : IntKind.i64.wrap (2 + (am : Int)) = (st : Int) := by rw [IntKind.wrap_i64]; omega
  obtain ⟨sa, hsa⟩ : ∃ sa, sa = st + at' := ⟨_, rfl⟩
  have hwq : IntKind.i64.wrap ((st : Int) + (at' : Int)) = (sa : Int) := by rw [IntKind.wrap_i64]; omega
  have hsn : sa + n ≤ 2 + 2 * d.half := by omega
  have hln : 2 + 2 * d.half ≤ d.secs.length := by unfold Dk.half; have := h.rk.fine.n1; omega
  have HIN : Hid (sa + n ≤ d.secs.length) := Nat.le_trans hsn hln
  have HN8 := hide h.rk.fine.n1
  rw [← hste, ← hsa]
  have HWR : Hid (wr d sa laid = wrFrom sa laid n 0 d) := by show wr d sa laid = _; unfold wr; rw [hll, Nat.mul_div_cancel _ (by decide)]
  have HCM : Hid (commit l d hd sa laid = let b := if (wr d sa laid).2 = 0 then wr (wr d sa laid).1 l.next hd.lay else wr d sa laid; if b.2 = 0 then ⟨⟨hd, 1 - l.next, l.dead⟩, b.1, 0⟩ else ⟨{ l with dead := true }, b.1, b.2⟩) := rfl
  rw [unhide HWR] at HCM
  have HHF := hide (fun (w' : World) (F' : Nat → Prop) (d' : Dk) (h' : RLogs w0 w' F' R L d' l s) => rlen_any h'.rk)
  unfold hv
  obtain ⟨xo, xc, hxv, hxl, hxm⟩ := (unhide HX).shape
  subst hxv
  have HLL := hide hll
  have hcap : (laid.length : Int) ≤ xc := by omega
  have hl3 : laid.length ≤ 131008 := by omega
  have HA' := hide (And.intro ham (And.intro hste (And.intro hsta hsa)))
  clear h hx hxb ham hste hsta hsa hll hxl hsn hln
  go_enter Try.func56, Try.ntmps56
  go_wp2_with fail
  have hB := heap_alloc_new w (.cells #[.int .u64 hd.epoch, .int .i64 hd.area, .int .i64 hd.used] 36)
  have o1 := (Only.refl (fun _ => False) w).alloc (.cells #[.int .u64 hd.epoch, .int .i64 hd.area, .int .i64 hd.used] 36)
  generalize w.alloc (.cells #[.int .u64 hd.epoch, .int .i64 hd.area, .int .i64 hd.used] 36) = w1 at *
  have HP0 : Hid (PutAt w0 w w1 F R L d l s hd sa n laid 0) := ⟨F, d, (RLWent.refl ((unhide H).same o1)).box o1, hB, hFH, by show _ = _; rw [Nat.sub_zero], Nat.le_refl _, rfl⟩
  clear hB o1
  go_loopw [9] (fun i wr => ∃ k j : Nat, k ≤ n ∧ i = .int .i64 j ∧ Hid (j = k * 64) ∧ PutAt w0 w wr F R L d l s hd sa n laid k) (fun i _ => laid.length - (intOf i).toNat)
  case atStart => exact ⟨0, 0, Nat.zero_le _, rfl, rfl, unhide HP0⟩
  case round =>
    obtain ⟨k, j, hk, rfl, HJ, F1, d1, hwt, hB, hF1, HEQ, hw1, HLN⟩ := hrel
    have HWT := hide hwt
    have HB := hide hB
    obtain ⟨c0, c1, c2, c3, c4, c5, cf⟩ := hwt.lg.lg.cells
    obtain ⟨k0, k1, k2, kf⟩ := cells_three hB
    have hHL : d1.half = d.half := half_len (unhide HLN)
    have HHL := hide hHL
    clear hwt hB hHL HP0
    by_cases hlt : k < n
    · have hjl : j + 64 ≤ laid.length := by rw [unhide HJ, unhide HLL]; have : (k + 1) * 64 ≤ n * 64 := Nat.mul_le_mul_right 64 hlt; omega
      have hji : (j : Int) < laid.length := by omega
      have hjq : (j : Int) / 64 = (k : Int) := by have := unhide HJ; omega
      have hja : IntKind.i64.wrap ((j : Int) + 64) = ((j + 64 : Nat) : Int) := by rw [IntKind.wrap_i64]; omega
      obtain ⟨j2, hj2⟩ : ∃ j2, j2 = j + 64 := ⟨_, rfl⟩
      rw [← hj2] at hja
      obtain ⟨sk, hsk⟩ : ∃ sk, sk = sa + k := ⟨_, rfl⟩
      have hwr : IntKind.i64.wrap ((sa : Int) + (k : Int)) = (sk : Int) := by
        have h1 := unhide HIN
        have h2 := (unhide H).rk.fine.n2
        rw [IntKind.wrap_i64]; omega
      have hwkk : IntKind.i64.wrap (k : Int) = (k : Int) := by rw [IntKind.wrap_i64]; omega
      have HPRE := hide ((unhide HWT).has (unhide HX) (unhide HXB))
      have hchk := Has.chunk (unhide HPRE).1 k (by rw [unhide HLL]; exact Nat.mul_le_mul_right 64 hlt)
      have hcl : (chunk laid k).length = 64 := by
        unfold chunk
        have h1 := unhide HJ
        simp only [List.length_take, List.length_drop]
        omega
      obtain ⟨sv, hsv⟩ : ∃ sv, sv = Value.slice (xo.map (fun x => x.add j)) 64 (xc - j) := ⟨_, rfl⟩
      have hsb : blk sv = blk (.slice xo laid.length xc) := by rw [hsv]; exact blk_add _ _ _ _ _ _
      rw [← unhide HJ, ← hsv] at hchk
      have HWD := hide (fun (w' : World) (o : Only (fun _ => False) wr w') => rks_write ((unhide HWT).lg.same o).rk (by omega) ((sk : Nat) : Int) sv (chunk laid k) (hchk.only o (fun _ _ _ h => h)) (fun hne i hi => ((unhide HPRE).2 (fun e => hne (by rw [e]; simp [chunk])) i (by rw [← hsb]; exact hi)).1))
      have HWN : Hid (d1.writeE (sk : Nat) (chunk laid k) ≠ 0 → d1.writeE (sk : Nat) (chunk laid k) = 9) := Dk.writeE_nine d1 sk (chunk laid k) (by rw [unhide HLN, hsk]; have := unhide HIN; omega) hcl
      have HST : Hid (wrFrom sa laid n 0 d = if d1.writeE (sk : Nat) (chunk laid k) = 0 then wrFrom sa laid (n - (k + 1)) (k + 1) (d1.write (sk : Nat) (chunk laid k)) else (d1.write (sk : Nat) (chunk laid k), d1.writeE (sk : Nat) (chunk laid k))) := by
        show wrFrom sa laid n 0 d = _
        rw [unhide HEQ, show n - k = n - (k + 1) + 1 by omega, hsk]
        rfl
      have hd2w := Dk.write_works d1 ((sk : Nat) : Int) (chunk laid k)
      have hd2s := Dk.write_secs d1 ((sk : Nat) : Int) (chunk laid k)
      obtain ⟨we, hwe⟩ : ∃ we, we = d1.writeE ((sk : Nat) : Int) (chunk laid k) := ⟨_, rfl⟩
      obtain ⟨d2, hd2⟩ : ∃ d2, d2 = d1.write ((sk : Nat) : Int) (chunk laid k) := ⟨_, rfl⟩
      rw [← hwe, ← hd2] at HWD HST
      rw [← hwe] at HWN
      rw [← hd2] at hd2w hd2s
      have HD2S := hide hd2s
      have HSV := hide hsv
      have HJ2 := hide hj2
      have hxj : ¬ xc = j := by omega
      have hj2a : (j : Int) ≤ j2 := by omega
      have hj2b : (j2 : Int) ≤ xc := by omega
      have hj2c : j2 - j = 64 := by omega
      clear hwe hd2 hd2s hchk hsb hsv hcl hsk hj2
      have HH1 := hide (fun (w' : World) (o : Only (fun _ => False) wr w') => rlen_any ((unhide HWT).lg.same o).rk)
      rw [unhide HHL] at HH1
      go_wp2_with fail
      refine wp_region_held_drew (S := (fun w' => w'.cell? ⟨L, 0, none⟩ = some (.pointer (some ⟨R, 0, none⟩)) ∧ w'.cell? ⟨w.heap.size, 1, none⟩ = some (.int .i64 hd.area))) (by kernel_rfl) (⟨c0, k1⟩) (fun hHeld => ?_)
      refine wpAnyH_take (i := 0) (v := ?v25) rfl (by kernel_rfl) (by kernel_rfl) (by kernel_rfl) (fun _ _ _ h => h) (Or.inl ⟨by rfl, ?hy25⟩) (by assumption) ?rest25
      case hy25 =>
        intro w hSw
        go_simp
        try with_reducible rfl
      try simp only [Act.put, List.setIfInBounds_toArray, List.set_cons_zero, List.set_cons_succ, List.getElem_toArray, List.getElem_cons_succ, List.getElem_cons_zero]
      refine wpAnyH_take (i := 1) (v := ?v26) rfl (by kernel_rfl) (by kernel_rfl) (by kernel_rfl) (fun _ _ _ h => h) (Or.inl ⟨by rfl, ?hy26⟩) (by assumption) ?rest26
      case hy26 =>
        intro w hSw
        go_simp
        try with_reducible rfl
      try simp only [Act.put, List.setIfInBounds_toArray, List.set_cons_zero, List.set_cons_succ, List.getElem_toArray, List.getElem_cons_succ, List.getElem_cons_zero]
      refine wpAnyH_take (i := 2) (v := ?v27) rfl (by kernel_rfl) (by kernel_rfl) (by kernel_rfl) (fun _ _ _ h => h) (Or.inl ⟨by rfl, ?hy27⟩) (by assumption) ?rest27
      case hy27 =>
        intro w hSw
        go_simp
        try with_reducible rfl
      try simp only [Act.put, List.setIfInBounds_toArray, List.set_cons_zero, List.set_cons_succ, List.getElem_toArray, List.getElem_cons_succ, List.getElem_cons_zero]
      refine wpAnyH_take (i := 3) (v := ?v28) rfl (by kernel_rfl) (by kernel_rfl) (by kernel_rfl) (fun _ _ _ h => h) (Or.inl ⟨by rfl, ?hy28⟩) (by assumption) ?rest28
      case hy28 =>
        intro w hSw
        (obtain ⟨q0, q1⟩ := hSw; go_simp; try with_reducible rfl)
      try simp only [Act.put, List.setIfInBounds_toArray, List.set_cons_zero, List.set_cons_succ, List.getElem_toArray, List.getElem_cons_succ, List.getElem_cons_zero]
      refine wpAnyH_take (i := 4) (v := ?v29) rfl (by kernel_rfl) (by kernel_rfl) (by kernel_rfl) (fun _ _ _ h => h) (Or.inl ⟨by rfl, ?hy29⟩) (by assumption) ?rest29
      case hy29 =>
        intro w hSw
        go_simp
        try with_reducible rfl
      try simp only [Act.put, List.setIfInBounds_toArray, List.set_cons_zero, List.set_cons_succ, List.getElem_toArray, List.getElem_cons_succ, List.getElem_cons_zero]
      refine wpAnyH_take (i := 5) (v := ?v30) rfl (by kernel_rfl) (by kernel_rfl) (by kernel_rfl) (fun _ _ _ h => h) (Or.inl ⟨by rfl, ?hy30⟩) (by assumption) ?rest30
      case hy30 =>
        intro w hSw
        (obtain ⟨q0, q1⟩ := hSw; go_simp; try with_reducible rfl)
      try simp only [Act.put, List.setIfInBounds_toArray, List.set_cons_zero, List.set_cons_succ, List.getElem_toArray, List.getElem_cons_succ, List.getElem_cons_zero]
      refine wpAnyH_take (i := 6) (v := ?v31) rfl (by kernel_rfl) (by kernel_rfl) (by kernel_rfl) (fun _ _ _ h => h) (Or.inl ⟨by rfl, ?hy31⟩) (by assumption) ?rest31
      case hy31 =>
        intro w hSw
        go_simp
        try with_reducible rfl
      try simp only [Act.put, List.setIfInBounds_toArray, List.set_cons_zero, List.set_cons_succ, List.getElem_toArray, List.getElem_cons_succ, List.getElem_cons_zero]
      refine wpAnyH_take (i := 7) (v := ?v32) rfl (by kernel_rfl) (by kernel_rfl) (by kernel_rfl) (fun _ _ _ h => h) (Or.inl ⟨by rfl, ?hy32⟩) (by assumption) ?rest32
      case hy32 =>
        intro w hSw
        go_simp
        try with_reducible rfl
      try simp only [Act.put, List.setIfInBounds_toArray, List.set_cons_zero, List.set_cons_succ, List.getElem_toArray, List.getElem_cons_succ, List.getElem_cons_zero]
      refine wpAnyH_take (i := 8) (v := ?v33) rfl (by kernel_rfl) (by kernel_rfl) (by kernel_rfl) (fun _ _ _ h => h) (Or.inl ⟨by rfl, ?hy33⟩) (by assumption) ?rest33
      case hy33 =>
        intro w hSw
        go_simp
        try with_reducible rfl
      try simp only [Act.put, List.setIfInBounds_toArray, List.set_cons_zero, List.set_cons_succ, List.getElem_toArray, List.getElem_cons_succ, List.getElem_cons_zero]
      refine wpAnyH_take (i := 9) (v := ?v34) rfl (by kernel_rfl) (by kernel_rfl) (by kernel_rfl) (fun _ _ _ h => h) (Or.inl ⟨by rfl, ?hy34⟩) (by assumption) ?rest34
      case hy34 =>
        intro w hSw
        (obtain ⟨q0, q1⟩ := hSw; go_simp; try with_reducible rfl)
      try simp only [Act.put, List.setIfInBounds_toArray, List.set_cons_zero, List.set_cons_succ, List.getElem_toArray, List.getElem_cons_succ, List.getElem_cons_zero]
      refine wpAnyH_take (i := 13) (v := ?v35) rfl (by kernel_rfl) (by kernel_rfl) (by kernel_rfl) (fun _ _ _ h => h) (Or.inl ⟨by rfl, ?hy35⟩) (by assumption) ?rest35
      case hy35 =>
        intro w hSw
        go_simp
        try with_reducible rfl
      try simp only [Act.put, List.setIfInBounds_toArray, List.set_cons_zero, List.set_cons_succ, List.getElem_toArray, List.getElem_cons_succ, List.getElem_cons_zero]
      refine wpAnyH_take (i := 15) (v := ?v36) rfl (by kernel_rfl) (by kernel_rfl) (by kernel_rfl) (fun _ _ _ h => h) (Or.inl ⟨by rfl, ?hy36⟩) (by assumption) ?rest36
      case hy36 =>
        intro w hSw
        go_simp
        try with_reducible rfl
      try simp only [Act.put, List.setIfInBounds_toArray, List.set_cons_zero, List.set_cons_succ, List.getElem_toArray, List.getElem_cons_succ, List.getElem_cons_zero]
      refine wpAnyH_take (i := 16) (v := ?v37) rfl (by kernel_rfl) (by kernel_rfl) (by kernel_rfl) (fun _ _ _ h => h) (Or.inl ⟨by rfl, ?hy37⟩) (by assumption) ?rest37
      case hy37 =>
        intro w hSw
        go_simp
        try with_reducible rfl
      try simp only [Act.put, List.setIfInBounds_toArray, List.set_cons_zero, List.set_cons_succ, List.getElem_toArray, List.getElem_cons_succ, List.getElem_cons_zero]
      refine wpAnyH_take (i := 18) (v := ?v38) rfl (by kernel_rfl) (by kernel_rfl) (by kernel_rfl) (fun _ _ _ h => h) (Or.inl ⟨by rfl, ?hy38⟩) (by assumption) ?rest38
      case hy38 =>
        intro w hSw
        go_simp
        try with_reducible rfl
      try simp only [Act.put, List.setIfInBounds_toArray, List.set_cons_zero, List.set_cons_succ, List.getElem_toArray, List.getElem_cons_succ, List.getElem_cons_zero]
      refine wpAnyH_take (i := 19) (v := ?v39) rfl (by kernel_rfl) (by kernel_rfl) (by kernel_rfl) (fun _ _ _ h => h) (Or.inl ⟨by rfl, ?hy39⟩) (by assumption) ?rest39
      case hy39 =>
        intro w hSw
        go_simp
        try with_reducible rfl
      try simp only [Act.put, List.setIfInBounds_toArray, List.set_cons_zero, List.set_cons_succ, List.getElem_toArray, List.getElem_cons_succ, List.getElem_cons_zero]
      refine wpAnyH_take (i := 20) (v := ?v40) rfl (by kernel_rfl) (by kernel_rfl) (by kernel_rfl) (fun _ _ _ h => h) (Or.inl ⟨by rfl, ?hy40⟩) (by assumption) ?rest40
      case hy40 =>
        intro w hSw
        go_simp
        try with_reducible rfl
      try simp only [Act.put, List.setIfInBounds_toArray, List.set_cons_zero, List.set_cons_succ, List.getElem_toArray, List.getElem_cons_succ, List.getElem_cons_zero]
      refine wpAnyH_take (i := 21) (v := ?v41) rfl (by kernel_rfl) (by kernel_rfl) (by kernel_rfl) (fun _ _ _ h => h) (Or.inl ⟨by rfl, ?hy41⟩) (by assumption) ?rest41
      case hy41 =>
        intro w hSw
        go_simp
        try with_reducible rfl
      try simp only [Act.put, List.setIfInBounds_toArray, List.set_cons_zero, List.set_cons_succ, List.getElem_toArray, List.getElem_cons_succ, List.getElem_cons_zero]
      refine wpAnyH_take (i := 22) (v := ?v42) rfl (by kernel_rfl) (by kernel_rfl) (by kernel_rfl) (fun _ _ _ h => h) (Or.inl ⟨by rfl, ?hy42⟩) (by assumption) ?rest42
      case hy42 =>
        intro w hSw
        (go_simp; rw [← unhide HSV])
      try simp only [Act.put, List.setIfInBounds_toArray, List.set_cons_zero, List.set_cons_succ, List.getElem_toArray, List.getElem_cons_succ, List.getElem_cons_zero]
      refine wpAnyH_ready (rs := [10]) (by kernel_rfl) (by simp) ?_
      refine AllReadyH.cons rfl (fun K hK => ?_) AllReadyH.nil
      go_simp
      go_wp2_with fail; refine (unhide HH1 _ ((Only.refl _ _).drew)).mono ?_; rintro e wy ⟨rfl, hwy⟩; subst hwy
      refine hK.out _ _ (⟨c0, k1⟩) (fun hHeld => ?_)
      clear hK K
      try simp only [Act.put, List.setIfInBounds_toArray, List.set_cons_zero, List.set_cons_succ, List.getElem_toArray, List.getElem_cons_succ, List.getElem_cons_zero]
      refine wpAnyH_take (i := 11) (v := ?v43) rfl (by kernel_rfl) (by kernel_rfl) (by kernel_rfl) (fun _ _ _ h => h) (Or.inl ⟨by rfl, ?hy43⟩) (by assumption) ?rest43
      case hy43 =>
        intro w hSw
        go_simp
        try with_reducible rfl
      try simp only [Act.put, List.setIfInBounds_toArray, List.set_cons_zero, List.set_cons_succ, List.getElem_toArray, List.getElem_cons_succ, List.getElem_cons_zero]
      refine wpAnyH_take (i := 12) (v := ?v44) rfl (by kernel_rfl) (by kernel_rfl) (by kernel_rfl) (fun _ _ _ h => h) (Or.inl ⟨by rfl, ?hy44⟩) (by assumption) ?rest44
      case hy44 =>
        intro w hSw
        go_simp
        try with_reducible rfl
      try simp only [Act.put, List.setIfInBounds_toArray, List.set_cons_zero, List.set_cons_succ, List.getElem_toArray, List.getElem_cons_succ, List.getElem_cons_zero]
      refine wpAnyH_take (i := 14) (v := ?v45) rfl (by kernel_rfl) (by kernel_rfl) (by kernel_rfl) (fun _ _ _ h => h) (Or.inl ⟨by rfl, ?hy45⟩) (by assumption) ?rest45
      case hy45 =>
        intro w hSw
        go_simp
        try with_reducible rfl
      try simp only [Act.put, List.setIfInBounds_toArray, List.set_cons_zero, List.set_cons_succ, List.getElem_toArray, List.getElem_cons_succ, List.getElem_cons_zero]
      refine wpAnyH_take (i := 17) (v := ?v46) rfl (by kernel_rfl) (by kernel_rfl) (by kernel_rfl) (fun _ _ _ h => h) (Or.inl ⟨by rfl, ?hy46⟩) (by assumption) ?rest46
      case hy46 =>
        intro w hSw
        go_simp
        try with_reducible rfl
      try simp only [Act.put, List.setIfInBounds_toArray, List.set_cons_zero, List.set_cons_succ, List.getElem_toArray, List.getElem_cons_succ, List.getElem_cons_zero]
      refine wpAnyH_ready (rs := [23]) (by kernel_rfl) (by simp) ?_
      refine AllReadyH.cons rfl (fun K hK => ?_) AllReadyH.nil
      go_simp
      go_wp2_with fail; refine (unhide HWD _ ((Only.refl _ _).drew)).mono ?_; rintro e w2 ⟨rfl, F2, hw2⟩; have HW2 := hide (RLWent.trans ⟨(unhide HWT).lg.same ((Only.refl _ wr).drew), (unhide HWT).only.drew, (unhide HWT).grew⟩ (((unhide HWT).lg.same ((Only.refl _ wr).drew)).went hw2 (by rw [unhide HD2S]) (by omega))); have HB2 := hide (hw2.only.heap (((Only.refl (fun _ => False) wr).drew).heap (unhide HB) (fun h => h)) hF1); have hF2 : ¬ F2 w.heap.size := (fun e => by { rcases hw2.grew _ e with e | e; exact hF1 e; have h1 := lt_of_block (unhide HB); have h2 : wr.drew.heap.size = wr.heap.size := rfl; omega }); have d0 := (unhide HW2).lg.lg.cells.1; obtain ⟨e0, e1, e2, ef⟩ := cells_three (unhide HB2)
      refine hK.out _ _ (⟨d0, e1⟩) (fun hHeld => ?_)
      clear hK K
      try simp only [Act.put, List.setIfInBounds_toArray, List.set_cons_zero, List.set_cons_succ, List.getElem_toArray, List.getElem_cons_succ, List.getElem_cons_zero]
      refine wpAnyH_take (i := 24) (v := ?v47) rfl (by kernel_rfl) (by kernel_rfl) (by kernel_rfl) (fun _ _ _ h => h) (Or.inl ⟨by rfl, ?hy47⟩) (by assumption) ?rest47
      case hy47 =>
        intro w hSw
        go_simp
        try with_reducible rfl
      try simp only [Act.put, List.setIfInBounds_toArray, List.set_cons_zero, List.set_cons_succ, List.getElem_toArray, List.getElem_cons_succ, List.getElem_cons_zero]
      refine wpAnyH_done (by kernel_rfl) ?_ _
      have HLN2 : Hid (d2.secs.length = d.secs.length) := by show d2.secs.length = d.secs.length; rw [unhide HD2S, unhide HLN]
      clear hw2 d0 e0 e1 e2 ef hHeld HWD HH1 c0 c1 c2 c3 c4 c5 cf k0 k1 k2 kf hwr hwm hwp hwq hxj hj2a hj2b hj2c hjq hwkk
      by_cases hwe0 : we = 0
      · rw [if_pos hwe0] at HST
        subst hwe0
        go_wp2_with fail
        go_roundw
        case rel => exact ⟨k + 1, j2, by omega, rfl, by show j2 = (k + 1) * 64; have h1 := unhide HJ; have h2 := unhide HJ2; omega, F2, d2, unhide HW2, unhide HB2, hF2, HST, by omega, HLN2⟩
        case measure => have h2 := unhide HJ2; simp [intOf]; omega
      · have h9 := unhide HWN hwe0
        rw [if_neg hwe0] at HST
        clear hwe0 HWN
        subst h9
        have HC : Hid (commit l d hd sa laid = ⟨{ l with dead := true }, d2, 9⟩) := by
          show commit l d hd sa laid = _
          rw [unhide HCM, unhide HST]
          rfl
        have HF := hide (rfails_any (unhide HW2).lg)
        go_wp2_with fail
        refine (unhide HF).mono ?_
        rintro e w3 ⟨rfl, h3⟩
        have HW3 := hide ((unhide HW2).trans h3)
        clear h3
        go_wp2
        go_ret
        rw [unhide HC]
        exact ⟨rfl, F2, s, unhide HW3⟩
    · obtain rfl : k = n := by omega
      have hji : ¬ (j : Int) < laid.length := by have h1 := unhide HJ; have h2 := unhide HLL; omega
      have HFL := hide (rks_flush (unhide HWT).lg.rk (by omega))
      have HST : Hid (wrFrom sa laid k 0 d = (d1.flush, d1.flushE)) := by
        show wrFrom sa laid k 0 d = _
        rw [unhide HEQ, Nat.sub_self]
        rfl
      have HFN := hide (Dk.flushE_nine d1)
      have hfl := Dk.flush_len d1
      have hfw := Dk.flush_works d1
      obtain ⟨fe, hfe⟩ : ∃ fe, fe = d1.flushE := ⟨_, rfl⟩
      obtain ⟨df, hdf⟩ : ∃ df, df = d1.flush := ⟨_, rfl⟩
      rw [← hfe, ← hdf] at HST
      rw [← hfe, ← hdf] at HFL
      rw [← hfe] at HFN
      rw [← hdf] at hfl hfw
      have HFL2 := hide hfl
      have HFLD : Hid (df.secs.length = d.secs.length) := hfl.trans (unhide HLN)
      clear hfe hdf hfl
      go_wp2_with fail
      refine (unhide HFL).mono ?_
      rintro e w2 ⟨rfl, hw2⟩
      have HW2 := hide ((unhide HWT).trans ((unhide HWT).lg.went hw2 (unhide HFL2) (by omega)))
      have HB2 := hide (hw2.only.heap (unhide HB) hF1)
      clear hw2 c0 c1 c2 c3 c4 c5 cf k0 k1 k2 kf HFL hwm hwp hwq
      by_cases hfe : fe = 0
      · subst hfe
        obtain ⟨c0, c1, c2, c3, c4, c5, cf⟩ := (unhide HW2).lg.lg.cells
        have HSL := hide (unhide HW2).lg.slot
        go_upto_if 56 with fail
        go_cut [10] (fun v wx => v = .int .i64 l.next ∧ wx = w2)
        case first =>
          by_cases hs0 : s = 0
          · have hb : (s == 0) = true := by simp [hs0]
            have HNX : Hid (l.next = 1) := by
              rcases unhide HSL with h | h | h
              · omega
              · exact h.2
              · omega
            rw [hb]
            clear hb hs0
            go_wp2_with fail
            go_meet
            case rel => exact ⟨by rw [unhide HNX]; rfl, rfl⟩
          · have hb : (s == 0) = false := by simp [hs0]
            have HNX : Hid (l.next = 0) := by
              rcases unhide HSL with h | h | h
              · exact h.2
              · omega
              · exact h.2
            rw [hb]
            clear hb hs0
            go_wp2_with fail
            go_meet
            case rel => exact ⟨by rw [unhide HNX]; rfl, rfl⟩
        case rest =>
          obtain ⟨rfl, rfl⟩ := hcut
          obtain ⟨k0, k1, k2, kf⟩ := cells_three (unhide HB2)
          clear c0 c1 c2 c3 c4 c5 cf
          obtain ⟨c0, c1, c2, c3, c4, c5, cf⟩ := (unhide HW2).lg.lg.cells
          have HWH := hide (wr_head df l.next hd)
          have hnl : l.next < df.secs.length := by rw [unhide HFLD]; have := unhide HN8; omega
          have HWN := hide (Dk.writeE_nine df l.next hd.lay hnl (Hd.lay_length hd))
          have HWB := hide (fun (w3 : World) (F3 : Nat → Prop) (hl3 : RLogs w0 w3 F3 R L df l s) (y : Value) (hy : Has w3 y hd.lay) (hyb : hd.lay ≠ [] → ∀ j, blk y = some j → ¬ F3 j) => rks_write hl3.rk (by omega) (l.next : Int) y hd.lay hy hyb)
          have hww := Dk.write_works df (l.next : Int) hd.lay
          have hws := Dk.write_secs df (l.next : Int) hd.lay
          obtain ⟨we, hwe⟩ : ∃ we, we = df.writeE (l.next : Int) hd.lay := ⟨_, rfl⟩
          obtain ⟨db, hdb⟩ : ∃ db, db = df.write (l.next : Int) hd.lay := ⟨_, rfl⟩
          rw [← hwe, ← hdb] at HWH HWB
          rw [← hwe] at HWN
          rw [← hdb] at hww hws
          have HWS := hide hws
          have HC0 : Hid (commit l d hd sa laid = let b := (if we = 0 then (db.flush, db.flushE) else (db, we)); if b.2 = 0 then ⟨⟨hd, 1 - l.next, l.dead⟩, b.1, 0⟩ else ⟨{ l with dead := true }, b.1, b.2⟩) := by
            show commit l d hd sa laid = _
            rw [unhide HCM, unhide HST, if_pos rfl]
            dsimp only
            rw [unhide HWH]
          clear hwe hdb hws hnl
          go_wp2_with fail
          refine wp_region_held_drew (S := (fun w' => w'.cell? ⟨L, 0, none⟩ = some (.pointer (some ⟨R, 0, none⟩)) ∧ w'.cell? ⟨w.heap.size, 0, none⟩ = some (.int .u64 hd.epoch) ∧ w'.cell? ⟨w.heap.size, 1, none⟩ = some (.int .i64 hd.area) ∧ w'.cell? ⟨w.heap.size, 2, none⟩ = some (.int .i64 hd.used))) (by kernel_rfl) (⟨c0, k0, k1, k2⟩) (fun hHeld => ?_)
          refine wpAnyH_take (i := 0) (v := ?v48) rfl (by kernel_rfl) (by kernel_rfl) (by kernel_rfl) (fun _ _ _ h => h) (Or.inl ⟨by rfl, ?hy48⟩) (by assumption) ?rest48
          case hy48 =>
            intro w hSw
            go_simp
            try with_reducible rfl
          try simp only [Act.put, List.setIfInBounds_toArray, List.set_cons_zero, List.set_cons_succ, List.getElem_toArray, List.getElem_cons_succ, List.getElem_cons_zero]
          refine wpAnyH_take (i := 1) (v := ?v49) rfl (by kernel_rfl) (by kernel_rfl) (by kernel_rfl) (fun _ _ _ h => h) (Or.inl ⟨by rfl, ?hy49⟩) (by assumption) ?rest49
          case hy49 =>
            intro w hSw
            go_simp
            try with_reducible rfl
          try simp only [Act.put, List.setIfInBounds_toArray, List.set_cons_zero, List.set_cons_succ, List.getElem_toArray, List.getElem_cons_succ, List.getElem_cons_zero]
          refine wpAnyH_take (i := 2) (v := ?v50) rfl (by kernel_rfl) (by kernel_rfl) (by kernel_rfl) (fun _ _ _ h => h) (Or.inl ⟨by rfl, ?hy50⟩) (by assumption) ?rest50
          case hy50 =>
            intro w hSw
            go_simp
            try with_reducible rfl
          try simp only [Act.put, List.setIfInBounds_toArray, List.set_cons_zero, List.set_cons_succ, List.getElem_toArray, List.getElem_cons_succ, List.getElem_cons_zero]
          refine wpAnyH_take (i := 3) (v := ?v51) rfl (by kernel_rfl) (by kernel_rfl) (by kernel_rfl) (fun _ _ _ h => h) (Or.inl ⟨by rfl, ?hy51⟩) (by assumption) ?rest51
          case hy51 =>
            intro w hSw
            (obtain ⟨q4, q0, q1, q2⟩ := hSw; go_simp; try with_reducible rfl)
          try simp only [Act.put, List.setIfInBounds_toArray, List.set_cons_zero, List.set_cons_succ, List.getElem_toArray, List.getElem_cons_succ, List.getElem_cons_zero]
          refine wpAnyH_take (i := 4) (v := ?v52) rfl (by kernel_rfl) (by kernel_rfl) (by kernel_rfl) (fun _ _ _ h => h) (Or.inl ⟨by rfl, ?hy52⟩) (by assumption) ?rest52
          case hy52 =>
            intro w hSw
            go_simp
            try with_reducible rfl
          try simp only [Act.put, List.setIfInBounds_toArray, List.set_cons_zero, List.set_cons_succ, List.getElem_toArray, List.getElem_cons_succ, List.getElem_cons_zero]
          refine wpAnyH_take (i := 5) (v := ?v53) rfl (by kernel_rfl) (by kernel_rfl) (by kernel_rfl) (fun _ _ _ h => h) (Or.inl ⟨by rfl, ?hy53⟩) (by assumption) ?rest53
          case hy53 =>
            intro w hSw
            (obtain ⟨q4, q0, q1, q2⟩ := hSw; go_simp; try with_reducible rfl)
          try simp only [Act.put, List.setIfInBounds_toArray, List.set_cons_zero, List.set_cons_succ, List.getElem_toArray, List.getElem_cons_succ, List.getElem_cons_zero]
          refine wpAnyH_ready (rs := [6]) (by kernel_rfl) (by simp) ?_
          refine AllReadyH.cons rfl (fun K hK => ?_) AllReadyH.nil
          go_simp
          go_wp2_with fail; refine (rheadLay_any hd _ hE (by omega) (by omega)).mono ?_; rintro e w3 ⟨y3, rfl, hy3, o3⟩; have o23 : Only (fun _ => False) wc w3 := ((Only.refl _ _).drew).trans o3 (fun _ _ e => e); have HW3 := hide ((unhide HW2).same o23); have HB3 := hide (o23.heap (unhide HB2) (fun h => h)); have c0' := (unhide HW3).lg.lg.cells.1; obtain ⟨k0', k1', k2', kf'⟩ := cells_three (unhide HB3); have HY3 : Hid (Has w3 y3 hd.lay ∧ ∀ j, blk y3 = some j → wc.heap.size ≤ j) := ⟨Has.ofOwns hy3.out, owns_fresh hy3⟩; clear hy3 o23 o3
          refine hK.out _ _ (⟨c0', k0', k1', k2'⟩) (fun hHeld => ?_)
          clear hK K
          try simp only [Act.put, List.setIfInBounds_toArray, List.set_cons_zero, List.set_cons_succ, List.getElem_toArray, List.getElem_cons_succ, List.getElem_cons_zero]
          refine wpAnyH_ready (rs := [7]) (by kernel_rfl) (by simp) ?_
          refine AllReadyH.cons rfl (fun K hK => ?_) AllReadyH.nil
          go_simp
          go_wp2_with fail; refine (unhide HWB w3 F1 (unhide HW3).lg y3 (unhide HY3).1 (fun _ j hj e => by have := (unhide HY3).2 j hj; have h1 := (unhide HW2).lg.rk.lt j e; omega)).mono ?_; rintro e w4 ⟨rfl, F4, hw4⟩; have HW4 := hide ((unhide HW3).trans ((unhide HW3).lg.went hw4 (by rw [unhide HWS]) (by omega))); have HB4 := hide (hw4.only.heap (unhide HB3) hF1); have hF4 : ¬ F4 w.heap.size := (fun e => by { rcases hw4.grew _ e with e | e; exact hF1 e; have h1 := lt_of_block (unhide HB3); omega }); have c0'' := (unhide HW4).lg.lg.cells.1; obtain ⟨k0'', k1'', k2'', kf''⟩ := cells_three (unhide HB4); clear hw4
          refine hK.out _ _ (⟨c0'', k0'', k1'', k2''⟩) (fun hHeld => ?_)
          clear hK K
          try simp only [Act.put, List.setIfInBounds_toArray, List.set_cons_zero, List.set_cons_succ, List.getElem_toArray, List.getElem_cons_succ, List.getElem_cons_zero]
          by_cases hw0 : we = 0
          · subst hw0
            have HFL := hide (fun (w' : World) (o : Only (fun _ => False) w4 w') => rks_flush ((unhide HW4).lg.same o).rk (by omega))
            have HFN2 := hide (Dk.flushE_nine db)
            have hfl2 := Dk.flush_len db
            have hfw2 := Dk.flush_works db
            obtain ⟨fe, hfe⟩ : ∃ fe, fe = db.flushE := ⟨_, rfl⟩
            obtain ⟨de, hde⟩ : ∃ de, de = db.flush := ⟨_, rfl⟩
            rw [← hfe, ← hde] at HC0
            rw [← hfe, ← hde] at HFL
            rw [← hfe] at HFN2
            rw [← hde] at hfl2 hfw2
            have HFL3 := hide hfl2
            clear hfe hde hfl2
            refine wpAnyH_take (i := 8) (v := ?v54) rfl (by kernel_rfl) (by kernel_rfl) (by kernel_rfl) (fun _ _ _ h => h) (Or.inl ⟨by rfl, ?hy54⟩) (by assumption) ?rest54
            case hy54 =>
              intro w hSw
              go_simp
              try with_reducible rfl
            try simp only [Act.put, List.setIfInBounds_toArray, List.set_cons_zero, List.set_cons_succ, List.getElem_toArray, List.getElem_cons_succ, List.getElem_cons_zero]
            refine wpAnyH_take (i := 9) (v := ?v55) rfl (by kernel_rfl) (by kernel_rfl) (by kernel_rfl) (fun _ _ _ h => h) (Or.inl ⟨by rfl, ?hy55⟩) (by assumption) ?rest55
            case hy55 =>
              intro w hSw
              go_simp
              try with_reducible rfl
            try simp only [Act.put, List.setIfInBounds_toArray, List.set_cons_zero, List.set_cons_succ, List.getElem_toArray, List.getElem_cons_succ, List.getElem_cons_zero]
            refine wpAnyH_take (i := 10) (v := ?v56) rfl (by kernel_rfl) (by kernel_rfl) (by kernel_rfl) (fun _ _ _ h => h) (Or.inl ⟨by rfl, ?hy56⟩) (by assumption) ?rest56
            case hy56 =>
              intro w hSw
              go_simp
              try with_reducible rfl
            try simp only [Act.put, List.setIfInBounds_toArray, List.set_cons_zero, List.set_cons_succ, List.getElem_toArray, List.getElem_cons_succ, List.getElem_cons_zero]
            refine wpAnyH_take (i := 11) (v := ?v57) rfl (by kernel_rfl) (by kernel_rfl) (by kernel_rfl) (fun _ _ _ h => h) (Or.inl ⟨by rfl, ?hy57⟩) (by assumption) ?rest57
            case hy57 =>
              intro w hSw
              go_simp
              try with_reducible rfl
            try simp only [Act.put, List.setIfInBounds_toArray, List.set_cons_zero, List.set_cons_succ, List.getElem_toArray, List.getElem_cons_succ, List.getElem_cons_zero]
            refine wpAnyH_take (i := 12) (v := ?v58) rfl (by kernel_rfl) (by kernel_rfl) (by kernel_rfl) (fun _ _ _ h => h) (Or.inl ⟨by rfl, ?hy58⟩) (by assumption) ?rest58
            case hy58 =>
              intro w hSw
              go_simp
              try with_reducible rfl
            try simp only [Act.put, List.setIfInBounds_toArray, List.set_cons_zero, List.set_cons_succ, List.getElem_toArray, List.getElem_cons_succ, List.getElem_cons_zero]
            refine wpAnyH_take (i := 13) (v := ?v59) rfl (by kernel_rfl) (by kernel_rfl) (by kernel_rfl) (fun _ _ _ h => h) (Or.inl ⟨by rfl, ?hy59⟩) (by assumption) ?rest59
            case hy59 =>
              intro w hSw
              (obtain ⟨q4, q0, q1, q2⟩ := hSw; go_simp; try with_reducible rfl)
            try simp only [Act.put, List.setIfInBounds_toArray, List.set_cons_zero, List.set_cons_succ, List.getElem_toArray, List.getElem_cons_succ, List.getElem_cons_zero]
            refine wpAnyH_ready (rs := [14]) (by kernel_rfl) (by simp) ?_
            refine AllReadyH.cons rfl (fun K hK => ?_) AllReadyH.nil
            go_simp
            go_wp2_with fail; refine (unhide HFL _ (Only.refl _ _)).mono ?_; rintro e w5 ⟨rfl, hw5⟩; have HW5 := hide (RLWent.trans (unhide HW4) ((unhide HW4).lg.went hw5 (unhide HFL3) (by omega))); have HB5 := hide (hw5.only.heap (unhide HB4) hF4); have m0 := (unhide HW5).lg.lg.cells.1; obtain ⟨m1, m2, m3, mf⟩ := cells_three (unhide HB5); clear hw5
            refine hK.out _ _ (⟨m0, m1, m2, m3⟩) (fun hHeld => ?_)
            clear hK K
            try simp only [Act.put, List.setIfInBounds_toArray, List.set_cons_zero, List.set_cons_succ, List.getElem_toArray, List.getElem_cons_succ, List.getElem_cons_zero]
            refine wpAnyH_take (i := 15) (v := ?v60) rfl (by kernel_rfl) (by kernel_rfl) (by kernel_rfl) (fun _ _ _ h => h) (Or.inl ⟨by rfl, ?hy60⟩) (by assumption) ?rest60
            case hy60 =>
              intro w hSw
              go_simp
              try with_reducible rfl
            try simp only [Act.put, List.setIfInBounds_toArray, List.set_cons_zero, List.set_cons_succ, List.getElem_toArray, List.getElem_cons_succ, List.getElem_cons_zero]
            refine wpAnyH_take (i := 16) (v := ?v61) rfl (by kernel_rfl) (by kernel_rfl) (by kernel_rfl) (fun _ _ _ h => h) (Or.inl ⟨by rfl, ?hy61⟩) (by assumption) ?rest61
            case hy61 =>
              intro w hSw
              go_simp
              try with_reducible rfl
            try simp only [Act.put, List.setIfInBounds_toArray, List.set_cons_zero, List.set_cons_succ, List.getElem_toArray, List.getElem_cons_succ, List.getElem_cons_zero]
            refine wpAnyH_done (by kernel_rfl) ?_ _
            clear c0 c1 c2 c3 c4 c5 cf k0 k1 k2 kf c0' k0' k1' k2' kf' c0'' k0'' k1'' k2'' kf'' m0 m1 m2 m3 mf hHeld
            by_cases hf0 : fe = 0
            · subst hf0
              obtain ⟨c0, c1, c2, c3, c4, c5, cf⟩ := (unhide HW5).lg.lg.cells
              obtain ⟨k0, k1, k2, kf⟩ := cells_three (unhide HB5)
              have HC : Hid (commit l d hd sa laid = ⟨⟨hd, 1 - l.next, l.dead⟩, de, 0⟩) := by
                show commit l d hd sa laid = _
                rw [unhide HC0]
                rfl
              go_wp2
              go_ret
              have hP := (unhide HW5).lg.lg.put hd (1 - l.next) (l.next : Int)
              have hPO := Only.put (Only.refl (fun k => k = L) w5) (fun _ => rfl) (.int .u64 hd.epoch) (.int .i64 hd.area) (.int .i64 hd.used) (.int .i64 (l.next : Int))
              have hH : de.half = d.half := half_len ((unhide HFL3).trans ((congrArg List.length (unhide HWS)).trans (unhide HFLD)))
              have hsl : slotOk (l.next : Int) (1 - l.next) := by unfold slotOk; omega
              rw [unhide HC]
              exact ⟨rfl, F4, _, (unhide HW5).turn hP hPO hsl ⟨hE, hA, by rw [hH]; exact hU, by show 1 - l.next ≤ 1; omega⟩⟩
            · have h9 := unhide HFN2 hf0
              clear hf0 HFN2
              subst h9
              have HC : Hid (commit l d hd sa laid = ⟨{ l with dead := true }, de, 9⟩) := by
                show commit l d hd sa laid = _
                rw [unhide HC0]
                rfl
              have HF := hide (rfails_any (unhide HW5).lg)
              go_wp2_with fail
              refine (unhide HF).mono ?_
              rintro e w6 ⟨rfl, h6⟩
              have HW6 := hide ((unhide HW5).trans h6)
              clear h6
              go_wp2
              go_ret
              rw [unhide HC]
              exact ⟨rfl, F4, s, unhide HW6⟩
          · have h9 := unhide HWN hw0
            rw [if_neg hw0] at HC0
            clear hw0 HWN
            subst h9
            refine wpAnyH_take (i := 8) (v := ?v62) rfl (by kernel_rfl) (by kernel_rfl) (by kernel_rfl) (fun _ _ _ h => h) (Or.inl ⟨by rfl, ?hy62⟩) (by assumption) ?rest62
            case hy62 =>
              intro w hSw
              go_simp
              try with_reducible rfl
            try simp only [Act.put, List.setIfInBounds_toArray, List.set_cons_zero, List.set_cons_succ, List.getElem_toArray, List.getElem_cons_succ, List.getElem_cons_zero]
            refine wpAnyH_take (i := 9) (v := ?v63) rfl (by kernel_rfl) (by kernel_rfl) (by kernel_rfl) (fun _ _ _ h => h) (Or.inl ⟨by rfl, ?hy63⟩) (by assumption) ?rest63
            case hy63 =>
              intro w hSw
              go_simp
              try with_reducible rfl
            try simp only [Act.put, List.setIfInBounds_toArray, List.set_cons_zero, List.set_cons_succ, List.getElem_toArray, List.getElem_cons_succ, List.getElem_cons_zero]
            refine wpAnyH_take (i := 10) (v := undef) rfl (by kernel_rfl) (by kernel_rfl) (by kernel_rfl) (fun _ _ _ h => h) (Or.inr ⟨by rfl, rfl⟩) (by assumption) ?_
            try simp only [Act.put, List.setIfInBounds_toArray, List.set_cons_zero, List.set_cons_succ, List.getElem_toArray, List.getElem_cons_succ, List.getElem_cons_zero]
            refine wpAnyH_take (i := 11) (v := undef) rfl (by kernel_rfl) (by kernel_rfl) (by kernel_rfl) (fun _ _ _ h => h) (Or.inr ⟨by rfl, rfl⟩) (by assumption) ?_
            try simp only [Act.put, List.setIfInBounds_toArray, List.set_cons_zero, List.set_cons_succ, List.getElem_toArray, List.getElem_cons_succ, List.getElem_cons_zero]
            refine wpAnyH_take (i := 12) (v := undef) rfl (by kernel_rfl) (by kernel_rfl) (by kernel_rfl) (fun _ _ _ h => h) (Or.inr ⟨by rfl, rfl⟩) (by assumption) ?_
            try simp only [Act.put, List.setIfInBounds_toArray, List.set_cons_zero, List.set_cons_succ, List.getElem_toArray, List.getElem_cons_succ, List.getElem_cons_zero]
            refine wpAnyH_take (i := 13) (v := undef) rfl (by kernel_rfl) (by kernel_rfl) (by kernel_rfl) (fun _ _ _ h => h) (Or.inr ⟨by rfl, rfl⟩) (by assumption) ?_
            try simp only [Act.put, List.setIfInBounds_toArray, List.set_cons_zero, List.set_cons_succ, List.getElem_toArray, List.getElem_cons_succ, List.getElem_cons_zero]
            refine wpAnyH_take (i := 14) (v := undef) rfl (by kernel_rfl) (by kernel_rfl) (by kernel_rfl) (fun _ _ _ h => h) (Or.inr ⟨by rfl, rfl⟩) (by assumption) ?_
            try simp only [Act.put, List.setIfInBounds_toArray, List.set_cons_zero, List.set_cons_succ, List.getElem_toArray, List.getElem_cons_succ, List.getElem_cons_zero]
            refine wpAnyH_take (i := 15) (v := undef) rfl (by kernel_rfl) (by kernel_rfl) (by kernel_rfl) (fun _ _ _ h => h) (Or.inr ⟨by rfl, rfl⟩) (by assumption) ?_
            try simp only [Act.put, List.setIfInBounds_toArray, List.set_cons_zero, List.set_cons_succ, List.getElem_toArray, List.getElem_cons_succ, List.getElem_cons_zero]
            refine wpAnyH_take (i := 16) (v := ?v64) rfl (by kernel_rfl) (by kernel_rfl) (by kernel_rfl) (fun _ _ _ h => h) (Or.inl ⟨by rfl, ?hy64⟩) (by assumption) ?rest64
            case hy64 =>
              intro w hSw
              go_simp
              try with_reducible rfl
            try simp only [Act.put, List.setIfInBounds_toArray, List.set_cons_zero, List.set_cons_succ, List.getElem_toArray, List.getElem_cons_succ, List.getElem_cons_zero]
            refine wpAnyH_done (by kernel_rfl) ?_ _
            have HC : Hid (commit l d hd sa laid = ⟨{ l with dead := true }, db, 9⟩) := by
              show commit l d hd sa laid = _
              rw [unhide HC0]
              rfl
            clear c0 c1 c2 c3 c4 c5 cf k0 k1 k2 kf c0' k0' k1' k2' kf' c0'' k0'' k1'' k2'' kf'' hHeld
            have HF := hide (rfails_any (unhide HW4).lg)
            go_wp2_with fail
            refine (unhide HF).mono ?_
            rintro e w6 ⟨rfl, h6⟩
            have HW6 := hide ((unhide HW4).trans h6)
            clear h6
            go_wp2
            go_ret
            rw [unhide HC]
            exact ⟨rfl, F4, s, unhide HW6⟩
      · have h9 := unhide HFN hfe
        clear hfe HFN
        subst h9
        have HC : Hid (commit l d hd sa laid = ⟨{ l with dead := true }, df, 9⟩) := by
          show commit l d hd sa laid = _
          rw [unhide HCM, unhide HST]
          rfl
        have HF := hide (rfails_any (unhide HW2).lg)
        go_wp2_with fail
        refine (unhide HF).mono ?_
        rintro e w3 ⟨rfl, h3⟩
        have HW3 := hide ((unhide HW2).trans h3)
        clear h3
        go_wp2
        go_ret
        rw [unhide HC]
        exact ⟨rfl, F1, s, unhide HW3⟩
end

end Wal
end Go.Proofs.Ytoffcbopolonoaa

namespace Go.Proofs.Ytoffcbopolonoaa
open Go.RowKit
set_option linter.unusedSimpArgs false
set_option linter.unusedVariables false
namespace Wal

section
variable {w0 w w' : World} {F : Nat → Prop} {R L : Nat} {d : Dk} {l : Lg} {s : Int}

set_option maxHeartbeats 2000000 in
set_option maxRecDepth 100000 in
theorem rreset_any (h : RLogs w0 w F R L d l s) (xv : Value) (u : List UInt8) (hx : Has w xv u) (hxb : u ≠ [] → ∀ j, blk xv = some j → ¬ F j ∧ j ≠ L) (hul : u.length ≤ 10000000) (hwk : d.works ≤ 890000) :
    Calls Try.prog 19 #[.pointer (some ⟨L, 0, none⟩), xv] w fun e w' => e = .returned (.int .i64 (reset l d u).e) ∧ ∃ F' s', RLWent w0 w w' F F' R L (reset l d u).dk (reset l d u).lg s' := by
  have hh := half_le d h.rk.fine
  have hfa := h.fine.area
  have H := hide h
  have HX := hide hx
  have HXB := hide hxb
  obtain ⟨c0, c1, c2, c3, c4, c5, cf⟩ := h.lg.cells
  have HRS : Hid (reset l d u = if l.dead then ⟨l, d, 9⟩ else if d.half < size u then ⟨l, d, 2⟩ else commit l d ⟨next1 l.hd.epoch, 1 - l.hd.area, size u⟩ (start d (1 - l.hd.area)) (lay u)) := rfl
  obtain ⟨xo, xc, hxv, _⟩ := hx.shape
  subst hxv
  clear h hx hxb
  obtain ⟨dead, hdead⟩ : ∃ dead, dead = l.dead := ⟨_, rfl⟩
  rw [← hdead] at c5 HRS
  have HSZ := hide (fun (w' : World) (o : Only (fun _ => False) w w') => rsize_any _ u w' ((unhide HX).only o (fun _ _ _ h => h)) (by omega))
  have HHF := hide (fun (n : Nat) => rlen_any ((unhide H).drews n).rk)
  have hs63 := secsOf_lt (8 + u.length)
  have hsz : size u ≤ 200000 := by unfold size; omega
  clear hs63 hdead
  cases dead with
  | true =>
    go_enter Try.func19, Try.ntmps19
    go_wp2
    go_ret
    rw [unhide HRS]
    exact ⟨rfl, F, s, RLWent.refl (unhide H)⟩
  | false =>
    rw [if_neg (by decide)] at HRS
    by_cases hfull : d.half < size u
    · rw [if_pos hfull] at HRS
      have hfi : (d.half : Int) < size u := by omega
      go_enter Try.func19, Try.ntmps19
      go_wp2_with fail
      go_quiet ((first | (go_at_call 37; exact Calls.quiet_of_same (unhide HSZ _ (Only.drews _))) | (go_at_call 52; exact Calls.quiet_of_same (unhide HHF _))))
      go_wp2
      go_ret
      rw [unhide HRS]
      exact ⟨rfl, F, s, (RLWent.refl (unhide H)).same (Only.drews _)⟩
    · rw [if_neg hfull] at HRS
      have hfi : ¬ (d.half : Int) < size u := by omega
      have hnw := next1_wrap l.hd.epoch
      have hnl := next1_lt l.hd.epoch
      have har0 : (1 : Int) - l.hd.area = ((1 - l.hd.area : Nat) : Int) := by omega
      obtain ⟨ep, hep⟩ : ∃ ep, ep = next1 l.hd.epoch := ⟨_, rfl⟩
      obtain ⟨ar, har⟩ : ∃ ar, ar = 1 - l.hd.area := ⟨_, rfl⟩
      have har1 : ar ≤ 1 := by omega
      rw [← hep] at HRS hnw hnl
      rw [← har] at HRS har0
      have HAR := hide har0
      have hwar : IntKind.i64.wrap (ar : Int) = (ar : Int) := by rw [IntKind.wrap_i64]; omega
      clear hep har har0
      go_enter Try.func19, Try.ntmps19
      go_wp2_with fail
      go_quiet ((first | (go_at_call 37; exact Calls.quiet_of_same (unhide HSZ _ (Only.drews _))) | (go_at_call 52; exact Calls.quiet_of_same (unhide HHF _))))
      obtain ⟨w1, hw1⟩ : ∃ w1, w1 = w.drewN nq := ⟨_, rfl⟩
      have o1 : Only (fun _ => False) w w1 := by rw [hw1]; exact Only.drews nq
      rw [← hw1]
      have HO1 := hide o1
      have HL1 := hide ((unhide H).same o1)
      have HX1 := hide ((unhide HX).only o1 (fun _ _ _ h => h))
      clear hw1 o1 c0 c1 c2 c3 c4 c5 cf
      obtain ⟨c0, c1, c2, c3, c4, c5, cf⟩ := (unhide HL1).lg.cells
      have HLL : Hid ((lay u).length = size u * 64) := lay_length u
      have HCO := hide (fun (w3 : World) (o : Only (fun _ => False) w1 w3) (y : Value) (hy : Has w3 y (lay u)) (hyb : lay u ≠ [] → ∀ j, blk y = some j → ¬ F j ∧ j ≠ L) => rput_any ((unhide HL1).same o) ⟨ep, ar, size u⟩ hnl har1 (by show size u ≤ d.half; omega) 0 (size u) (by omega) y (lay u) hy hyb (unhide HLL) (by omega))
      unfold hv at HCO
      rw [Nat.add_zero] at HCO
      obtain ⟨cm, hcm⟩ : ∃ cm, cm = commit l d ⟨ep, ar, size u⟩ (start d ar) (lay u) := ⟨_, rfl⟩
      simp only [← hcm] at HCO
      rw [← hcm] at HRS
      clear hcm
      have hara : IntKind.i64.wrap (1 - (l.hd.area : Int)) = (ar : Int) := by rw [unhide HAR, hwar]
      clear hwar c0 c3 c4 c5 cf
      go_wp2_with fail
      go_region_with (first | (go_at_call 35; refine (rlay_any _ u w1.drew ((unhide HX1).only ((Only.refl _ _).drew) (fun _ _ _ h => h)) (by omega)).mono ?_; rintro e w3 ⟨y3, rfl, hy3, o3⟩; have o13 : Only (fun _ => False) w1 w3 := ((Only.refl _ _).drew).trans o3 (fun _ _ e => e); have g1 := ((unhide HL1).same o13).lg.cells.2.1; have g2 := ((unhide HL1).same o13).lg.cells.2.2.1; have HY3 : Hid (Has w3 y3 (lay u) ∧ ∀ j, blk y3 = some j → w1.heap.size ≤ j) := ⟨Has.ofOwns hy3.out, owns_fresh hy3⟩; have HO13 := hide o13; clear hy3 o3 o13) | (go_at_call 37; refine (unhide HSZ _ ((unhide HO1).trans (unhide HO13) (fun _ _ e => e))).mono ?_; rintro e w2 ⟨rfl, hw2⟩; subst hw2) | (go_at_call 56; refine (unhide HCO _ (unhide HO13) y3 (unhide HY3).1 (fun _ j hj => by have := (unhide HY3).2 j hj; have := (unhide HL1).lt; exact ⟨fun e => by have := (unhide HL1).rk.lt j e; omega, by omega⟩)).mono ?_; rintro e w4 ⟨rfl, F4, s4, hw4⟩; have HW4 := hide ((hw4.box (unhide HO13)).box (unhide HO1)); clear hw4))
      all_goals (go_wp2; go_ret; rw [unhide HRS]; exact ⟨rfl, F4, s4, unhide HW4⟩)
end

end Wal
end Go.Proofs.Ytoffcbopolonoaa

namespace Go.Proofs.Ytoffcbopolonoaa
open Go.RowKit
set_option linter.unusedSimpArgs false
set_option linter.unusedVariables false
namespace Wal

section
variable {w0 w w' : World} {F : Nat → Prop} {R L : Nat} {d : Dk} {l : Lg} {s : Int}

set_option maxHeartbeats 4000000 in
set_option maxRecDepth 100000 in
theorem rappend_any (h : RLogs w0 w F R L d l s) (xv : Value) (us : List (List UInt8)) (hx : HasU (fun j => ¬ F j ∧ j ≠ L) w xv us) (hss : sizes us ≤ 100000) (hwk : d.works ≤ 890000) :
    Calls Try.prog 28 #[.pointer (some ⟨L, 0, none⟩), xv] w fun e w' => e = .returned (.int .i64 (append l d us).e) ∧ ∃ F' s', RLWent w0 w w' F F' R L (append l d us).dk (append l d us).lg s' := by
  have hh := half_le d h.rk.fine
  have hfa := h.fine.area
  have hfu := h.fine.used
  have hul := len_le_sizes us
  have H := hide h
  have HX := hide hx
  obtain ⟨c0, c1, c2, c3, c4, c5, cf⟩ := h.lg.cells
  have HRS : Hid (append l d us = if l.dead then ⟨l, d, 9⟩ else if us = [] then ⟨l, d, 0⟩ else if d.half < l.hd.used + sizes us then ⟨l, d, 2⟩ else commit l d ⟨next1 l.hd.epoch, l.hd.area, l.hd.used + sizes us⟩ (start d l.hd.area + l.hd.used) (layAll us)) := rfl
  obtain ⟨xo, xc, hxv, hlc, hmc⟩ := hx.shape
  subst hxv
  clear h hx
  obtain ⟨dead, hdead⟩ : ∃ dead, dead = l.dead := ⟨_, rfl⟩
  rw [← hdead] at c5 HRS
  clear hdead
  obtain ⟨n, hn⟩ : ∃ n, n = us.length := ⟨_, rfl⟩
  rw [← hn] at HX hlc hul ⊢
  have HN := hide hn
  have hnb : n ≤ 100000 := by omega
  clear hn hlc
  cases dead with
  | true =>
    go_enter Try.func28, Try.ntmps28
    go_wp2
    go_ret
    rw [unhide HRS]
    exact ⟨rfl, F, s, RLWent.refl (unhide H)⟩
  | false =>
    rw [if_neg (by decide)] at HRS
    by_cases hnil : us = []
    · rw [if_pos hnil] at HRS
      have hn0 : n = 0 := by rw [unhide HN, hnil]; rfl
      subst hn0
      clear hnil
      go_enter Try.func28, Try.ntmps28
      go_wp2
      go_ret
      rw [unhide HRS]
      exact ⟨rfl, F, s, RLWent.refl (unhide H)⟩
    · rw [if_neg hnil] at HRS
      have hnp : 0 < n := by rw [unhide HN]; exact List.length_pos_iff.2 hnil
      have hn0 : ((n : Int) == 0) = false := by simp; omega
      clear hnil
      go_enter Try.func28, Try.ntmps28
      go_wp2_with fail
      clear c0 c1 c2 c3 c4 c5 cf hn0
      go_loopw [5, 6, 7] (fun p q i wr => ∃ k : Nat, k ≤ n ∧ i = .int .i64 k ∧ q = .int .i64 (sizes (us.take k) : Nat) ∧ l.hd.used + sizes (us.take k) ≤ d.half ∧ Owns w.heap.size wr p (layAll (us.take k)) ∧ Only (fun _ => False) w wr) (fun _ _ i _ => n - (intOf i).toNat)
      case atStart => exact ⟨0, Nat.zero_le _, rfl, rfl, by simpa [sizes] using hfu, World.ownsRow_nil _ _ _ _, Only.refl _ _⟩
      case round =>
        obtain ⟨k, hk, rfl, rfl, hfit, hown, ho⟩ := hrel
        have HOW := hide hown
        have HO := hide ho
        have HL := hide ((unhide H).same ho)
        have HLL := hide (layAll_length (us.take k))
        have hsl := sizes_le us k
        clear hown ho
        by_cases hlt : k < n
        · have hku : k < us.length := by have := unhide HN; omega
          have hlt' : (k : Int) < n := by omega
          obtain ⟨bb, off, x, hao, hcx, hxh, hxp⟩ := ((unhide HX).only (unhide HO) (fun _ _ _ h => h)).at k hku
          subst hao
          have hs1 := size_le_sizes us k hku
          have hsg := size_ge us[k]
          have hst1 := sizes_take us k hku
          have hsl1 := sizes_le us (k + 1)
          have HT := hide (layAll_take us k hku)
          have HLN := hide (lay_length us[k])
          have HSZ := hide (rsize_any x us[k] wr hxh (by omega))
          have HLY := hide (fun (w' : World) (o : Only (fun _ => False) wr w') => rlay_any x us[k] w' (hxh.only o (fun _ _ _ h => h)) (by omega))
          have hcx2 := fun m => (Only.drews (S := fun _ => False) (w := wr) m).cell hcx (fun h => h)
          obtain ⟨sk, hsk⟩ : ∃ sk, sk = sizes (us.take k) := ⟨_, rfl⟩
          obtain ⟨s1, hs1e⟩ : ∃ s1, s1 = sizes (us.take (k + 1)) := ⟨_, rfl⟩
          obtain ⟨u, hu⟩ : ∃ u, u = us[k] := ⟨_, rfl⟩
          rw [← hsk, ← hs1e, ← hu] at hst1
          rw [← hu] at HT HLN HSZ HLY hs1 hsg
          rw [← hsk] at hfit hsl HLL ⊢
          rw [← hs1e] at hsl1
          have hws : IntKind.i64.wrap ((sk : Int) + (size u : Int)) = (s1 : Int) := by rw [IntKind.wrap_i64]; omega
          have HS1 := hide hs1e
          have HST1 := hide hst1
          clear hxh hxp hsk hs1e hu hst1
          go_wp2_with fail
          refine (unhide HSZ).mono ?_
          rintro e wr ⟨rfl, hwr⟩
          subst hwr
          go_wp2_with fail
          refine (rroom_any (unhide HL)).mono ?_
          rintro e w1 ⟨rfl, nq, hw1⟩
          have o1 : Only (fun _ => False) wr w1 := by rw [hw1]; exact Only.drews nq
          have hc1 : w1.cell? ⟨bb, off + k, none⟩ = some x := by rw [hw1]; exact hcx2 nq
          clear hw1 hcx2
          by_cases hfull : d.half < l.hd.used + s1
          · rw [if_pos (by omega)] at HRS
            have hfi : (d.half : Int) - l.hd.used < s1 := by omega
            have HF := hide ((RLWent.refl (unhide H)).same ((unhide HO).trans o1 (fun _ _ e => e)))
            go_wp2
            go_ret
            rw [unhide HRS]
            exact ⟨rfl, F, s, unhide HF⟩
          · have hfi : ¬ (d.half : Int) - l.hd.used < s1 := by omega
            have HLY1 := hide (unhide HLY w1 o1)
            have HOW1 : Hid (Owns w.heap.size w1 u5 (layAll (us.take k))) := o1.owns (unhide HOW).out (fun _ _ e => e)
            have HO1 := hide ((unhide HO).trans o1 (fun _ _ e => e))
            generalize layAll (us.take k) = la at *
            go_wp2_with fail
            refine (unhide HLY1).mono ?_
            rintro e w3 ⟨y3, rfl, hy3, o3⟩
            have hH3 := Has.ofOwns hy3.out
            have HOW3 : Hid (Owns w.heap.size w3 u5 la) := o3.owns (unhide HOW1).out (fun _ _ e => e)
            have HO3 := hide ((unhide HO1).trans o3 (fun _ _ e => e))
            have h13 := (unhide HO3).size
            obtain ⟨i0, hi, hz0, hz1, hz2⟩ := info_parts Try.info5
            have HH3 := hide hH3
            have hl1 : la.length ≤ 20000000 := by rw [unhide HLL]; omega
            have hl2 : (lay u).length ≤ 20000000 := by rw [unhide HLN]; omega
            clear hy3 o3 hH3 o1 hc1
            go_wp2_with (at_builtin; refine wpList_append_has rfl (.tmp 32) (.tmp 37) 32 rfl w.heap.size 5 i0 Try.underlying32 hi hz0 hz1 hz2 _ la.length (la.map bv) rfl (unhide HOW3).out y3 (lay u) rfl (unhide HH3) (by omega) (by omega) ?_; intro ao6 cap6 w6 own6 gr6 at6)
            have HO6 : Hid (Only (fun _ => False) w w6) := (unhide HO3).grown gr6 (fun j hj hl => by have := ((unhide HOW3).out.lt j hj).1; omega)
            have HW6 : Hid (Owns w.heap.size w6 (.slice ao6 (la.length + (lay u).length) cap6) (layAll (us.take (k + 1)))) := by
              show Owns w.heap.size w6 (.slice ao6 (la.length + (lay u).length) cap6) (layAll (us.take (k + 1)))
              rw [unhide HT]
              unfold Owns
              rw [List.length_append, List.map_append]
              exact own6
            clear own6 gr6 at6
            go_roundw
            case rel => exact ⟨k + 1, by omega, by go_num, by rw [← unhide HS1], by rw [← unhide HS1]; omega, unhide HW6, unhide HO6⟩
            case measure => simp [intOf]; omega
        · obtain rfl : n = k := by omega
          have htk : us.take n = us := List.take_of_length_le (by have := unhide HN; omega)
          rw [htk] at HOW HLL hfit ⊢
          rw [if_neg (by omega)] at HRS
          clear htk hsl
          obtain ⟨c0, c1, c2, c3, c4, c5, cf⟩ := (unhide HL).lg.cells
          have hnw := next1_wrap l.hd.epoch
          have hnl := next1_lt l.hd.epoch
          obtain ⟨ep, hep⟩ : ∃ ep, ep = next1 l.hd.epoch := ⟨_, rfl⟩
          rw [← hep] at HRS hnw hnl
          obtain ⟨us1, hus1⟩ : ∃ us1, us1 = l.hd.used + sizes us := ⟨_, rfl⟩
          rw [← hus1] at HRS
          have hus2 : IntKind.i64.wrap ((l.hd.used : Int) + (sizes us : Int)) = (us1 : Int) := by rw [IntKind.wrap_i64]; omega
          have HUS1 := hide hus1
          have HCO := hide (fun (w3 : World) (o : Only (fun _ => False) wr w3) => rput_any ((unhide HL).same o) ⟨ep, l.hd.area, us1⟩ hnl hfa (by show us1 ≤ d.half; omega) l.hd.used (sizes us) (by omega) u5 (layAll us) (Has.ofOwns (o.owns (unhide HOW).out (fun _ _ e => e))) (fun _ j hj => by have hb := (owns_fresh (unhide HOW)) j hj; have := (unhide H).lt; exact ⟨fun e => by have := (unhide H).rk.lt j e; omega, by omega⟩) (unhide HLL) (by omega))
          unfold hv at HCO
          obtain ⟨cm, hcm⟩ : ∃ cm, cm = commit l d ⟨ep, l.hd.area, us1⟩ (start d l.hd.area + l.hd.used) (layAll us) := ⟨_, rfl⟩
          simp only [← hcm] at HCO
          rw [← hcm] at HRS
          clear hcm hep hus1 c0 c4 c5 cf
          go_wp2_with fail
          go_region_with (go_at_call 56; refine (unhide HCO _ ((Only.refl _ _).drew)).mono ?_; rintro e w4 ⟨rfl, F4, s4, hw4⟩; have HW4 := hide ((hw4.box ((Only.refl _ _).drew)).box (unhide HO)); clear hw4)
          all_goals (go_wp2; go_ret; rw [unhide HRS]; exact ⟨rfl, F4, s4, unhide HW4⟩)
end

end Wal
end Go.Proofs.Ytoffcbopolonoaa
