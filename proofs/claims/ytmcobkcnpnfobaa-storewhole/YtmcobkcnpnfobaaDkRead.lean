/-
  Contract of disk's Read.
-/
import Derived.Test.YtmcobkcnpnfobaaDkFlush
namespace Go.Proofs.Ytmcobkcnpnfobaa
open Go.RowKit
set_option linter.unusedSimpArgs false
set_option linter.unusedVariables false

section
variable {w : World} {b g cap : Nat} {pv : Value} {d : Dk}

theorem pen_parts {gg o : Nat} {p : Nat × List UInt8} (h : w.rangeAt gg o (pen p)) : w.cell? ⟨gg, o, none⟩ = some (.int .i64 p.1) ∧ w.rangeAt gg (o + 1) (p.2.map bv) := by
  constructor
  · simpa using h 0 _ (by simp [pen])
  · intro j v hv
    have := h (j + 1) v (by simpa [pen] using hv)
    rwa [show o + 1 + j = o + (j + 1) by omega]

theorem sec_parts {gg o : Nat} {bs : List UInt8} (h : w.rangeAt gg o (sec (some bs))) (hl : bs.length = 64) : w.cell? ⟨gg, o + 64, none⟩ = some (.bool false) ∧ w.rangeAt gg o (bs.map bv) := by
  constructor
  · exact h 64 _ (by simp [sec, hl])
  · intro j v hv
    have hj : j < 64 := by have := (List.getElem?_eq_some_iff.1 hv).1; simpa [hl] using this
    refine h j v ?_
    rw [sec, List.getElem?_append_left (by simpa [hl] using hj)]
    exact hv

theorem sec_bad {gg o : Nat} (h : w.rangeAt gg o (sec none)) : w.cell? ⟨gg, o + 64, none⟩ = some (.bool true) := h 64 _ (by simp [sec])

set_option maxRecDepth 100000 in
set_option maxHeartbeats 2000000 in
theorem dkRead_any (h : Lie w b g cap pv d) (hf : d.Fine) (hwk : d.works ≤ 1000000) (k : Int) :
    Calls Try.prog 65 #[.pointer (some ⟨b, 0, none⟩), .int .i64 k] w fun e w' => ∃ v, e = .returned (.tuple #[v, .int .i64 (d.readE k)]) ∧ Owns w.heap.size w' v (d.read k) ∧ Only (fun _ => False) w w' := by
  obtain ⟨c0, c1, c2, c3, c4, fz⟩ := cells_five h.blk
  have H := hide h
  have HF := hide hf
  have hmn := hf.many
  clear h hf
  have hnil : Owns w.heap.size w (.slice none 0 0) [] := World.ownsRow_nil _ _ _ _
  cases ht : d.there k with
  | false =>
    have e1 : d.readE k = 1 := by unfold Dk.readE; simp [ht]
    have e2 : d.read k = [] := by unfold Dk.read; simp [ht]
    rw [e1, e2]
    have HT := hide ht
    clear ht e1 e2
    go_enter Try.func65, Try.ntmps65
    go_wp2_with fail
    refine (dkHas_any (unhide H) k).mono ?_
    rintro e w1 ⟨rfl, rfl⟩
    rw [unhide HT]
    go_wp2_with fail
    go_ret2
    exact ⟨.slice none 0 0, rfl, hnil, Only.refl _ _⟩
  | true =>
    cases hd : d.down with
    | true =>
      have e1 : d.readE k = 9 := by unfold Dk.readE; simp [ht, hd]
      have e2 : d.read k = [] := by unfold Dk.read; simp [ht, hd]
      rw [e1, e2]
      have HT := hide ht
      rw [hd] at c3
      clear ht e1 e2 hd
      go_enter Try.func65, Try.ntmps65
      go_wp2_with fail
      refine (dkHas_any (unhide H) k).mono ?_
      rintro e w1 ⟨rfl, rfl⟩
      rw [unhide HT]
      go_wp2_with fail
      go_ret2
      exact ⟨.slice none 0 0, rfl, hnil, Only.refl _ _⟩
    | false =>
      have hk : 0 ≤ k ∧ k < d.secs.length := by simpa [Dk.there] using ht
      obtain ⟨kn, rfl⟩ : ∃ kn : Nat, k = kn := ⟨k.toNat, by omega⟩
      have hkn : kn < d.secs.length := by omega
      have e1 : d.readE kn = if (d.look kn).isSome then 0 else 8 := by unfold Dk.readE; simp [ht, hd]
      have e2 : d.read kn = (d.look kn).getD [] := by unfold Dk.read; simp [ht, hd]
      have E1 := hide e1
      have E2 := hide e2
      have HT := hide ht
      rw [hd] at c3
      clear ht e1 e2 hd hk
      obtain ⟨po, pc, hpv⟩ := pend_shape (unhide H)
      subst hpv
      go_enter Try.func65, Try.ntmps65
      go_wp2_with fail
      refine (dkHas_any (unhide H) kn).mono ?_
      rintro e w1 ⟨rfl, rfl⟩
      rw [unhide HT]
      go_wp2_with fail
      go_loopw [6] (fun i wr => wr = w1 ∧ ∃ (m : Nat) (z : Int), m ≤ d.pend.length ∧ i = .int .i64 z ∧ z = (m : Int) - 1 ∧ lastOf d.pend kn = lastOf (d.pend.take m) kn) (fun i _ => ((intOf i) + 1).toNat)
      case atStart => exact ⟨rfl, d.pend.length, _, Nat.le_refl _, rfl, rfl, by rw [List.take_length]⟩
      case round =>
        obtain ⟨rfl, m, z, hm, rfl, hz, hlast⟩ := hrel
        cases m with
        | zero =>
          have hlk : d.look kn = d.secs.getD kn none := by
            unfold Dk.look
            rw [hlast]
            rfl
          have hsk : d.secs[kn]? = some d.secs[kn] := List.getElem?_eq_getElem hkn
          have hsf : ∀ bs, d.secs[kn] = some bs → bs.length = 64 := fun bs e => (unhide HF).secs _ (List.getElem_mem hkn) bs e
          have hgd : d.secs.getD kn none = d.secs[kn] := by simp [List.getD, hsk]
          have hrng := row_range (unhide H).secs (fun x hx => sec_length (fun bs e => (unhide HF).secs x hx bs e)) rfl kn _ hsk
          rw [hgd] at hlk
          have HLK := hide hlk
          clear hlk hgd hlast hsk
          have hkn' : (kn : Int) < (d.secs.length : Int) := by omega
          obtain rfl : z = -1 := by omega
          clear hz
          generalize d.secs[kn] = s at hrng hsf HLK
          cases s with
          | none =>
            have hbad := sec_bad hrng
            clear hrng
            go_wp2_with fail
            go_ret2
            rw [unhide E1, unhide E2, unhide HLK]
            exact ⟨.slice none 0 0, rfl, hnil, Only.refl _ _⟩
          | some bs =>
            obtain ⟨hbad, hr⟩ := sec_parts hrng (hsf bs rfl)
            have hl := hsf bs rfl
            clear hrng hsf
            obtain ⟨cs, hcs⟩ : ∃ cs, cs = bs.map bv := ⟨_, rfl⟩
            rw [← hcs] at hr
            have hcl : cs.length = 64 := by rw [hcs]; simpa using hl
            have HCS := hide hcs
            clear hcs
            go_wp2_with (refine wpList_load_mid rfl 95 (.tmp 58) rfl g (kn * 65) rfl cs _ hr Try.underlying95 rfl (by rw [Try.sizeBlk, hcl]) ?_)
            rw [unhide HCS]
            refine (dkBytes_any bs hl _).mono ?_
            rintro e w5 ⟨v, rfl, own, ho⟩
            go_wp2_with fail
            go_ret2
            rw [unhide E1, unhide E2, unhide HLK]
            exact ⟨v, rfl, own, ho⟩
        | succ m =>
          obtain rfl : z = (m : Int) := by omega
          clear hz
          have hpk : d.pend[m]? = some d.pend[m] := List.getElem?_eq_getElem (by omega)
          generalize d.pend[m] = p at hpk
          have hpf := (unhide HF).pend p (List.mem_of_getElem? hpk)
          obtain ⟨pg, rfl⟩ := row_form (n := d.pend.length) (unhide H).pend (by omega)
          have hrng := row_range (unhide H).pend (fun x hx => pen_length ((unhide HF).pend x hx).2) rfl m p hpk
          obtain ⟨hc, hr⟩ := pen_parts hrng
          have hlt := lastOf_take d.pend m kn p hpk
          rw [hlt] at hlast
          have HLA := hide hlast
          clear hlt hlast hrng hpk
          have hm' : (m : Int) < (d.pend.length : Int) := by omega
          have hm0 : (0 : Int) ≤ (m : Int) := Int.natCast_nonneg _
          obtain ⟨pk, bs⟩ := p
          simp only at hc hr hpf
          by_cases hpe : pk = kn
          · subst hpe
            have hlk : d.look pk = some bs := by
              unfold Dk.look
              rw [unhide HLA, if_pos rfl]
            have HLK := hide hlk
            clear hlk HLA
            have hl := hpf.2
            obtain ⟨cs, hcs⟩ : ∃ cs, cs = bs.map bv := ⟨_, rfl⟩
            rw [← hcs] at hr
            have hcl : cs.length = 64 := by rw [hcs]; simpa using hl
            have HCS := hide hcs
            clear hcs
            go_wp2_with (refine wpList_load_mid rfl 95 (.tmp 41) rfl pg (m * 65 + 1) rfl cs _ hr Try.underlying95 rfl (by rw [Try.sizeBlk, hcl]) ?_)
            rw [unhide HCS]
            refine (dkBytes_any bs hl _).mono ?_
            rintro e w5 ⟨v, rfl, own, ho⟩
            go_wp2_with fail
            go_ret2
            rw [unhide E1, unhide E2, unhide HLK]
            exact ⟨v, rfl, own, ho⟩
          · have hpe' : ¬ (pk : Int) = (kn : Int) := by omega
            go_wp2_with fail
            go_roundw
            case rel =>
              refine ⟨trivial, m, _, by omega, rfl, rfl, ?_⟩
              have := unhide HLA
              rw [if_neg hpe] at this
              exact this
            case measure => simp [intOf]
end

end Go.Proofs.Ytmcobkcnpnfobaa
