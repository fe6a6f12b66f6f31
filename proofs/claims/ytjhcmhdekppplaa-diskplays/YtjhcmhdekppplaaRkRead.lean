/-
  The reference's Read.
-/
import Derived.Test.YtjhcmhdekppplaaRkFlush
namespace Go.Proofs.Ytjhcmhdekppplaa
open Go.RowKit
set_option linter.unusedSimpArgs false
set_option linter.unusedVariables false

section
variable {w w' : World} {F : Nat → Prop} {b sg sc bg bc : Nat} {pv : Value} {d : Dk} {svs : List Value} {dvs : List (Nat × Value)}

theorem has_nil (w : World) : Has w (.slice none 0 0) [] := Or.inl ⟨rfl, rfl⟩

set_option maxRecDepth 100000 in
set_option maxHeartbeats 2000000 in
theorem rkRead_any (h : RLie w F b sg sc bg bc pv d svs dvs) (hf : d.Fine) (hwk : d.works ≤ 1000000) (k : Int) :
    Calls Try.prog 21 #[.pointer (some ⟨b, 0, none⟩), .int .i64 k] w fun e w' => ∃ v, e = .returned (.tuple #[v, .int .i64 (d.readE k)]) ∧ Has w v (d.read k) ∧ w' = w := by
  obtain ⟨po, pc, hpv⟩ := ownsRow_shape h.prow
  obtain ⟨c0, c1, c2, c3, c4, c5, fz⟩ := cells_six h.blk
  have H := hide h
  have HF := hide hf
  have hmn := hf.many
  have hn1 := hf.n1
  have hn2 := hf.n2
  clear h hf
  by_cases hk0 : k < 0
  · have ht : d.there k = false := by unfold Dk.there; simp; omega
    have e1 : d.readE k = 1 := by unfold Dk.readE; simp [ht]
    have e2 : d.read k = [] := by unfold Dk.read; simp [ht]
    rw [e1, e2]
    clear ht e1 e2 hpv
    go_enter Try.func21, Try.ntmps21
    go_wp2_with fail
    go_ret2
    exact ⟨.slice none 0 0, rfl, has_nil _, rfl⟩
  · by_cases hk1 : (d.secs.length : Int) ≤ k
    · have ht : d.there k = false := by unfold Dk.there; simp; omega
      have e1 : d.readE k = 1 := by unfold Dk.readE; simp [ht]
      have e2 : d.read k = [] := by unfold Dk.read; simp [ht]
      rw [e1, e2]
      clear ht e1 e2 hpv
      go_enter Try.func21, Try.ntmps21
      go_wp2_with fail
      go_ret2
      exact ⟨.slice none 0 0, rfl, has_nil _, rfl⟩
    · obtain ⟨kn, rfl⟩ : ∃ kn : Nat, k = kn := ⟨k.toNat, by omega⟩
      have hkn : kn < d.secs.length := by omega
      have ht : d.there kn = true := by unfold Dk.there; simp; omega
      cases hd : d.down with
      | true =>
        have e1 : d.readE kn = 9 := by unfold Dk.readE; simp [ht, hd]
        have e2 : d.read kn = [] := by unfold Dk.read; simp [ht, hd]
        rw [e1, e2]
        rw [hd] at c4
        clear ht e1 e2 hd hpv
        go_enter Try.func21, Try.ntmps21
        go_wp2_with fail
        go_ret2
        exact ⟨.slice none 0 0, rfl, has_nil _, rfl⟩
      | false =>
        have e1 : d.readE kn = if (d.look kn).isSome then 0 else 8 := by unfold Dk.readE; simp [ht, hd]
        have e2 : d.read kn = (d.look kn).getD [] := by unfold Dk.read; simp [ht, hd]
        have E1 := hide e1
        have E2 := hide e2
        rw [hd] at c4
        rw [hpv] at c2
        have HPV := hide hpv
        clear ht e1 e2 hd hpv
        go_enter Try.func21, Try.ntmps21
        go_wp2_with fail
        go_loopw [6] (fun i wr => wr = w ∧ ∃ (m : Nat) (z : Int), m ≤ d.pend.length ∧ i = .int .i64 z ∧ z = (m : Int) - 1 ∧ lastOf d.pend kn = lastOf (d.pend.take m) kn) (fun i _ => ((intOf i) + 1).toNat)
        case atStart => exact ⟨rfl, d.pend.length, _, Nat.le_refl _, rfl, rfl, by rw [List.take_length]⟩
        case round =>
          obtain ⟨rfl, m, z, hm, rfl, hz, hlast⟩ := hrel
          cases m with
          | zero =>
            have hlk : d.look kn = d.secs.getD kn none := by
              unfold Dk.look
              rw [hlast]
              rfl
            have hsk : d.secs[kn]? = some d.secs[kn] := List.getElem?_eq_getElem hkn
            have hgd : d.secs.getD kn none = d.secs[kn] := by simp [List.getD, hsk]
            have hsl : kn < svs.length := by have := (unhide H).srow.1; omega
            obtain ⟨sv, hsv⟩ : ∃ sv, svs[kn]? = some sv := ⟨_, List.getElem?_eq_getElem hsl⟩
            have hdat := (unhide H).sdat kn sv hsv
            have s0 : wr.cell? ⟨sg, kn, none⟩ = some sv := by rw [(unhide H).srow.cellAt kn (by omega), hsv]
            have b0 : wr.cell? ⟨bg, kn, none⟩ = some (.bool (d.secs[kn]).isNone) := by rw [(unhide H).brow.cellAt kn (by omega), List.getElem?_map, hsk]; rfl
            rw [hgd] at hlk hdat
            have HLK := hide hlk
            have HDT := hide hdat
            clear hlk hgd hlast hsk hdat hsv
            have hkn' : (kn : Int) < (d.secs.length : Int) := by omega
            obtain rfl : z = -1 := by omega
            clear hz
            generalize d.secs[kn] = s at b0 HLK HDT
            cases s with
            | none =>
              simp only [Option.isNone_none] at b0
              go_wp2_with fail
              go_ret2
              rw [unhide E1, unhide E2, unhide HLK]
              exact ⟨.slice none 0 0, rfl, has_nil _, rfl⟩
            | some bs =>
              simp only [Option.isNone_some] at b0
              go_wp2_with fail
              go_ret2
              rw [unhide E1, unhide E2, unhide HLK]
              exact ⟨sv, rfl, (unhide HDT).has bs rfl, rfl⟩
          | succ m =>
            obtain rfl : z = (m : Int) := by omega
            clear hz
            have hpk : d.pend[m]? = some d.pend[m] := List.getElem?_eq_getElem (by omega)
            generalize d.pend[m] = p at hpk
            obtain ⟨dv, pg, pc', hpv2, hdv, hdat, q0, q1⟩ := (unhide H).pendAt (k := m) (p := p) hpk
            rw [unhide HPV] at hpv2
            simp only [Value.slice.injEq, true_and] at hpv2
            obtain ⟨rfl, rfl⟩ := hpv2
            have hlt := lastOf_take d.pend m kn p hpk
            rw [hlt] at hlast
            have HLA := hide hlast
            have HDT := hide hdat
            clear hlt hlast hpk hdat hdv
            have hm' : (m : Int) < (d.pend.length : Int) := by omega
            have hm0 : (0 : Int) ≤ (m : Int) := Int.natCast_nonneg _
            obtain ⟨pk, bs⟩ := p
            simp only at q0
            by_cases hpe : pk = kn
            · subst hpe
              have hlk : d.look pk = some bs := by
                unfold Dk.look
                rw [unhide HLA, if_pos rfl]
              have HLK := hide hlk
              clear hlk HLA
              go_wp2_with fail
              go_ret2
              rw [unhide E1, unhide E2, unhide HLK]
              exact ⟨dv, rfl, (unhide HDT).has bs rfl, rfl⟩
            · have hpe' : ¬ (pk : Int) = (kn : Int) := by omega
              go_wp2_with fail
              go_roundw
              case rel =>
                refine ⟨trivial, m, _, by omega, rfl, rfl, ?_⟩
                have := unhide HLA
                rw [if_neg hpe] at this
                exact this
              case measure => simp [intOf]
end

end Go.Proofs.Ytjhcmhdekppplaa
