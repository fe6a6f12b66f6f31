/-
  Contracts of disk's small methods.
-/
import Derived.Test.YtmcobkcnpnfobaaDkMem
namespace Go.Proofs.Ytmcobkcnpnfobaa
open Go.RowKit
set_option linter.unusedSimpArgs false
set_option linter.unusedVariables false

section
variable {w : World} {b g cap : Nat} {pv : Value} {d : Dk}

theorem dkDown_any (h : Lie w b g cap pv d) : Calls Try.prog 47 #[.pointer (some ⟨b, 0, none⟩)] w fun e w' => e = .returned (.bool d.down) ∧ w' = w := by
  obtain ⟨c0, c1, c2, c3, c4, fz⟩ := cells_five h.blk
  clear h
  go_enter Try.func47, Try.ntmps47
  go_wp2
  go_ret
  exact ⟨rfl, rfl⟩

theorem dkSectors_any (h : Lie w b g cap pv d) : Calls Try.prog 53 #[.pointer (some ⟨b, 0, none⟩)] w fun e w' => e = .returned (.int .i64 d.secs.length) ∧ w' = w := by
  obtain ⟨c0, c1, c2, c3, c4, fz⟩ := cells_five h.blk
  clear h
  go_enter Try.func53, Try.ntmps53
  go_wp2
  go_ret
  exact ⟨rfl, rfl⟩

theorem dkHas_any (h : Lie w b g cap pv d) (k : Int) : Calls Try.prog 78 #[.pointer (some ⟨b, 0, none⟩), .int .i64 k] w fun e w' => e = .returned (.bool (d.there k)) ∧ w' = w := by
  obtain ⟨c0, c1, c2, c3, c4, fz⟩ := cells_five h.blk
  clear h
  have HT : Hid (d.there k = decide (0 ≤ k ∧ k < d.secs.length)) := rfl
  generalize d.there k = r at *
  by_cases h0 : 0 ≤ k
  · by_cases h1 : k < d.secs.length
    · go_enter Try.func78, Try.ntmps78
      go_wp2
      go_ret
      rw [unhide HT]
      simp [h0, h1]
    · go_enter Try.func78, Try.ntmps78
      go_wp2
      go_ret
      rw [unhide HT]
      simp [h0, h1]
  · go_enter Try.func78, Try.ntmps78
    go_wp2
    go_ret
    rw [unhide HT]
    simp
    omega

/-- a cell of the disk's own block is set -/
theorem five_setCell {w : World} {b i : Nat} {cs : Array Value} {u : Value} {t : TypeId} (h : w.heap[b]? = some (.cells cs t (0, 0))) : (w.setCell ⟨b, i, none⟩ u).heap[b]? = some (.cells (cs.setIfInBounds i u) t (0, 0)) := two_setCell h

theorem Lie.set {w' : World} {d' : Dk} {pv' : Value} (h : Lie w b g cap pv d) (ho : Only (fun k => k = b) w w') (hs : d'.secs = d.secs) (hp : d'.pend = d.pend) (hpv : pv' = pv)
    (hb : w'.heap[b]? = some (.cells #[.slice (some ⟨g, 0, none⟩) d.secs.length cap, pv, .int .i64 d'.fuse, .bool d'.down, .int .i64 d'.works] 73 (0, 0))) : Lie w' b g cap pv' d' := by
  subst hpv
  refine ⟨by rw [hs]; exact hb, ?_, ?_, h.gb, h.pb, h.pg⟩
  · rw [hs]
    exact ho.owns h.secs (fun k hk => by simp only [Value.ownBlock, Option.some.injEq] at hk; subst hk; exact h.gb)
  · rw [hp]
    exact ho.owns h.pend (fun k hk e => h.pb (by rw [hk, e]))

theorem dkFuse_any (h : Lie w b g cap pv d) (n : Int) : Calls Try.prog 19 #[.pointer (some ⟨b, 0, none⟩), .int .i64 n] w fun e w' => e = .returned (.tuple #[]) ∧ Lie w' b g cap pv (d.fused n) ∧ Only (fun k => k = b) w w' := by
  obtain ⟨c0, c1, c2, c3, c4, fz⟩ := cells_five h.blk
  have H := hide h
  clear h
  go_enter Try.func19, Try.ntmps19
  go_wp2
  go_end0
  have ho := (Only.refl (fun k => k = b) w).here 2 (.int .i64 n)
  exact ⟨rfl, (unhide H).set ho rfl rfl rfl (by rw [five_setCell (unhide H).blk]; rfl), ho⟩

theorem dkWork_any (h : Lie w b g cap pv d) (hf : d.Fine) (hw : d.works ≤ 1000000) : Calls Try.prog 115 #[.pointer (some ⟨b, 0, none⟩)] w fun e w' => e = .returned (.bool (!d.fell)) ∧ Lie w' b g cap pv d.worked ∧ Only (fun k => k = b) w w' := by
  obtain ⟨c0, c1, c2, c3, c4, fz⟩ := cells_five h.blk
  have H := hide h
  have hl1 := hf.f1
  have hl2 := hf.f2
  clear h
  have HF : Hid (d.fell = (d.down || d.fuse == 0)) := rfl
  by_cases h0 : d.fuse = 0
  · have e1 : d.fell = true := by unfold Dk.fell; simp [h0]
    have e2 : d.worked = d.felled := by unfold Dk.worked; simp [e1]
    rw [e1, e2]
    rw [h0] at c2
    have HZ := hide h0
    clear h0 e1 e2
    go_enter Try.func115, Try.ntmps115
    go_wp2
    go_ret
    have ho := (Only.refl (fun k => k = b) w).here 3 (.bool true)
    exact ⟨rfl, (unhide H).set ho rfl rfl rfl (by rw [five_setCell (unhide H).blk]; rfl), ho⟩
  · cases hd : d.down with
    | true =>
      have e1 : d.fell = true := by unfold Dk.fell; simp [hd]
      have e2 : d.worked = d.felled := by unfold Dk.worked; simp [e1]
      rw [e1, e2]
      rw [hd] at c3
      have HZ := hide hd
      clear hd e1 e2
      go_enter Try.func115, Try.ntmps115
      go_wp2
      go_ret
      exact ⟨rfl, (unhide H).set (Only.refl _ _) rfl rfl rfl (by rw [(unhide H).blk, unhide HZ]; rfl), Only.refl _ _⟩
    | false =>
      have e1 : d.fell = false := by unfold Dk.fell; simp [hd, h0]
      have e2 : d.worked = d.spent := by unfold Dk.worked; simp [e1]
      rw [e1, e2]
      rw [hd] at c3
      have HZ := hide hd
      clear hd e1 e2
      by_cases hp : 0 < d.fuse
      · have HS : Hid (d.spent.fuse = d.fuse - 1) := by show (if 0 < d.fuse then d.fuse - 1 else d.fuse) = _; simp [hp]
        go_enter Try.func115, Try.ntmps115
        go_wp2
        go_ret
        have ho := ((Only.refl (fun k => k = b) w).here 2 (.int .i64 (d.fuse - 1))).here 4 (.int .i64 (d.works + 1))
        refine ⟨rfl, (unhide H).set ho rfl rfl rfl ?_, ho⟩
        rw [five_setCell (five_setCell (unhide H).blk), unhide HS]
        rfl
      · have HS : Hid (d.spent.fuse = d.fuse) := by show (if 0 < d.fuse then d.fuse - 1 else d.fuse) = _; simp [hp]
        go_enter Try.func115, Try.ntmps115
        go_wp2
        go_ret
        have ho := (Only.refl (fun k => k = b) w).here 4 (.int .i64 (d.works + 1))
        refine ⟨rfl, (unhide H).set ho rfl rfl rfl ?_, ho⟩
        rw [five_setCell (unhide H).blk, unhide HS]
        rfl

/-- block.bytes: new memory -/
theorem dkBytes_any (bs : List UInt8) (hl : bs.length = 64) (w : World) : Calls Try.prog 79 #[.agg (bs.map bv).toArray] w fun e w' => ∃ v, e = .returned v ∧ Owns w.heap.size w' v bs ∧ Only (fun _ => False) w w' := by
  obtain ⟨i0, hi, hz0, hz1, hz2⟩ := info_parts Try.info5
  have ho : Only (fun _ => False) w (w.alloc (.cells (bs.map bv).toArray 95)) := (Only.refl _ _).alloc _
  have hx : Has (w.alloc (.cells (bs.map bv).toArray 95)) (.slice (some ⟨w.heap.size, 0, none⟩) 64 64) bs := has_row (heap_alloc_new w _) rfl hl (by unfold maxLen; omega)
  have hcs : (Value.agg (bs.map bv).toArray).cells = (bs.map bv).toArray := rfl
  generalize (bs.map bv).toArray = A at *
  go_enter Try.func79, Try.ntmps79
  go_wp2_with (at_builtin; refine wpList_append_has rfl (.const (.slice none 0 0)) (.tmp 3) 30 rfl w.heap.size 5 i0 Try.underlying30 hi hz0 hz1 hz2 _ 0 [] rfl (World.ownsRow_nil _ _ _ _) _ bs rfl hx (by omega) (by simp) ?_; intro ao2 cap2 w2 own2 gr2 at2)
  go_ret
  refine ⟨.slice ao2 (0 + bs.length) cap2, ?_, ?_, ho.grown gr2 (fun k hk _ => by cases hk)⟩
  · simp [hl]
  · have e : (0 + bs.length) = bs.length := Nat.zero_add _
    rw [e] at own2 ⊢
    exact own2
end

end Go.Proofs.Ytmcobkcnpnfobaa
