/-
  A disk and its blocks ('F'), for laws: what each call makes of it.
-/
import Derived.Test.YtmcobkcnpnfobaaGreatDkAll
import Derived.Test.YtmcobkcnpnfobaaGreatHandBytes
namespace Go.Proofs.YtmcobkcnpnfobaaGreat
open Go.RowKit
set_option linter.unusedSimpArgs false
set_option linter.unusedVariables false

/-- disk d at block b, all its blocks in F and made since w0; what was there in w0 is as it was -/
structure Dks (w0 w : World) (F : Nat → Prop) (b : Nat) (d : Dk) : Prop where
  lie : ∃ g cap pv, Lie w b g cap pv d ∧ F g ∧ ∀ k, pv.ownBlock = some k → F k
  self : F b
  fine : d.Fine
  lt : ∀ k, F k → k < w.heap.size
  up : ∀ k, F k → w0.heap.size ≤ k
  only : Only (fun _ => False) w0 w

/-- a call has turned the disk alone -/
structure Went (w0 w w' : World) (F F' : Nat → Prop) (b : Nat) (d' : Dk) : Prop where
  dk : Dks w0 w' F' b d'
  only : Only F w w'
  grew : ∀ k, F' k → F k ∨ w.heap.size ≤ k

section
variable {w0 w w' : World} {F : Nat → Prop} {b : Nat} {d : Dk}

theorem Dks.later (h : Dks w0 w F b d) {S : Nat → Prop} (ho : Only S w w') (hS : ∀ k, k < w.heap.size → S k → ¬ F k ∧ w0.heap.size ≤ k) : Dks w0 w' F b d := by
  obtain ⟨g, cap, pv, hl, hg, hp⟩ := h.lie
  have hn : ∀ k, F k → ¬ S k := fun k hk hs => (hS k (h.lt k hk) hs).1 hk
  exact ⟨⟨g, cap, pv, hl.only ho (hn b h.self) (hn g hg) (fun k hk => hn k (hp k hk)), hg, hp⟩, h.self, h.fine, fun k hk => Nat.lt_of_lt_of_le (h.lt k hk) ho.size, h.up,
    h.only.trans ho (fun i hi hs => by have := hS i (Nat.lt_of_lt_of_le hi h.only.size) hs; omega)⟩

theorem Dks.same (h : Dks w0 w F b d) (ho : Only (fun _ => False) w w') : Dks w0 w' F b d := h.later ho (fun _ _ e => e.elim)

theorem Went.has {F' : Nat → Prop} {d' : Dk} (h : Went w0 w w' F F' b d') {v : Value} {bs : List UInt8} (hv : Has w v bs) (hne : bs ≠ []) (hb : ∀ j, blk v = some j → ¬ F j) : Has w' v bs ∧ ∀ j, blk v = some j → ¬ F' j :=
  ⟨hv.only h.only (fun _ k hk => hb k hk), fun j hj hF => by
    rcases h.grew j hF with e | e
    · exact hb j hj e
    · have := hv.blk_lt hne j hj; omega⟩

theorem went_of (h : Dks w0 w F b d) {d' : Dk} (hf : d'.Fine) {g' cap' : Nat} {pv' : Value} (hl : Lie w' b g' cap' pv' d') (ho : Only F w w') (hg : F g' ∨ w.heap.size ≤ g') (hp : ∀ k, pv'.ownBlock = some k → F k ∨ w.heap.size ≤ k) : ∃ F', Went w0 w w' F F' b d' := by
  refine ⟨fun k => k = b ∨ k = g' ∨ pv'.ownBlock = some k, ⟨⟨g', cap', pv', hl, Or.inr (Or.inl rfl), fun k hk => Or.inr (Or.inr hk)⟩, Or.inl rfl, hf, ?_, ?_, ?_⟩, ho, ?_⟩
  · rintro k (rfl | rfl | hk)
    · exact lt_of_block hl.blk
    · exact (hl.secs.lt _ rfl).2
    · exact (hl.pend.lt _ hk).2
  · have hw := h.only.size
    rintro k (rfl | rfl | hk)
    · exact h.up _ h.self
    · rcases hg with e | e
      · exact h.up _ e
      · omega
    · rcases hp k hk with e | e
      · exact h.up _ e
      · omega
  · exact h.only.trans ho (fun i hi hs => by have := h.up i hs; omega)
  · rintro k (rfl | rfl | hk)
    · exact Or.inl h.self
    · exact hg
    · exact hp k hk

theorem dks_down (h : Dks w0 w F b d) : Calls Tryz.prog 55 #[.pointer (some ⟨b, 0, none⟩)] w fun e w' => e = .returned (.bool d.down) ∧ w' = w := by
  obtain ⟨g, cap, pv, hl, hg, hp⟩ := h.lie
  exact dkDown_any hl
theorem dks_flush (h : Dks w0 w F b d) (hw : d.works ≤ 1000000) : Calls Tryz.prog 116 #[.pointer (some ⟨b, 0, none⟩)] w fun e w' => e = .returned (.int .i64 d.flushE) ∧ ∃ F', Went w0 w w' F F' b d.flush := by
  obtain ⟨g, cap, pv, hl, hg, hp⟩ := h.lie
  refine (dkFlush_any hl h.fine hw).mono ?_
  rintro e w' ⟨rfl, pv', h', hpv, ho⟩
  refine ⟨rfl, went_of h h.fine.flush h' (ho.mono (fun k _ e => ?_)) (Or.inl hg) (fun k hk => ?_)⟩
  · rcases e with rfl | rfl
    · exact h.self
    · exact hg
  · rcases hpv with e | e
    · exact Or.inl (hp k (e ▸ hk))
    · rw [e] at hk; cases hk
theorem dks_write' (h : Dks w0 w F b d) (hw : d.works ≤ 1000000) (k : Int) (xv : Value) (bs : List UInt8) (hx : Has w xv bs) (hxb : bs ≠ [] → ∀ j, blk xv = some j → ¬ F j) :
    Calls Tryz.prog 115 #[.pointer (some ⟨b, 0, none⟩), .int .i64 k, xv] w fun e w' => e = .returned (.int .i64 (d.writeE k bs)) ∧ ∃ F', Went w0 w w' F F' b (d.write k bs) := by
  obtain ⟨g, cap, pv, hl, hg, hp⟩ := h.lie
  refine (dkWrite_any hl h.fine hw k xv bs hx (fun hne j hj e => hxb hne j hj (e ▸ h.self))).mono ?_
  rintro e w' ⟨rfl, pv', h', hpv, ho⟩
  refine ⟨rfl, went_of h (h.fine.write k bs) h' (ho.mono (fun k _ e => ?_)) (Or.inl hg) (fun k hk => ?_)⟩
  · rcases e with rfl | e
    · exact h.self
    · exact hp k e
  · rcases hpv with e | ⟨j, e, hj⟩
    · exact Or.inl (hp k (e ▸ hk))
    · rw [e] at hk; cases hk; exact Or.inr hj
theorem dks_write (h : Dks w0 w F b d) (hw : d.works ≤ 1000000) (k : Int) (xv : Value) (bs : List UInt8) (hx : Has w xv bs) (hxb : ∀ j, blk xv = some j → ¬ F j) :
    Calls Tryz.prog 115 #[.pointer (some ⟨b, 0, none⟩), .int .i64 k, xv] w fun e w' => e = .returned (.int .i64 (d.writeE k bs)) ∧ ∃ F', Went w0 w w' F F' b (d.write k bs) := dks_write' h hw k xv bs hx (fun _ => hxb)
theorem dks_crash' (h : Dks w0 w F b d) (hw : d.works ≤ 1000000) (fv : Value) (fs : List Int) (hx : HasV w fv (fs.map (.int .i64))) (hxb : fs ≠ [] → ∀ j, blk fv = some j → ¬ F j) :
    Calls Tryz.prog 33 #[.pointer (some ⟨b, 0, none⟩), fv] w fun e w' => e = .returned (.tuple #[]) ∧ ∃ F', Went w0 w w' F F' b (d.crash fs) := by
  obtain ⟨g, cap, pv, hl, hg, hp⟩ := h.lie
  refine (dkCrash_any hl h.fine hw fv fs hx (fun hne j hj => ⟨fun e => hxb hne j hj (e ▸ h.self), fun e => hxb hne j hj (e ▸ hg)⟩)).mono ?_
  rintro e w' ⟨rfl, h', ho⟩
  refine ⟨rfl, went_of h (h.fine.crash fs) h' (ho.mono (fun k _ e => ?_)) (Or.inl hg) (fun k hk => by cases hk)⟩
  rcases e with rfl | rfl
  · exact h.self
  · exact hg
theorem dks_crash (h : Dks w0 w F b d) (hw : d.works ≤ 1000000) (fv : Value) (fs : List Int) (hx : HasV w fv (fs.map (.int .i64))) (hxb : ∀ j, blk fv = some j → ¬ F j) :
    Calls Tryz.prog 33 #[.pointer (some ⟨b, 0, none⟩), fv] w fun e w' => e = .returned (.tuple #[]) ∧ ∃ F', Went w0 w w' F F' b (d.crash fs) := dks_crash' h hw fv fs hx (fun _ => hxb)
/-- a list that was there in w0 is none of the disk's blocks -/
theorem Dks.old (h : Dks w0 w F b d) {v : Value} {vs : List Value} (hv : HasV w0 v vs) (hne : vs ≠ []) : ∀ j, blk v = some j → ¬ F j := fun j hj hF => by
  have := h.up j hF
  have := hv.blk_lt hne j hj
  omega
theorem dks_read (h : Dks w0 w F b d) (hw : d.works ≤ 1000000) (k : Int) :
    Calls Tryz.prog 60 #[.pointer (some ⟨b, 0, none⟩), .int .i64 k] w fun e w' => ∃ v, e = .returned (.tuple #[v, .int .i64 (d.readE k)]) ∧ Owns w.heap.size w' v (d.read k) ∧ Only (fun _ => False) w w' := by
  obtain ⟨g, cap, pv, hl, hg, hp⟩ := h.lie
  exact dkRead_any hl h.fine hw k
theorem dks_sectors (h : Dks w0 w F b d) : Calls Tryz.prog 76 #[.pointer (some ⟨b, 0, none⟩)] w fun e w' => e = .returned (.int .i64 d.secs.length) ∧ w' = w := by
  obtain ⟨g, cap, pv, hl, hg, hp⟩ := h.lie
  exact dkSectors_any hl
theorem dks_new (n : Nat) (h1 : 8 ≤ n) (h2 : n ≤ 4096) (w : World) (w0 : World) (h0 : Only (fun _ => False) w0 w) : Calls Tryz.prog 30 #[.int .i64 n] w fun e w' => ∃ B F, e = .returned (.tuple #[.pointer (some ⟨B, 0, none⟩), .int .i64 0]) ∧ Dks w0 w' F B (Dk.new n) ∧ (∀ k, F k → w.heap.size ≤ k) ∧ Only (fun _ => False) w w' := by
  refine (dkNew_any n h1 h2).mono ?_
  rintro e w' ⟨B, G, rfl, hl, hB, hG, ho⟩
  have hw := h0.size
  have hge : ∀ k, k = B ∨ k = G → w.heap.size ≤ k := fun k hk => by rcases hk with rfl | rfl <;> assumption
  refine ⟨B, fun k => k = B ∨ k = G, rfl, ⟨⟨G, n, _, hl, Or.inr rfl, fun k hk => by cases hk⟩, Or.inl rfl, Dk.Fine.new n h1 h2, ?_, fun k hk => Nat.le_trans hw (hge k hk), h0.trans ho (fun _ _ e => e)⟩, hge, ho⟩
  rintro k (rfl | rfl)
  · exact lt_of_block hl.blk
  · exact (hl.secs.lt _ rfl).2
end

/-- a sector of a number -/
def S64 (n : Int) : List UInt8 := rawBytes 64 n
theorem S64_length (n : Int) : (S64 n).length = 64 := rawBytes_length 64 n
theorem S64_ne (n : Int) : S64 n ≠ [] := fun e => by have := S64_length n; rw [e] at this; simp at this

/-- whatever a disk has, a new value is none of its blocks -/
theorem Dks.fresh {w0 w : World} {F : Nat → Prop} {b : Nat} {d : Dk} (h : Dks w0 w F b d) {v : Value} (hv : ∀ j, blk v = some j → w.heap.size ≤ j) : ∀ j, blk v = some j → ¬ F j := fun j hj hF => by
  have := h.lt j hF
  have := hv j hj
  omega

theorem owns_fresh {w w' : World} {v : Value} {bs : List UInt8} (h : Owns w.heap.size w' v bs) : ∀ j, blk v = some j → w.heap.size ≤ j := fun j hj => (h.out.lt j (own_blk h.out j hj)).1

/-- a value that is read, and is none of the disk's blocks -/
structure Kept (F : Nat → Prop) (w : World) (v : Value) (bs : List UInt8) : Prop where
  has : Has w v bs
  off : ∀ j, blk v = some j → ¬ F j

theorem Kept.same {F : Nat → Prop} {w w' : World} {v : Value} {bs : List UInt8} (h : Kept F w v bs) (ho : Only (fun _ => False) w w') : Kept F w' v bs := ⟨h.has.only ho (fun _ _ _ e => e), h.off⟩
theorem Kept.went {w0 w w' : World} {F F' : Nat → Prop} {b : Nat} {d' : Dk} {v : Value} {bs : List UInt8} (h : Kept F w v bs) (hw : Went w0 w w' F F' b d') (hne : bs ≠ []) : Kept F' w' v bs :=
  ⟨(hw.has h.has hne h.off).1, (hw.has h.has hne h.off).2⟩
theorem Dks.kept {w0 w w' : World} {F : Nat → Prop} {b : Nat} {d : Dk} (h : Dks w0 w F b d) {v : Value} {bs : List UInt8} (ho : Owns w.heap.size w' v bs) : Kept F w' v bs := ⟨Has.ofOwns ho.out, h.fresh (owns_fresh ho)⟩

end Go.Proofs.YtmcobkcnpnfobaaGreat
