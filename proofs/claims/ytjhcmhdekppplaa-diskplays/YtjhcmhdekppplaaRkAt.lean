/-
  The reference's disk and its blocks, for laws; a disk and the reference's side by side.
-/
import Derived.Test.YtjhcmhdekppplaaRkNew
namespace Go.Proofs.Ytjhcmhdekppplaa
open Go.RowKit
set_option linter.unusedSimpArgs false
set_option linter.unusedVariables false

structure Rks (w0 w : World) (F : Nat → Prop) (b : Nat) (d : Dk) : Prop where
  lie : ∃ sg sc bg bc pv svs dvs, RLie w F b sg sc bg bc pv d svs dvs
  fine : d.Fine
  lt : ∀ k, F k → k < w.heap.size
  up : ∀ k, F k → w0.heap.size ≤ k
  only : Only (fun _ => False) w0 w

structure RWent (w0 w w' : World) (F F' : Nat → Prop) (b : Nat) (d' : Dk) : Prop where
  rk : Rks w0 w' F' b d'
  only : Only F w w'
  grew : ∀ k, F' k → F k ∨ w.heap.size ≤ k

section
variable {w0 w w' : World} {F : Nat → Prop} {b : Nat} {d : Dk}

theorem Rks.later (h : Rks w0 w F b d) {S : Nat → Prop} (ho : Only S w w') (hS : ∀ k, k < w.heap.size → S k → ¬ F k ∧ w0.heap.size ≤ k) : Rks w0 w' F b d := by
  obtain ⟨sg, sc, bg, bc, pv, svs, dvs, hl⟩ := h.lie
  have ho' : Only (fun k => S k ∧ k < w.heap.size) w w' := ⟨ho.os, ho.tape, ho.output, ho.size, fun k hk hn => ho.block k hk (fun hs => hn ⟨hs, hk⟩)⟩
  exact ⟨⟨sg, sc, bg, bc, pv, svs, dvs, hl.only ho' (fun j hj => (hS j hj.2 hj.1).1)⟩, h.fine, fun k hk => Nat.lt_of_lt_of_le (h.lt k hk) ho.size, h.up,
    h.only.trans ho (fun i hi hs => by have := hS i (Nat.lt_of_lt_of_le hi h.only.size) hs; omega)⟩
theorem Rks.same (h : Rks w0 w F b d) (ho : Only (fun _ => False) w w') : Rks w0 w' F b d := h.later ho (fun _ _ e => e.elim)

theorem rwent_of (h : Rks w0 w F b d) {d' : Dk} (hf : d'.Fine) {sg sc bg bc : Nat} {pv : Value} {svs : List Value} {dvs : List (Nat × Value)} (hl : RLie w' F b sg sc bg bc pv d' svs dvs) (ho : Only F w w') : RWent w0 w w' F F b d' :=
  ⟨⟨⟨sg, sc, bg, bc, pv, svs, dvs, hl⟩, hf, fun k hk => Nat.lt_of_lt_of_le (h.lt k hk) ho.size, h.up, h.only.trans ho (fun i hi hs => by have := h.up i hs; omega)⟩, ho, fun k hk => Or.inl hk⟩

theorem rks_down (h : Rks w0 w F b d) : Calls Try.prog 28 #[.pointer (some ⟨b, 0, none⟩)] w fun e w' => e = .returned (.bool d.down) ∧ w' = w := by
  obtain ⟨sg, sc, bg, bc, pv, svs, dvs, hl⟩ := h.lie
  exact rkDown_any hl
theorem rks_fuse (h : Rks w0 w F b d) (n : Int) (h1 : -9223372036854775808 ≤ n) (h2 : n ≤ 9223372036854775807) : Calls Try.prog 23 #[.pointer (some ⟨b, 0, none⟩), .int .i64 n] w fun e w' => e = .returned (.tuple #[]) ∧ RWent w0 w w' F F b (d.fused n) := by
  obtain ⟨sg, sc, bg, bc, pv, svs, dvs, hl⟩ := h.lie
  refine (rkFuse_any hl n).mono ?_
  rintro e w' ⟨rfl, h', ho⟩
  exact ⟨rfl, rwent_of h (h.fine.fused n h1 h2) h' (ho.mono (fun _ _ e => e ▸ hl.fb))⟩
theorem rks_flush (h : Rks w0 w F b d) (hw : d.works ≤ 1000000) : Calls Try.prog 20 #[.pointer (some ⟨b, 0, none⟩)] w fun e w' => e = .returned (.int .i64 d.flushE) ∧ RWent w0 w w' F F b d.flush := by
  obtain ⟨sg, sc, bg, bc, pv, svs, dvs, hl⟩ := h.lie
  refine (rkFlush_any hl h.fine hw).mono ?_
  rintro e w' ⟨rfl, ⟨pv', svs', dvs', h'⟩, ho⟩
  refine ⟨rfl, rwent_of h h.fine.flush h' (ho.mono (fun j _ e => ?_))⟩
  rcases e with rfl | rfl | rfl
  · exact hl.fb
  · exact hl.fs
  · exact hl.fg
theorem rks_crash (h : Rks w0 w F b d) (hw : d.works ≤ 1000000) (fv : Value) (fs : List Int) (hx : HasV w fv (fs.map (.int .i64))) (hxb : fs ≠ [] → ∀ j, blk fv = some j → ¬ F j) :
    Calls Try.prog 24 #[.pointer (some ⟨b, 0, none⟩), fv] w fun e w' => e = .returned (.tuple #[]) ∧ RWent w0 w w' F F b (d.crash fs) := by
  obtain ⟨sg, sc, bg, bc, pv, svs, dvs, hl⟩ := h.lie
  refine (rkCrash_any hl h.fine hw fv fs hx hxb).mono ?_
  rintro e w' ⟨rfl, ⟨pv', svs', dvs', h'⟩, ho⟩
  refine ⟨rfl, rwent_of h (h.fine.crash fs) h' (ho.mono (fun j _ e => ?_))⟩
  rcases e with rfl | rfl | rfl
  · exact hl.fb
  · exact hl.fs
  · exact hl.fg
theorem rks_write (h : Rks w0 w F b d) (hw : d.works ≤ 1000000) (k : Int) (xv : Value) (bs : List UInt8) (hx : Has w xv bs) (hxb : bs ≠ [] → ∀ j, blk xv = some j → ¬ F j) :
    Calls Try.prog 27 #[.pointer (some ⟨b, 0, none⟩), .int .i64 k, xv] w fun e w' => e = .returned (.int .i64 (d.writeE k bs)) ∧ ∃ F', RWent w0 w w' F F' b (d.write k bs) := by
  obtain ⟨sg, sc, bg, bc, pv, svs, dvs, hl⟩ := h.lie
  refine (rkWrite_any hl h.fine hw k xv bs hx hxb).mono ?_
  rintro e w' ⟨rfl, hw⟩
  obtain ⟨F', pv', dvs', h', g1, g2⟩ := hw.ex
  have hs := h.only.size
  have ho : Only F w w' := hw.only.mono (fun _ _ e => e ▸ hl.fb)
  refine ⟨rfl, F', ⟨⟨sg, sc, bg, bc, pv', svs, dvs', h'⟩, h.fine.write k bs, g2, fun j hj => ?_, h.only.trans ho (fun i hi hs => by have := h.up i hs; omega)⟩, ho, g1⟩
  rcases g1 j hj with e | e
  · exact h.up j e
  · omega
theorem rks_read (h : Rks w0 w F b d) (hw : d.works ≤ 1000000) (k : Int) :
    Calls Try.prog 21 #[.pointer (some ⟨b, 0, none⟩), .int .i64 k] w fun e w' => ∃ v, e = .returned (.tuple #[v, .int .i64 (d.readE k)]) ∧ Has w v (d.read k) ∧ w' = w := by
  obtain ⟨sg, sc, bg, bc, pv, svs, dvs, hl⟩ := h.lie
  exact rkRead_any hl h.fine hw k
theorem rks_new (n : Nat) (h1 : 8 ≤ n) (h2 : n ≤ 4096) (w w0 : World) (h0 : Only (fun _ => False) w0 w) : Calls Try.prog 19 #[.int .i64 n] w fun e w' => ∃ B, e = .returned (.pointer (some ⟨B, 0, none⟩)) ∧ Rks w0 w' (fun j => w.heap.size ≤ j ∧ j < w'.heap.size) B (Dk.new n) ∧ Only (fun _ => False) w w' := by
  refine (rkNew_any n h1 h2 w).mono ?_
  rintro e w' ⟨B, rfl, hm⟩
  obtain ⟨G, sg, sc, svs, hl⟩ := hm.ex
  have := h0.size
  exact ⟨B, rfl, ⟨⟨sg, sc, G, n, _, svs, [], hl⟩, Dk.Fine.new n h1 h2, fun k hk => hk.2, fun k hk => by omega, h0.trans hm.only (fun _ _ e => e)⟩, hm.only⟩
end

/-- both disks, apart -/
structure Both (w0 w : World) (F G : Nat → Prop) (B R : Nat) (dd dr : Dk) : Prop where
  dk : Dks w0 w F B dd
  rk : Rks w0 w G R dr
  apart : ∀ k, F k → ¬ G k

section
variable {w0 w w' : World} {F G F' G' : Nat → Prop} {B R : Nat} {dd dr d' : Dk}
theorem Both.same (h : Both w0 w F G B R dd dr) (ho : Only (fun _ => False) w w') : Both w0 w' F G B R dd dr := ⟨h.dk.same ho, h.rk.same ho, h.apart⟩
theorem Both.went (h : Both w0 w F G B R dd dr) (hw : Went w0 w w' F F' B d') : Both w0 w' F' G B R d' dr :=
  ⟨hw.dk, h.rk.later hw.only (fun k _ hk => ⟨h.apart k hk, h.dk.up k hk⟩), fun k hk hg => by
    rcases hw.grew k hk with e | e
    · exact h.apart k e hg
    · have := h.rk.lt k hg; omega⟩
theorem Both.rwent (h : Both w0 w F G B R dd dr) (hw : RWent w0 w w' G G' R d') : Both w0 w' F G' B R dd d' :=
  ⟨h.dk.later hw.only (fun k _ hk => ⟨fun e => h.apart k e hk, h.rk.up k hk⟩), hw.rk, fun k hk hg => by
    rcases hw.grew k hg with e | e
    · exact h.apart k hk e
    · have := h.dk.lt k hk; omega⟩
/-- a third one, apart from both, was turned -/
theorem Both.beside (h : Both w0 w F G B R dd dr) {C : Nat → Prop} (ho : Only C w w') (hC : ∀ k, k < w.heap.size → C k → ¬ F k ∧ ¬ G k ∧ w0.heap.size ≤ k) : Both w0 w' F G B R dd dr :=
  ⟨h.dk.later ho (fun k hk hc => ⟨(hC k hk hc).1, (hC k hk hc).2.2⟩), h.rk.later ho (fun k hk hc => ⟨(hC k hk hc).2.1, (hC k hk hc).2.2⟩), h.apart⟩
end

end Go.Proofs.Ytjhcmhdekppplaa
